/- The document's oid: 32 bytes at a place. -/
import Derived.Test.YtjkneidoochfjaaGreatDoorMOb29s
import Derived.Test.YtjkneidoochfjaaGreatDoorMBases
import Derived.Test.YtjkneidoochfjaaGreatDoorMShaMsgMaths
import Derived.Laws.IdiomCopy
import Derived.Deep.MidRow
import Derived.Test.YtjkneidoochfjaaGreatDoorMEn30s
import Derived.Test.YtjkneidoochfjaaGreatDoorMEn16s
namespace Go.Proofs.YtjkneidoochfjaaGreatDoor
open Go Go.RowKit
theorem id_size : (Tryz.prog.info? 53).map (·.size) = some 32 := by kernel_rfl
theorem id_built : Tryz.prog.built 53 [] = some (u8s (List.replicate 32 0)) := by kernel_rfl
set_option maxRecDepth 100000 in
theorem roid_any (A : Option Addr) (c : Nat) (xs : List Nat) (w : World) (hv : Rd w (.slice A xs.length c) xs) (hl : 32 ≤ xs.length) :
    Calls Tryz.prog 53 #[.slice A xs.length c] w fun e w' => e = .returned (.agg (u8s (xs.take 32))) ∧ Below w.heap.size w w' := by
  obtain ⟨w1, hw1⟩ : ∃ w1, w1 = w.alloc (.cells (u8s (List.replicate 32 0)) 53) := ⟨_, rfl⟩
  obtain ⟨w2, hw2⟩ : ∃ w2, w2 = w1.alloc (.cells (u8s (List.replicate 32 0)) 53) := ⟨_, rfl⟩
  have s1 : w1.heap.size = w.heap.size + 1 := by rw [hw1]; simp
  have B1 : Below w.heap.size w w1 := hw1 ▸ (Below.refl _ _).alloc (Nat.le_refl _) _
  have B2 : Below w.heap.size w w2 := by rw [hw2]; exact B1.alloc (by omega) _
  have R0 : Blk w2 w.heap.size 53 (u8s (List.replicate 32 0)) := by rw [hw2, hw1]; exact (Blk.new w _ _).alloc _
  have R1 : Blk w2 (w.heap.size + 1) 53 (u8s (List.replicate 32 0)) := by
    have h := Blk.new w1 53 (u8s (List.replicate 32 0))
    rw [s1] at h
    rw [hw2]; exact h
  have HR0 := Lib.hid R0
  have HR1 := Lib.hid R1
  have HB2 := Lib.hid B2
  have hyl : (xs.take 32).length = 32 := by rw [List.length_take]; omega
  have hcl : 32 ≤ c := by obtain ⟨A', c', e, hc, _⟩ := hv; injection e with _ e2 e3; omega
  have q1 : ∀ w', (Instr.slice 32 (.slice A xs.length c) none (some (.int .i64 (32 : Int))) none).run Tryz.prog w' = .ok (.slice A 32 c) w' := fun w' => run_sliceHi Tryz.underlying32 (by kernel_rfl) A xs.length c 32 (by omega) rfl w'
  have HV := Lib.hid ((hv.cutHi hl).below (below_drewN B2 1) (Nat.le_refl _))
  obtain ⟨ys, hys⟩ : ∃ ys, ys = xs.take 32 := ⟨_, rfl⟩
  rw [← hys] at hyl HV ⊢
  have HYL := Lib.hid hyl
  have e1 := hw1.symm
  have e2 := hw2.symm
  clear hv hl B1 B2 R0 R1 hw1 hw2 hyl hys hcl
  go_enter Tryz.func53, Tryz.ntmps53
  go_wp2_with (with_reducible (show wpList _ _ _ (Oper.mk _ (Op.build _ _) _ _ _ _ :: _) _ _); refine pause ?_)
  unfold Paused
  change wpList _ _ _ _ _ (w.alloc (.cells (u8s (List.replicate 32 0)) 53))
  rw [e1]
  refine wpList_buildK (by rfl) 53 _ (by rfl) [] (by simp) (u8s (List.replicate 32 0)) id_built ?_
  go_wp2_with (with_reducible (show wpList _ _ _ (Oper.mk _ (Op.store 53 _ _) _ _ _ _ :: _) _ _); refine pause ?_)
  unfold Paused
  change wpList _ _ _ _ _ (w1.alloc (.cells (u8s (List.replicate 32 0)) 53))
  rw [e2]
  refine wpList_store_row rfl 53 (.tmp 3) (.tmp 4) rfl (w.heap.size + 1) (u8s (List.replicate 32 0)) (by first | rfl | (rw [← s1]; rfl)) rfl 53 (u8s (List.replicate 32 0)) HR1.out (by kernel_rfl) rfl (u8s_one _) ?_
  rw [setRow_self w2 (w.heap.size + 1) (u8s (List.replicate 32 0)) 53 (0, 0) HR1.out]
  simp only [Act.put]
  go_wp2
  refine wp_region_held (S := fun _ => True) (by kernel_rfl) ?_
  change wpAnyH _ _ _ _ _ _ _ _ w2.drew
  refine wpAnyH_take (i := 0) (v := ?_) rfl (by kernel_rfl) (by kernel_rfl) (by kernel_rfl) (fun _ _ _ h => h) (Or.inl ⟨by rfl, ?_⟩) trivial ?_
  rotate_left
  · intro w' _; go_simp; with_reducible rfl
  try simp only [Act.put, List.getElem_toArray, List.getElem_cons_zero, List.setIfInBounds_toArray, List.set_cons_zero, List.set_cons_succ]
  refine wpAnyH_take (i := 1) (v := ?_) rfl (by kernel_rfl) (by kernel_rfl) (by kernel_rfl) (fun _ _ _ h => h) (Or.inl ⟨by rfl, ?_⟩) trivial ?_
  rotate_left
  · intro w' _; go_simp; with_reducible rfl
  try simp only [Act.put, List.getElem_toArray, List.getElem_cons_zero, List.getElem_cons_succ, List.setIfInBounds_toArray, List.set_cons_zero, List.set_cons_succ]
  refine wpAnyH_take (i := 2) (v := .slice A 32 c) rfl (by kernel_rfl) (by kernel_rfl) (by kernel_rfl) (fun _ _ _ h => h) (Or.inl ⟨by rfl, ?_⟩) trivial ?_
  · intro w' _; go_simp
  try simp only [Act.put, List.getElem_toArray, List.getElem_cons_zero, List.getElem_cons_succ, List.setIfInBounds_toArray, List.set_cons_zero, List.set_cons_succ]
  obtain ⟨A', c', eA, hcc, hA⟩ := HV.out
  rw [HYL.out] at eA hA
  injection eA with e3 _ e4
  subst e3 e4
  obtain ⟨b, oo, rfl, _, hx⟩ := hA (by omega)
  refine all_one (i := 3) (by kernel_rfl) rfl (by rfl) (fun K hK => ?_)
  refine wp_copy32 (.tmp 5) (.tmp 7) rfl (w.heap.size + 1) 53 (List.replicate 32 0) HR1.out.drew (by decide) rfl ⟨b, oo, none⟩ c rfl ys HYL.out (fun j hj => by rw [Addr.add_mid]; exact hx j hj) ?_
  have HD : Hid (Blk (w2.drew.setRow (w.heap.size + 1) (u8s ys)) w.heap.size 53 (u8s (List.replicate 32 0)) ∧ Blk (w2.drew.setRow (w.heap.size + 1) (u8s ys)) (w.heap.size + 1) 53 (u8s ys) ∧ Below w.heap.size w (w2.drew.setRow (w.heap.size + 1) (u8s ys))) := Lib.hid ⟨HR0.out.drew.farRow (by omega) _, HR1.out.drew.row _, below_row (below_drewN HB2.out 1) (by omega) _⟩
  refine hK _ _ trivial ?_; clear hK K
  try simp only [Act.put, List.getElem_toArray, List.getElem_cons_zero, List.getElem_cons_succ, List.setIfInBounds_toArray, List.set_cons_zero, List.set_cons_succ]
  refine wpAnyH_done (by kernel_rfl) ?_ _
  generalize w2.drew.setRow (w.heap.size + 1) (u8s ys) = w3 at HD ⊢
  go_wp2_with (first | (refine wpList_load_row rfl 53 (.tmp 3) rfl (w.heap.size + 1) rfl 53 (u8s ys) (0,0) _ HD.out.2.1 Tryz.underlying53 rfl (by rw [u8s_size, HYL.out]; exact id_size) ?_) | (refine wpList_store_row rfl 53 (.tmp 2) (.tmp 9) rfl w.heap.size _ rfl rfl 53 _ HD.out.1 (by rw [u8s_size, HYL.out]; exact id_size) (by rw [u8s_size, u8s_size, HYL.out]; rfl) (u8s_one _) ?_))
  exact bodyPost_ret (v := .agg (u8s ys)) (results_cell_row rfl _ _ w.heap.size 53 _ (0, 0) _ rfl (HD.out.1.row _) Tryz.underlying53 rfl (by rw [u8s_size, HYL.out]; exact id_size)) rfl ⟨rfl, below_row HD.out.2.2 (Nat.le_refl _) _⟩
end Go.Proofs.YtjkneidoochfjaaGreatDoor
/- Plain mathematics of figures that are read, and of the order of byte lists. Nothing of the program. -/
namespace Go.Proofs.YtjkneidoochfjaaGreatDoor
namespace Sha
/-- a figure's number; below 0: it is none -/
def fgI (c : Nat) : Int := if 48 ≤ c ∧ c ≤ 57 then (c : Int) - 48 else if 97 ≤ c ∧ c ≤ 102 then (c : Int) - 87 else -1
def good (l : List Nat) : Prop := ∀ i, i < 64 → 0 ≤ fgI (l.getD i 0)
/-- which of two lists of bytes comes first: below 0, 0, above 0 -/
def cmpN : List Nat → List Nat → Int
  | [], [] => 0
  | [], _ :: _ => -1
  | _ :: _, [] => 1
  | a :: zs9, b :: bs => if a < b then -1 else if b < a then 1 else cmpN zs9 bs
theorem cmpN_self : ∀ (a : List Nat), cmpN a a = 0
  | [] => rfl
  | a :: zs9 => by simp [cmpN, cmpN_self zs9]
end Sha
end Go.Proofs.YtjkneidoochfjaaGreatDoor
/- Plain mathematics of lists of digests: neighbours that are the same told once, what rises. Nothing of the program. -/
namespace Go.Proofs.YtjkneidoochfjaaGreatDoor
namespace Sha
/-- each is ahead of all later ones -/
def Rising (l : List (List Nat)) : Prop := ∀ i j, i < j → j < l.length → cmpN (l.getD i []) (l.getD j []) < 0
/-- all are digests -/
def Oids (l : List (List Nat)) : Prop := ∀ o ∈ l, o.length = 32 ∧ Byte o
theorem Oids.getD {l : List (List Nat)} (h : Oids l) {i : Nat} (hi : i < l.length) : (l.getD i []).length = 32 ∧ Byte (l.getD i []) := by
  have e : l.getD i [] = l[i] := by simp [List.getD, hi]
  rw [e]; exact h _ (List.getElem_mem _)
theorem flat_len {l : List (List Nat)} (h : Oids l) : l.flatten.length = 32 * l.length := by
  induction l with
  | nil => rfl
  | cons a l ih =>
    rw [List.flatten_cons, List.length_append, (h a List.mem_cons_self).1, ih (fun o ho => h o (List.mem_cons_of_mem _ ho)), List.length_cons]; omega
theorem Oids.set {l : List (List Nat)} (h : Oids l) {x : List Nat} (hx : x.length = 32 ∧ Byte x) (k : Nat) : Oids (l.set k x) := fun o ho => by
  rcases List.mem_or_eq_of_mem_set ho with h1 | rfl
  · exact h o h1
  · exact hx
theorem one_of {r : List (List Nat)} {a : List Nat} (hr : Rising r) (hm : ∀ x, x ∈ r ↔ x = a) : r = [a] := by
  have irr : ∀ x, ¬ cmpN x x < 0 := fun x h => by rw [cmpN_self] at h; omega
  match r, hr, hm with
  | [], _, hm => exact absurd ((hm a).2 rfl) (by simp)
  | [x], _, hm => rw [(hm x).1 (by simp)]
  | x :: y :: r, hr, hm =>
    have h1 := hr 0 1 (by omega) (by simp)
    simp only [List.getD_cons_zero, List.getD_cons_succ] at h1
    rw [(hm x).1 (by simp), (hm y).1 (by simp)] at h1
    exact absurd h1 (irr _)
end Sha
end Go.Proofs.YtjkneidoochfjaaGreatDoor
/- Words for slices of digests in memory: rows of 32 cells each; copy and clear of such slices. -/
namespace Go.Proofs.YtjkneidoochfjaaGreatDoor
open Go Go.RowKit
def cellsN (x : List Nat) : List Value := x.map fun (n : Nat) => Value.int .u8 (n : Int)
theorem cellsN_len (x : List Nat) : (cellsN x).length = x.length := by simp [cellsN]
/-- Block b holds these digests from its beginning on, and may be written there. -/
structure OidRow (w : World) (b : Nat) (l : List (List Nat)) : Prop where
  at_ : ∀ i, i < l.length → w.rangeAt b (32 * i) (cellsN (l.getD i []))
  room : w.there b 0 (32 * l.length)
theorem OidRow.drewN {w : World} {b : Nat} {l : List (List Nat)} (h : OidRow w b l) (n : Nat) : OidRow (w.drewN n) b l := ⟨h.at_, h.room⟩
theorem OidRow.lt {w : World} {b : Nat} {l : List (List Nat)} (h : OidRow w b l) (h0 : 0 < l.length) : b < w.heap.size := by
  obtain ⟨u, hu⟩ := Option.isSome_iff_exists.1 (h.room 0 (by omega)).1
  exact block_lt_of_cell hu
theorem OidRow.there {w : World} {b : Nat} {l : List (List Nat)} (h : OidRow w b l) {k : Nat} (hk : k < l.length) : w.there b (32 * k) 32 := fun j hj => by
  have := h.room (32 * k + j) (by omega)
  rwa [Nat.zero_add] at this
theorem OidRow.set {w : World} {b : Nat} {l : List (List Nat)} (h : OidRow w b l) (hl : Sha.Oids l) {k : Nat} (hk : k < l.length) {x : List Nat} (hx : x.length = 32) :
    OidRow (w.setCells b (32 * k) (cellsN x)) b (l.set k x) := by
  refine ⟨fun i hi => ?_, ?_⟩
  · rw [List.length_set] at hi
    by_cases e : i = k
    · subst e
      have e1 : (l.set i x).getD i [] = x := by simp [List.getD, hi]
      rw [e1]
      exact World.rangeAt_setCells_same w b (32 * i) _ (by rw [cellsN_len, hx]; exact h.there hi)
    · have e1 : (l.set k x).getD i [] = l.getD i [] := by simp [List.getD, Ne.symm e]
      rw [e1]
      refine World.rangeAt_setCells_apart (h.at_ i hi) b (32 * k) _ (Or.inr ?_)
      rw [cellsN_len, cellsN_len, hx, (hl.getD hi).1]
      omega
  · rw [List.length_set]
    exact World.there_setCells h.room b _ _
theorem run_sliceHi_k {P : Program} {t e : TypeId} {k : Nat} (ht : P.underlying t = some (.slice e)) (hi : (P.info? e).map (·.size) = some k) (b o len cap h : Nat) (h1 : h ≤ cap) (h2 : 0 < cap)
    {hh : Int} (el : hh = h) (w : World) :
    (Instr.slice t (.slice (some ⟨b, o, none⟩) len cap) none (some (.int .i64 hh)) none).run P w = .ok (.slice (some ⟨b, o, none⟩) h cap) w := by
  subst el
  cases hq : P.info? e with
  | none => simp [hq] at hi
  | some i =>
    have hs : i.size = k := by simpa [hq] using hi
    have hn : ((h : Nat) : Int) ≤ cap := by omega
    have hc : ¬ cap = 0 := by omega
    simp [Instr.slice, run_underlying ht, Instr.sliceBounds, run_sliceBound, sizeOf, typeInfo, hq, hn, Addr.add]
end Go.Proofs.YtjkneidoochfjaaGreatDoor
/- The document's updates: are they right (cartageref10.Updates); an id out of bytes (cartageref10.oid). -/
namespace Go.Proofs.YtjkneidoochfjaaGreatDoor
open Go Go.RowKit
theorem exec_eqlZ {P : Program} {o : Oper} {a : Act} {w : World} (t : TypeId) (x y : Operand) {z : TypeId} (ho : o.op = .binOp .eql t x y z) (xs ys : Array Value) (hx : a.eval x = .agg xs) (hy : a.eval y = .agg ys) {r : Bool}
    (h : (Op.equalIn 10000 t (.agg xs) (.agg ys)).run P w = .ok r w) (hm : P.eqGuardType P.depth t = false := by kernel_rfl) : (execOp a.eval o).run P w = .ok (.value (.bool r)) w := by
  unfold execOp
  simp only [ho, hx, hy, Sem.run_bind, run_eqGuard_agg w .eql t x y xs ys hm, run_eql_struct, h, Result.andThen_ok]
  rfl
theorem wpList_eqlZ {P : Program} {ops : Array Oper} {rest : List Oper} {o : Oper} {a : Act} {w : World} {Q : Exit → Act → World → Prop} (hw : Region.wanted o (yielded ops a.tmps) = true) (t : TypeId) (x y : Operand) {z : TypeId} (ho : o.op = .binOp .eql t x y z) (xs ys : Array Value) (hx : a.eval x = .agg xs) (hy : a.eval y = .agg ys) (r : Bool)
    (h : (Op.equalIn 10000 t (.agg xs) (.agg ys)).run P w = .ok r w) (hm : P.eqGuardType P.depth t = false) (h2 : wpList P ops Q rest (a.put o.dst (.bool r)) w) : wpList P ops Q (o :: rest) a w :=
  wpList_step fun K hK => by
    simp only [hw, if_true]
    unfold Oper.wp
    rw [exec_eqlZ t x y ho xs ys hx hy h hm]
    exact hK _ _ h2
theorem rup_load {u : En.Up} (h : u.Fit) : (Tryz.prog.info? 58).map (·.size) = some (cellsU1 u).length := by rw [cellsU1_len h]; kernel_rfl
theorem rup_load2 {u : En.Up} (h : u.Fit) : (Tryz.prog.info? 58).map (·.size) = some (cellsU1 u).toArray.size := by rw [List.size_toArray]; exact rup_load h
theorem rng_oldR {w : World} {g : Nat} {u : En.Up} (hf : u.Fit) (h : Blk w g 58 (cellsU1 u).toArray) : w.rangeAt g 1 (cellsB u.old) := fun j v hj => by
  have hl : j < 32 := by have := (List.getElem?_eq_some_iff.1 hj).1; rwa [cellsB_len, hf.1.1] at this
  rw [h.cell, List.getElem?_toArray, cellsU1, Nat.add_comm 1 j, List.getElem?_cons_succ, List.getElem?_append_left (by rw [cellsB_len, hf.1.1]; exact hl)]
  exact hj
theorem rng_newR {w : World} {g : Nat} {u : En.Up} (hf : u.Fit) (h : Blk w g 58 (cellsU1 u).toArray) : w.rangeAt g 33 (cellsB u.new) := fun j v hj => by
  have hl : j < 32 := by have := (List.getElem?_eq_some_iff.1 hj).1; rwa [cellsB_len, hf.2.1] at this
  rw [h.cell, List.getElem?_toArray, cellsU1, show 33 + j = (32 + j) + 1 by omega, List.getElem?_cons_succ, List.getElem?_append_right (by rw [cellsB_len, hf.1.1]; omega), cellsB_len, hf.1.1, show 32 + j - 32 = j by omega]
  exact hj
/-- an update loaded into a box of its own -/
theorem boxU {w : World} {u : En.Up} : Below w.heap.size w ((w.alloc (.cells zU 58)).setRow w.heap.size (cellsU1 u).toArray) ∧ Blk ((w.alloc (.cells zU 58)).setRow w.heap.size (cellsU1 u).toArray) w.heap.size 58 (cellsU1 u).toArray :=
  ⟨below_row ((Below.refl _ _).alloc (Nat.le_refl _) _) (Nat.le_refl _) _, (Blk.new w _ _).row _⟩
theorem En.once_step {l : List (ByteArray × Bool)} {k : Nat} (hk : k < l.length) (h : En.once (l.take k) = true) (h1 : l[k].2 = true) (h2 : l[k].1 ∉ (l.take k).map (·.1)) : En.once (l.take (k + 1)) = true := by
  rw [List.take_succ_eq_append_getElem hk]
  exact En.once_snoc h h1 h2
set_option maxRecDepth 100000 in
set_option maxHeartbeats 8000000 in
theorem rupdates_any (us : List En.Up) (A : Option Addr) (n c : Nat) (w : World) (hx : RdK w (.slice A n c) n (cellsU us)) (hl : n = us.length) (hf : ∀ u ∈ us, u.Fit) (hs : ∀ u ∈ us, u.ref.size ≤ 3000) (hn : n ≤ 1000) :
    Calls Tryz.prog 11 #[.slice A n c] w fun e w' => e = .returned (.bool (En.upsOk us)) ∧ Below w.heap.size w w' := by
  have HX := Lib.hid hx
  have HFT := Lib.hid hf
  have HSZ := Lib.hid hs
  have HL := Lib.hid hl
  have HN := Lib.hid hn
  have hc : n ≤ c := by obtain ⟨A', c', hv, hc, _⟩ := hx; injection hv with _ _ e3; omega
  have HCC := Lib.hid hc
  obtain ⟨ks, hks⟩ : ∃ ks, ks = us.map En.upKey := ⟨_, rfl⟩
  have HOK : Hid (En.upsOk us = (decide (1 ≤ n) && (decide (n ≤ 8) && En.once ks))) := Lib.hid (by rw [hl, hks]; rfl)
  generalize En.upsOk us = R at HOK ⊢
  have HKS := Lib.hid hks
  have HLK : Hid (n = ks.length) := Lib.hid (by rw [hks, List.length_map]; exact hl)
  have HB0 := Lib.hid (Below.refl w.heap.size w)
  clear hx hl hf hs hn hks hc
  go_enter Tryz.func11, Tryz.ntmps11
  go_wp2
  go_loopw [9] (fun i wr => ∃ k : Nat, k ≤ n ∧ i = .int .i64 k ∧ Hid (Below w.heap.size w wr) ∧ Hid (En.once (ks.take k) = true)) (fun i _ => n - (intOf i).toNat)
  case atStart => exact ⟨0, Nat.zero_le _, rfl, HB0, Lib.hid (by rw [List.take_zero]; exact En.once_nil)⟩
  case round =>
    obtain ⟨k, hk, rfl, HB, HO⟩ := hrel
    by_cases hlt : k < n
    · have hki : k < ks.length := by rw [← HLK.out]; exact hlt
      have hkl : k < us.length := by rw [← HL.out]; exact hlt
      have HKI := Lib.hid hki
      have i1 : ((k : Nat) : Int) < n := by omega
      have i2 : (0 : Int) ≤ ((k : Nat) : Int) := by omega
      have i3 : ((k : Nat) : Int) < 1000 := by have := HN.out; omega
      have hxx := HX.out
      rw [HL.out] at hxx
      obtain ⟨b, o, rfl, hbl, hrg⟩ := hxx.up rfl HFT.out hkl
      have hke : ks[k]'(HKI.out) = En.upKey us[k] := (List.getElem_of_eq HKS.out HKI.out).trans (by simp)
      have hft := HFT.out _ (List.getElem_mem hkl)
      have hsz := HSZ.out _ (List.getElem_mem hkl)
      generalize us[k] = u at hrg hke hft hsz
      have HFU := Lib.hid hft
      have HKE := Lib.hid hke
      have HBL := Lib.hid hbl
      have HRG : Hid (wr.rangeAt b (o + k * 65) (cellsU1 u)) := Lib.hid (fun j v hj => (HB.out.cell (p := ⟨b, o + k * 65 + j, none⟩) hbl).trans (hrg j v hj))
      have HLT : Hid (k + 1 ≤ n) := Lib.hid hlt
      have HZU := Lib.hid hsz
      clear hki hkl hxx hbl hrg hke hft hsz hk hlt
      go_wp2_with (with_reducible (show wpList _ _ _ (Oper.mk _ (Op.load 58 _) _ _ _ _ :: _) _ _); refine pause ?_)
      unfold Paused
      refine wpList_mid_w (by rfl) 58 (.tmp 12) (by rfl) b (o + k * 65) (by rfl) (cellsU1 u) _ HRG.out Tryz.underlying58 (by rfl) (rup_load HFU.out) ?_
      go_wp2_with (with_reducible (show wpList _ _ _ (Oper.mk _ (Op.store 58 _ _) _ _ _ _ :: _) _ _); refine pause ?_)
      unfold Paused
      change wpList _ _ _ _ _ (wr.alloc (.cells zU 58))
      refine wpList_store_row (by rfl) 58 (.tmp 4) (.tmp 13) (by rfl) wr.heap.size (cellsU1 u).toArray (by rfl) (by rfl) 58 zU (Blk.new wr _ _) (rup_load2 HFU.out) (by rw [zU_size, List.size_toArray, cellsU1_len HFU.out]) (cellsU1_one u) ?_
      have HX6 := Lib.hid (boxU (w := wr) (u := u))
      generalize (wr.alloc (.cells zU 58)).setRow wr.heap.size (cellsU1 u).toArray = w6 at HX6 ⊢
      have HB6 := Lib.hid (below_next HB.out HX6.out.1)
      have HI6 := Lib.hid HX6.out.2
      clear HRG HB HX6
      generalize wr.heap.size = g6 at HI6 ⊢
      clear wr
      simp only [Act.put]
      have h0 : w6.cell? ⟨g6, 0, none⟩ = some (.string u.ref) := HI6.out.cell 0
      have CR := rref_any u.ref w6 HZU.out
      have HKK : Hid (En.upKey u = (u.ref, Nm.ref u.ref.data.toList && !(eqv u.old u.new))) := Lib.hid rfl
      obtain ⟨r1, hr1⟩ : ∃ r1, r1 = Nm.ref u.ref.data.toList := ⟨_, rfl⟩
      rw [← hr1] at CR HKK
      clear hr1
      go_wp2_with (go_at_call 27; refine pause ?_)
      unfold Paused
      refine CR.mono ?_
      rintro e w7 ⟨rfl, hb7⟩
      have HB7 := Lib.hid (below_next HB6.out hb7)
      have HI7 := Lib.hid (HI6.out.below hb7 HI6.out.lt)
      clear hb7 CR HB6 HI6 h0
      clear w6
      cases r1
      · have HF : Hid (R = false) := Lib.hid (by
          rw [HOK.out, En.once_bad HKI.out (by rw [HKE.out, HKK.out]; rfl), Bool.and_false, Bool.and_false])
        go_wp2
        go_ret
        exact ⟨by rw [HF.out]; rfl, HB7.out⟩
      · skip
        go_wp2_with (with_reducible (show wpList _ _ _ (Oper.mk _ (Op.load 53 _) _ _ _ _ :: _) _ _); refine pause ?_)
        unfold Paused
        refine wpList_mid_w (by rfl) 53 (.tmp 19) (by rfl) g6 1 (by rfl) (cellsB u.old) _ (rng_oldR HFU.out HI7.out) Tryz.underlying53 (by rfl) (by rw [cellsB_len, HFU.out.1.1]; kernel_rfl) ?_
        go_wp2_with (with_reducible (show wpList _ _ _ (Oper.mk _ (Op.load 53 _) _ _ _ _ :: _) _ _); refine pause ?_)
        unfold Paused
        refine wpList_mid_w (by rfl) 53 (.tmp 21) (by rfl) g6 33 (by rfl) (cellsB u.new) _ (rng_newR HFU.out HI7.out) Tryz.underlying53 (by rfl) (by rw [cellsB_len, HFU.out.2.1]; kernel_rfl) ?_
        have HEQ := Lib.hid (id_eq9R 9998 w7 u.old u.new HFU.out.1 HFU.out.2)
        obtain ⟨r2, hr2⟩ : ∃ r2, r2 = eqv u.old u.new := ⟨_, rfl⟩
        rw [← hr2] at HEQ HKK
        clear hr2
        refine wpList_eqlZ (by rfl) 53 (.tmp 20) (.tmp 22) (by rfl) _ _ (by rfl) (by rfl) r2 HEQ.out (by kernel_rfl) ?_
        cases r2
        rotate_left
        · have HF : Hid (R = false) := Lib.hid (by
            rw [HOK.out, En.once_bad HKI.out (by rw [HKE.out, HKK.out]; rfl), Bool.and_false, Bool.and_false])
          go_wp2
          go_ret
          exact ⟨by rw [HF.out]; rfl, HB7.out⟩
        have q1 : ∀ w', (Instr.slice 27 (.slice (some ⟨b, o, none⟩) n c) none (some (.int .i64 (k : Int))) none).run Tryz.prog w' = .ok (.slice (some ⟨b, o, none⟩) k c) w' := fun w' => run_sliceHi_k (k := 65) Tryz.underlying27 (by kernel_rfl) b o n c k (by have := HLT.out; have := HCC.out; omega) (by have := HLT.out; have := HCC.out; omega) rfl w'
        go_wp2
        go_loopw [29] (fun i wr => ∃ j : Nat, j ≤ k ∧ i = .int .i64 j ∧ Hid (Below w.heap.size w wr) ∧ Hid (Blk wr g6 58 (cellsU1 u).toArray) ∧ Hid (u.ref ∉ (ks.take j).map (·.1))) (fun i _ => k - (intOf i).toNat)
        case atStart => exact ⟨0, Nat.zero_le _, rfl, HB7, HI7, Lib.hid (by rw [List.take_zero]; simp)⟩
        case round =>
          obtain ⟨j, hj, rfl, HB8, HI8, HNM⟩ := hrel
          by_cases hjk : j < k
          · have hjl : j < us.length := by have := HLT.out; have := HL.out; omega
            have hjks : j < ks.length := by have := HLT.out; have := HLK.out; omega
            have i4 : ((j : Nat) : Int) < k := by omega
            have i5 : (0 : Int) ≤ ((j : Nat) : Int) := by omega
            have hxx := HX.out
            rw [HL.out] at hxx
            obtain ⟨b2, o2, hbo, hbl, hrg⟩ := hxx.up rfl HFT.out hjl
            injection hbo with hbo
            injection hbo with hb2 ho2 _
            subst hb2 ho2
            have hke : ks[j]'hjks = En.upKey us[j] := (List.getElem_of_eq HKS.out hjks).trans (by simp)
            have hft := HFT.out _ (List.getElem_mem hjl)
            generalize us[j] = x at hrg hke hft
            have HFX := Lib.hid hft
            have HRG : Hid (wr.rangeAt b (o + j * 65) (cellsU1 x)) := Lib.hid (fun i v hi => (HB8.out.cell (p := ⟨b, o + j * 65 + i, none⟩) hbl).trans (hrg i v hi))
            have HJK : Hid (j + 1 ≤ k) := Lib.hid hjk
            have HSAME : Hid (x.ref = u.ref → En.once ks = false) := Lib.hid (fun e => En.once_twice HKI.out (by
              rw [HKE.out]
              show u.ref ∈ _
              rw [← e]
              refine List.mem_map.2 ⟨ks[j]'hjks, ?_, by rw [hke]; rfl⟩
              exact List.mem_take_iff_getElem.2 ⟨j, by omega, rfl⟩))
            have HDIFF : Hid (x.ref ≠ u.ref → u.ref ∉ (ks.take (j + 1)).map (·.1)) := Lib.hid (fun e hm => by
              rw [List.take_succ_eq_append_getElem hjks, List.map_append] at hm
              rcases List.mem_append.1 hm with hm | hm
              · exact HNM.out hm
              · simp only [List.map_cons, List.map_nil, List.mem_singleton] at hm
                rw [hke] at hm
                exact e hm.symm)
            clear hjl hjks hxx hbl hrg hke hft hj hjk
            go_wp2_with (with_reducible (show wpList _ _ _ (Oper.mk _ (Op.load 58 _) _ _ _ _ :: _) _ _); refine pause ?_)
            unfold Paused
            refine wpList_mid_w (by rfl) 58 (.tmp 31) (by rfl) b (o + j * 65) (by rfl) (cellsU1 x) _ HRG.out Tryz.underlying58 (by rfl) (rup_load HFX.out) ?_
            go_wp2_with (with_reducible (show wpList _ _ _ (Oper.mk _ (Op.store 58 _ _) _ _ _ _ :: _) _ _); refine pause ?_)
            unfold Paused
            change wpList _ _ _ _ _ (wr.alloc (.cells zU 58))
            refine wpList_store_row (by rfl) 58 (.tmp 6) (.tmp 32) (by rfl) wr.heap.size (cellsU1 x).toArray (by rfl) (by rfl) 58 zU (Blk.new wr _ _) (rup_load2 HFX.out) (by rw [zU_size, List.size_toArray, cellsU1_len HFX.out]) (cellsU1_one x) ?_
            have HX9 := Lib.hid (boxU (w := wr) (u := x))
            generalize (wr.alloc (.cells zU 58)).setRow wr.heap.size (cellsU1 x).toArray = w9 at HX9 ⊢
            have HB9 := Lib.hid (below_next HB8.out HX9.out.1)
            have HI9 := Lib.hid (HI8.out.below HX9.out.1 HI8.out.lt)
            have HJ9 := Lib.hid HX9.out.2
            clear HRG HB8 HI8 HX9
            generalize wr.heap.size = g9 at HJ9 ⊢
            clear wr
            simp only [Act.put]
            have h9 : w9.cell? ⟨g9, 0, none⟩ = some (.string x.ref) := HJ9.out.cell 0
            have h6 : w9.cell? ⟨g6, 0, none⟩ = some (.string u.ref) := HI9.out.cell 0
            rcases Classical.em (x.ref = u.ref) with e | e
            · have hq : (x.ref.toList == u.ref.toList) = true := toList_inj.trans (eqv_true e)
              have HF : Hid (R = false) := Lib.hid (by
                rw [HOK.out, HSAME.out e, Bool.and_false, Bool.and_false])
              clear e HSAME HDIFF
              go_wp2
              go_ret
              exact ⟨by rw [HF.out]; rfl, HB9.out⟩
            · have hq : (x.ref.toList == u.ref.toList) = false := toList_inj.trans (eqv_false e)
              have HNX := Lib.hid (HDIFF.out e)
              clear e HSAME HDIFF
              go_wp2
              go_roundw
              case rel => exact ⟨j + 1, HJK.out, by go_num, HB9, HI9, HNX⟩
              case measure => have h5 := HJK.out; simp [intOf]; omega
          · obtain rfl : j = k := by omega
            have ij : ¬ ((j : Nat) : Int) < j := by omega
            have HON : Hid (En.once (ks.take (j + 1)) = true) := Lib.hid (En.once_step HKI.out HO.out (by rw [HKE.out, HKK.out]; rfl) (by rw [HKE.out]; exact HNM.out))
            go_wp2
            go_roundw
            case rel => exact ⟨j + 1, HLT.out, by go_num, HB8, HON⟩
            case measure => have h5 := HLT.out; simp [intOf]; omega
    · obtain rfl : k = n := by omega
      have ik : ¬ ((k : Nat) : Int) < k := by omega
      have HOA : Hid (En.once ks = true) := Lib.hid (by have h1 := HO.out; rwa [HLK.out, List.take_length] at h1)
      clear hk hlt HO
      have HRR : Hid (R = (decide (1 ≤ k) && decide (k ≤ 8))) := Lib.hid (by rw [HOK.out, HOA.out, Bool.and_true])
      by_cases h1 : 1 ≤ k
      · have j1 : (0 : Int) < ((k : Nat) : Int) := by omega
        by_cases h2 : k ≤ 8
        · have j2 : ((k : Nat) : Int) < 9 := by omega
          have HF : Hid (R = true) := Lib.hid (by rw [HRR.out, decide_eq_true h1, decide_eq_true h2]; rfl)
          clear h1 h2
          go_wp2
          go_ret
          exact ⟨by rw [HF.out]; rfl, HB.out⟩
        · have j2 : ¬ ((k : Nat) : Int) < 9 := by omega
          have HF : Hid (R = false) := Lib.hid (by rw [HRR.out, decide_eq_false h2, Bool.and_false])
          clear h1 h2
          go_wp2
          go_ret
          exact ⟨by rw [HF.out]; rfl, HB.out⟩
      · have j1 : ¬ (0 : Int) < ((k : Nat) : Int) := by omega
        have HF : Hid (R = false) := Lib.hid (by rw [HRR.out, decide_eq_false h1, Bool.false_and])
        clear h1
        go_wp2
        go_ret
        exact ⟨by rw [HF.out]; rfl, HB.out⟩
end Go.Proofs.YtjkneidoochfjaaGreatDoor
/- The document's oid: 32 bytes. -/
namespace Go.Proofs.YtjkneidoochfjaaGreatDoor
open Go Go.RowKit
set_option maxRecDepth 100000 in
theorem roid10_any (A : Option Addr) (c : Nat) (xs : List Nat) (w : World) (hv : Rd w (.slice A 32 c) xs) (hl : xs.length = 32) :
    Calls Tryz.prog 38 #[.slice A 32 c] w fun e w' => e = .returned (.agg (u8s xs)) ∧ Below w.heap.size w w' := by
  obtain ⟨w1, hw1⟩ : ∃ w1, w1 = w.alloc (.cells (u8s (List.replicate 32 0)) 53) := ⟨_, rfl⟩
  obtain ⟨w2, hw2⟩ : ∃ w2, w2 = w1.alloc (.cells (u8s (List.replicate 32 0)) 53) := ⟨_, rfl⟩
  have s1 : w1.heap.size = w.heap.size + 1 := by rw [hw1]; simp
  have B1 : Below w.heap.size w w1 := hw1 ▸ (Below.refl _ _).alloc (Nat.le_refl _) _
  have B2 : Below w.heap.size w w2 := by rw [hw2]; exact B1.alloc (by omega) _
  have R0 : Blk w2 w.heap.size 53 (u8s (List.replicate 32 0)) := by rw [hw2, hw1]; exact (Blk.new w _ _).alloc _
  have R1 : Blk w2 (w.heap.size + 1) 53 (u8s (List.replicate 32 0)) := by
    have h := Blk.new w1 53 (u8s (List.replicate 32 0))
    rw [s1] at h
    rw [hw2]; exact h
  have HR0 := Lib.hid R0
  have HR1 := Lib.hid R1
  have HB2 := Lib.hid B2
  have HV := Lib.hid (hv.below B2 (Nat.le_refl _))
  have HYL := Lib.hid hl
  have e1 := hw1.symm
  have e2 := hw2.symm
  clear hv hl B1 B2 R0 R1 hw1 hw2
  go_enter Tryz.func38, Tryz.ntmps38
  go_wp2_with (with_reducible (show wpList _ _ _ (Oper.mk _ (Op.build _ _) _ _ _ _ :: _) _ _); refine pause ?_)
  unfold Paused
  change wpList _ _ _ _ _ (w.alloc (.cells (u8s (List.replicate 32 0)) 53))
  rw [e1]
  refine wpList_buildK (by rfl) 53 _ (by rfl) [] (by simp) (u8s (List.replicate 32 0)) id_built ?_
  go_wp2_with (with_reducible (show wpList _ _ _ (Oper.mk _ (Op.store 53 _ _) _ _ _ _ :: _) _ _); refine pause ?_)
  unfold Paused
  change wpList _ _ _ _ _ (w1.alloc (.cells (u8s (List.replicate 32 0)) 53))
  rw [e2]
  refine wpList_store_row rfl 53 (.tmp 3) (.tmp 4) rfl (w.heap.size + 1) (u8s (List.replicate 32 0)) (by first | rfl | (rw [← s1]; rfl)) rfl 53 (u8s (List.replicate 32 0)) HR1.out (by kernel_rfl) rfl (u8s_one _) ?_
  rw [setRow_self w2 (w.heap.size + 1) (u8s (List.replicate 32 0)) 53 (0, 0) HR1.out]
  simp only [Act.put]
  go_wp2_with (with_reducible (show wpList _ _ _ (Oper.mk _ (Op.call (Call.mk (Callee.builtin Builtin.copy) _ _)) _ _ _ _ :: _) _ _); refine pause ?_)
  unfold Paused
  have hv := HV.out
  rw [← HYL.out] at hv
  obtain ⟨A', c', eA, hcc, hA⟩ := hv
  rw [HYL.out] at eA hA
  injection eA with e3 _ e4
  subst e3 e4
  obtain ⟨b, oo, rfl, _, hx⟩ := hA (by omega)
  refine wpList_plain rfl fun K hK => wp_copy32 (.tmp 5) (.tmp 6) rfl (w.heap.size + 1) 53 (List.replicate 32 0) HR1.out (by decide) (by first | rfl | (rw [← s1]; rfl)) ⟨b, oo, none⟩ c rfl xs HYL.out (fun j hj => by rw [Addr.add_mid]; exact hx j hj) ?_
  have HD : Hid (Blk (w2.setRow (w.heap.size + 1) (u8s xs)) w.heap.size 53 (u8s (List.replicate 32 0)) ∧ Blk (w2.setRow (w.heap.size + 1) (u8s xs)) (w.heap.size + 1) 53 (u8s xs) ∧ Below w.heap.size w (w2.setRow (w.heap.size + 1) (u8s xs))) := Lib.hid ⟨HR0.out.farRow (by omega) _, HR1.out.row _, below_row HB2.out (by omega) _⟩
  refine hK _ _ ?_; clear hK K
  generalize w2.setRow (w.heap.size + 1) (u8s xs) = w3 at HD ⊢
  simp only [Act.put]
  go_wp2_with (with_reducible (show wpList _ _ _ (Oper.mk _ (Op.load 53 _) _ _ _ _ :: _) _ _); refine pause ?_)
  unfold Paused
  refine wpList_row_w (by rfl) 53 (.tmp 3) (by rfl) (w.heap.size + 1) (by first | rfl | (rw [← s1]; rfl)) 53 (u8s xs) _ HD.out.2.1 Tryz.underlying53 (by rfl) (by rw [u8s_size, HYL.out]; exact id_size) ?_
  go_wp2_with (with_reducible (show wpList _ _ _ (Oper.mk _ (Op.store 53 _ _) _ _ _ _ :: _) _ _); refine pause ?_)
  unfold Paused
  refine wpList_store_row rfl 53 (.tmp 2) (.tmp 8) rfl w.heap.size (u8s xs) rfl rfl 53 _ HD.out.1 (by rw [u8s_size, HYL.out]; exact id_size) (by rw [u8s_size, u8s_size, HYL.out]; rfl) (u8s_one _) ?_
  simp only [Act.put]
  go_wp2
  exact bodyPost_ret (v := .agg (u8s xs)) (results_cell_row rfl _ _ w.heap.size 53 _ (0, 0) _ rfl (HD.out.1.row _) Tryz.underlying53 rfl (by rw [u8s_size, HYL.out]; exact id_size)) rfl ⟨rfl, below_row HD.out.2.2 (Nat.le_refl _) _⟩
end Go.Proofs.YtjkneidoochfjaaGreatDoor
