/- The walks of layer 3's Parts, Ref and Repo, and of the chapter's example. -/
import Derived.Test.YtldfjpafpfakcaaDoorMOb30s
import Derived.Test.YtldfjpafpfakcaaDoorMBases
import Derived.Maps.OwnSet
import Derived.StringKeys
namespace Go.Proofs.YtldfjpafpfakcaaDoor
open Go Go.RowKit
/-- The library's variable that Split reads: some number. -/
def MaxAt (w : World) : Prop := 6 < w.heap.size ∧ ∃ m : Int, w.cell? ⟨6, 0, none⟩ = some (.int .i64 m)
theorem MaxAt.below {B : Nat} {w w' : World} (h : MaxAt w) (hb : Below B w w') (hB : w.heap.size ≤ B) : MaxAt w' :=
  ⟨Nat.lt_of_lt_of_le h.1 hb.size, h.2.elim fun m hm => ⟨m, (hb.cell (p := ⟨6, 0, none⟩) (Nat.lt_of_lt_of_le h.1 hB)).trans hm⟩⟩
abbrev slashS : ByteArray := ⟨#[47]⟩
theorem parts_any (s : ByteArray) (w : World) (hm : MaxAt w) (hs : s.size < 4294967281) :
    Calls Tryd.prog 59 #[.string s] w fun e w' => e = .returned (.slice (some ⟨w.heap.size, 0, none⟩) (Nm.cut s).length (Nm.cut s).length) ∧ w.alloc (.cells ((Nm.cut s).map Value.string).toArray 9) = w' := by
  obtain ⟨_, m, hm⟩ := hm
  have C := Tryd.strings_Split s slashS m w hs hm (by decide)
  rw [show Lib.splitB slashS 0 (Lib.countB s slashS) s = Nm.cut s from rfl, show Lib.countB s slashS + 1 = (Nm.cut s).length from (Nm.cut_len s).symm] at C
  generalize Nm.cut s = l at C ⊢
  clear hm hs
  go_enter Tryd.func59, Tryd.ntmps59
  go_wp2_with (go_at_call 73; refine C.mono ?_; rintro e w' ⟨rfl, rfl⟩)
  go_ret
  exact ⟨rfl, rfl⟩
theorem row_new (w : World) (zs : List ByteArray) (t : TypeId) : Row (w.alloc (.cells (zs.map Value.string).toArray t)) w.heap.size 0 zs :=
  ⟨by simp, fun j x hx => by rw [(Blk.new w t _).cell]; simp [hx]⟩
theorem ref_long {s : ByteArray} (h : ¬ s.size ≤ 24) : Nm.ref s.data.toList = false := by
  have e : s.data.toList.length = s.size := by simp
  unfold Nm.ref; rw [e, decide_eq_false h]; rfl
theorem ref_few {s : ByteArray} (h : ¬ 2 ≤ (Nm.cut s).length) : Nm.ref s.data.toList = false := by
  have e : (Nm.parts s.data.toList).length = (Nm.cut s).length := by rw [Nm.parts_len, Nm.cut_len]
  unfold Nm.ref; rw [e, decide_eq_false h, Bool.and_false]; rfl
theorem ref_else {s : ByteArray} (h1 : s.size ≤ 24) (h2 : 2 ≤ (Nm.cut s).length) : Nm.ref s.data.toList = !((Nm.cut s).any fun x => Nm.bad x.data.toList) := by
  have e1 : s.data.toList.length = s.size := by simp
  have e2 : (Nm.parts s.data.toList).length = (Nm.cut s).length := by rw [Nm.parts_len, Nm.cut_len]
  unfold Nm.ref; rw [e1, e2, decide_eq_true h1, decide_eq_true h2, Nm.any_cut]; rfl
abbrev hyphDotS : ByteArray := ⟨#[45, 46]⟩
/-- The test that Ref hands to the library, in a world that holds its blocks. -/
theorem wrong_tells (w : World) (B3 B2 B1 : Nat) (h3 : B3 < w.heap.size) (h2 : B2 < w.heap.size) (h1 : B1 < w.heap.size) (c3 : w.cell? ⟨B3, 0, none⟩ = some (.func (.func 78) #[] #[.pointer (some ⟨B2, 0, none⟩)]))
    (c2 : w.cell? ⟨B2, 0, none⟩ = some (.func (.func 87) #[] #[.pointer (some ⟨B1, 0, none⟩)])) (c1 : w.cell? ⟨B1, 0, none⟩ = some (.string hyphDotS)) :
    TellsText 75 #[.pointer (some ⟨B3, 0, none⟩)] (fun x => Nm.bad x.data.toList) w := fun W x hx hb => by
  have k3 := (hb.cell (p := ⟨B3, 0, none⟩) h3).trans c3
  have k2 := (hb.cell (p := ⟨B2, 0, none⟩) h2).trans c2
  have k1 := (hb.cell (p := ⟨B1, 0, none⟩) h1).trans c1
  have hz := hb.size
  exact wrongPart1_any x hx B3 78 _ _ eg37 W k3 (plainOr_tells hyphDotS B2 B1 W (by omega) (by omega) k2 k1)
set_option maxHeartbeats 400000 in
theorem ref_any (s : ByteArray) (w : World) (hm : MaxAt w) :
    Calls Tryd.prog 43 #[.string s] w fun e w' => e = .returned (.bool (Nm.ref s.data.toList)) ∧ Below w.heap.size w w' := by
  by_cases hs : s.size ≤ 24
  · have CP := parts_any s w hm (by omega)
    have HZ := Lib.hid (Nm.cut_size s)
    have hs' : 0 ≤ s.size := Nat.zero_le _
    by_cases h2 : 2 ≤ (Nm.cut s).length
    · have HR := Lib.hid (ref_else hs h2)
      have hR : Row (w.alloc (.cells ((Nm.cut s).map Value.string).toArray 9)) w.heap.size 0 (Nm.cut s) := row_new _ _ _
      have hl : (Nm.cut s).length ≤ 9223372036854775807 := by
        have := Lib.countB_le slashS (Nat.le_refl _) _ s (Nat.le_refl _)
        rw [Nm.cut_len]; show Lib.countB s slashS + 1 ≤ _; omega
      have hB0 : Below w.heap.size w (w.alloc (.cells ((Nm.cut s).map Value.string).toArray 9)) := (Below.refl _ _).alloc (Nat.le_refl _) _
      have HB0 := Lib.hid hB0
      clear hB0
      have HRow := Lib.hid hR
      clear hR
      generalize Nm.cut s = l at *
      generalize hr : (l.any fun x => Nm.bad x.data.toList) = r at HR
      have HRes := Lib.hid hr
      clear hr
      go_enter Tryd.func43, Tryd.ntmps43
      go_wp2_with fail
      refine CP.mono ?_
      rintro e w1 ⟨rfl, hw1⟩
      rw [hw1] at HB0 HRow
      clear hw1 CP
      go_wp2_with fail
      refine (plainOr_any hyphDotS _).mono ?_
      rintro e w2 ⟨rfl, rfl⟩
      go_wp2_with fail
      refine (wrongPart_any _ _ _ _ rfl).mono ?_
      rintro e w3 ⟨rfl, rfl⟩
      go_wp2_with fail
      have hT := wrong_tells (((w1.alloc (.cells #[.string hyphDotS] 9)).alloc (.cells #[.func (.func 87) #[] #[.pointer (some ⟨w1.heap.size, 0, none⟩)]] 111)).alloc (.cells #[.func (.func 78) #[] #[.pointer (some ⟨w1.heap.size + 1, 0, none⟩)]] 111)) (w1.heap.size + 1 + 1) (w1.heap.size + 1) w1.heap.size
        (by simp) (by simp <;> omega) (by simp <;> omega) ?k1 ?k2 ?k3
      case k1 => have h := (Blk.new ((w1.alloc (.cells #[.string hyphDotS] 9)).alloc (.cells #[.func (.func 87) #[] #[.pointer (some ⟨w1.heap.size, 0, none⟩)]] 111)) 111 #[.func (.func 78) #[] #[.pointer (some ⟨w1.heap.size + 1, 0, none⟩)]]).cell 0; simpa using h
      case k2 => have h := ((Blk.new (w1.alloc (.cells #[.string hyphDotS] 9)) 111 #[.func (.func 87) #[] #[.pointer (some ⟨w1.heap.size, 0, none⟩)]]).alloc (.cells #[.func (.func 78) #[] #[.pointer (some ⟨w1.heap.size + 1, 0, none⟩)]] 111)).cell 0; simpa using h
      case k3 => have h := (((Blk.new w1 9 #[.string hyphDotS]).alloc (.cells #[.func (.func 87) #[] #[.pointer (some ⟨w1.heap.size, 0, none⟩)]] 111)).alloc (.cells #[.func (.func 78) #[] #[.pointer (some ⟨w1.heap.size + 1, 0, none⟩)]] 111)).cell 0; simpa using h
      have hB3 : Below w1.heap.size w1 (((w1.alloc (.cells #[.string hyphDotS] 9)).alloc (.cells #[.func (.func 87) #[] #[.pointer (some ⟨w1.heap.size, 0, none⟩)]] 111)).alloc (.cells #[.func (.func 78) #[] #[.pointer (some ⟨w1.heap.size + 1, 0, none⟩)]] 111)) := by
        refine ((((Below.refl _ _).alloc (Nat.le_refl _) _).alloc ?_ _).alloc ?_ _) <;> simp <;> omega
      generalize ((w1.alloc (.cells #[.string hyphDotS] 9)).alloc (.cells #[.func (.func 87) #[] #[.pointer (some ⟨w1.heap.size, 0, none⟩)]] 111)).alloc (.cells #[.func (.func 78) #[] #[.pointer (some ⟨w1.heap.size + 1, 0, none⟩)]] 111) = w4 at hT hB3 ⊢
      have HB3 := Lib.hid hB3
      clear hB3
      refine (containsFunc_any _ _ _ eg41 w.heap.size 0 l.length l w4 hT hl (fun x hx => by have := HZ.out x hx; unfold maxLen; omega) (HRow.out.below HB3.out) r HRes.out).mono ?_
      rintro e w5 ⟨rfl, hb5⟩
      have HB5 := Lib.hid (HB0.out.trans ((HB3.out.trans (hb5.mono HB3.out.size)).mono HB0.out.size))
      clear hb5 hT
      go_wp2_with fail
      go_ret
      exact ⟨ret_bool HR.out.symm, HB5.out⟩
    · have HR := Lib.hid (ref_few h2)
      clear HZ
      generalize Nm.cut s = l at *
      go_enter Tryd.func43, Tryd.ntmps43
      go_wp2_with (go_at_call 59; refine CP.mono ?_; rintro e w1 ⟨rfl, rfl⟩)
      go_ret
      exact ⟨ret_bool HR.out.symm, (Below.refl _ _).alloc (Nat.le_refl _) _⟩
  · have HR := Lib.hid (ref_long hs)
    go_enter Tryd.func43, Tryd.ntmps43
    go_wp2
    go_ret
    exact ⟨ret_bool HR.out.symm, Below.refl _ _⟩
end Go.Proofs.YtldfjpafpfakcaaDoor
/- One update, one text: what tells it, and is it right (the closures of entry.Updates and entry.objects). -/
namespace Go.Proofs.YtldfjpafpfakcaaDoor
open Go Go.RowKit
theorem takes_midE {P : Program} {ops : Array Oper} {S : World → Prop} {o : Oper} {a : Act} (ty : TypeId) (x : Operand) (ho : o.op = .load ty x) (hw : Region.wanted o (yielded ops a.tmps) = true)
    (b off : Nat) (hx : a.eval x = .pointer (some ⟨b, off, none⟩)) (cs : List Value) (d : TypeDesc) (hc : ∀ w, S w → w.rangeAt b off cs)
    (hu : P.underlying ty = some d) (hd : d.isRow = true) (hi : (P.info? ty).map (·.size) = some cs.length) : YieldsIf P ops S o (.agg cs.toArray) a :=
  Or.inl ⟨hw, fun w h => by
    unfold execOp
    simp only [ho, hx, Instr.loadAt, Instr.sureAddr, Sem.run_bind, Sem.run_pure, Result.andThen_ok, run_loadVar_mid w b off ty cs d (hc w h) hu hd hi]⟩
theorem exec_neqE {P : Program} {o : Oper} {a : Act} {w : World} (t : TypeId) (x y : Operand) {z : TypeId} (ho : o.op = .binOp .neq t x y z) (xs ys : Array Value) (hx : a.eval x = .agg xs) (hy : a.eval y = .agg ys) {r : Bool}
    (h : (Op.equalIn 10000 t (.agg xs) (.agg ys)).run P w = .ok r w) (hm : P.eqGuardType P.depth t = false := by kernel_rfl) : (execOp a.eval o).run P w = .ok (.value (.bool (!r))) w := by
  unfold execOp
  simp only [ho, hx, hy, Sem.run_bind, run_eqGuard_agg w .neq t x y xs ys hm, run_neq_struct, h, Result.andThen_ok]
  rfl
theorem up_rng_old {w : World} {g : Nat} {u : En.Up} (hf : u.Fit) (h : Blk w g 38 (cellsU1 u).toArray) : w.rangeAt g 1 (cellsB u.old) := fun j v hj => by
  have hl : j < 32 := by have := (List.getElem?_eq_some_iff.1 hj).1; rwa [cellsB_len, hf.1.1] at this
  rw [h.cell, List.getElem?_toArray, cellsU1, Nat.add_comm 1 j, List.getElem?_cons_succ, List.getElem?_append_left (by rw [cellsB_len, hf.1.1]; exact hl)]
  exact hj
theorem up_rng_new {w : World} {g : Nat} {u : En.Up} (hf : u.Fit) (h : Blk w g 38 (cellsU1 u).toArray) : w.rangeAt g 33 (cellsB u.new) := fun j v hj => by
  have hl : j < 32 := by have := (List.getElem?_eq_some_iff.1 hj).1; rwa [cellsB_len, hf.2.1] at this
  rw [h.cell, List.getElem?_toArray, cellsU1, show 33 + j = (32 + j) + 1 by omega, List.getElem?_cons_succ, List.getElem?_append_right (by rw [cellsB_len, hf.1.1]; omega), cellsB_len, hf.1.1, show 32 + j - 32 = j by omega]
  exact hj
set_option maxRecDepth 100000 in
set_option maxHeartbeats 2000000 in
theorem upd1_any (u : En.Up) (hu : u.Fit) (w : World) (hm : MaxAt w) :
    Calls Tryd.prog 42 #[.agg (cellsU1 u).toArray] w fun e w' => e = .returned (.tuple #[.string u.ref, .bool (En.upKey u).2]) ∧ Below w.heap.size w w' := by
  obtain ⟨w1, hw1⟩ : ∃ w1, w1 = w.alloc (.cells (cellsU1 u).toArray 38) := ⟨_, rfl⟩
  have b1 : Below w.heap.size w w1 := hw1 ▸ (Below.refl _ _).alloc (Nat.le_refl _) _
  have HX : Hid (Blk w1.drew w.heap.size 38 (cellsU1 u).toArray) := Lib.hid (hw1 ▸ Blk.new w _ _)
  have HB := Lib.hid b1
  have HM : Hid (∀ n, MaxAt (w1.drewN n)) := Lib.hid (fun n => hm.below (below_drewN b1 n) (Nat.le_refl _))
  have CR := ref_any u.ref w1.drew (HM.out 1)
  have HU := Lib.hid hu
  have HK : Hid ((En.upKey u).2 = (Nm.ref u.ref.data.toList && !(eqv u.old u.new))) := Lib.hid rfl
  have HE : Hid (∀ w', (Op.equalIn 10000 36 (.agg (cellsB u.old).toArray) (.agg (cellsB u.new).toArray)).run Tryd.prog w' = .ok (eqv u.old u.new) w') := Lib.hid (fun w' => id_eq9 9998 w' u.old u.new hu.1 hu.2)
  have h0 : (cellsU1 u).toArray[0]? = some (.string u.ref) := rfl
  have H0 := Lib.hid h0
  generalize (En.upKey u).2 = R at HK ⊢
  generalize Nm.ref u.ref.data.toList = r1 at HK CR
  generalize u.ref = tx at CR H0 ⊢
  have e1 := hw1.symm
  clear b1 hw1 hm h0 hu
  go_enter Tryd.func42, Tryd.ntmps42
  go_wp2_with fail
  refine wp_region_held (S := (fun w' => Blk w' w.heap.size 38 (cellsU1 u).toArray)) (by kernel_rfl) ?_
  change wpAnyH _ _ _ _ _ _ _ _ w1.drew
  refine wpAnyH_take (i := 0) (v := ?_) rfl (by kernel_rfl) (by kernel_rfl) (by kernel_rfl) (fun _ _ _ h => h) (Or.inl ⟨by rfl, ?_⟩) HX.out ?_
  rotate_left
  · intro w' hS; go_simp; with_reducible rfl
  try simp only [Act.put, List.getElem_toArray, List.getElem_cons_zero, List.setIfInBounds_toArray, List.set_cons_zero, List.set_cons_succ]
  refine wpAnyH_take (i := 1) (v := ?_) rfl (by kernel_rfl) (by kernel_rfl) (by kernel_rfl) (fun _ _ _ h => h) (Or.inl ⟨by rfl, ?_⟩) HX.out ?_
  rotate_left
  · intro w' hS; have h0 := (Blk.cell hS 0).trans H0.out; go_simp; with_reducible rfl
  try simp only [Act.put, List.getElem_toArray, List.getElem_cons_zero, List.getElem_cons_succ, List.setIfInBounds_toArray, List.set_cons_zero, List.set_cons_succ]
  refine wpAnyH_take (i := 2) (v := ?_) rfl (by kernel_rfl) (by kernel_rfl) (by kernel_rfl) (fun _ _ _ h => h) (Or.inl ⟨by rfl, ?_⟩) HX.out ?_
  rotate_left
  · intro w' hS; go_simp; with_reducible rfl
  try simp only [Act.put, List.getElem_toArray, List.getElem_cons_zero, List.getElem_cons_succ, List.setIfInBounds_toArray, List.set_cons_zero, List.set_cons_succ]
  refine wpAnyH_take (i := 3) (v := ?_) rfl (by kernel_rfl) (by kernel_rfl) (by kernel_rfl) (fun _ _ _ h => h) (Or.inl ⟨by rfl, ?_⟩) HX.out ?_
  rotate_left
  · intro w' hS; have h0 := (Blk.cell hS 0).trans H0.out; go_simp; with_reducible rfl
  try simp only [Act.put, List.getElem_toArray, List.getElem_cons_zero, List.getElem_cons_succ, List.setIfInBounds_toArray, List.set_cons_zero, List.set_cons_succ]
  refine all_one (i := 4) (by kernel_rfl) rfl (by rfl) (fun K hK => ?_)
  go_simp
  refine CR.mono ?_
  rintro e w2 ⟨rfl, hb2⟩
  have HX2 := Lib.hid (HX.out.below hb2 HX.out.lt)
  have HB2 := Lib.hid (below_next (below_drewN HB.out 1) hb2)
  clear hb2 CR
  dsimp only
  refine hK _ _ HX2.out ?_; clear hK K
  try simp only [Act.put, List.getElem_toArray, List.getElem_cons_zero, List.getElem_cons_succ, List.setIfInBounds_toArray, List.set_cons_zero, List.set_cons_succ]
  cases r1
  · skip
    refine wpAnyH_take (i := 5) (v := ?_) rfl (by kernel_rfl) (by kernel_rfl) (by kernel_rfl) (fun _ _ _ h => h) (Or.inl ⟨by rfl, ?_⟩) HX2.out ?_
    rotate_left
    · intro w' hS; go_simp; with_reducible rfl
    try simp only [Act.put, List.getElem_toArray, List.getElem_cons_zero, List.getElem_cons_succ, List.setIfInBounds_toArray, List.set_cons_zero, List.set_cons_succ]
    refine wpAnyH_take (i := 6) (v := undef) rfl (by kernel_rfl) (by kernel_rfl) (by kernel_rfl) (fun _ _ _ h => h) (Or.inr ⟨by rfl, rfl⟩) HX2.out ?_
    try simp only [Act.put, List.getElem_toArray, List.getElem_cons_zero, List.getElem_cons_succ, List.setIfInBounds_toArray, List.set_cons_zero, List.set_cons_succ]
    refine wpAnyH_take (i := 7) (v := undef) rfl (by kernel_rfl) (by kernel_rfl) (by kernel_rfl) (fun _ _ _ h => h) (Or.inr ⟨by rfl, rfl⟩) HX2.out ?_
    try simp only [Act.put, List.getElem_toArray, List.getElem_cons_zero, List.getElem_cons_succ, List.setIfInBounds_toArray, List.set_cons_zero, List.set_cons_succ]
    refine wpAnyH_take (i := 8) (v := undef) rfl (by kernel_rfl) (by kernel_rfl) (by kernel_rfl) (fun _ _ _ h => h) (Or.inr ⟨by rfl, rfl⟩) HX2.out ?_
    try simp only [Act.put, List.getElem_toArray, List.getElem_cons_zero, List.getElem_cons_succ, List.setIfInBounds_toArray, List.set_cons_zero, List.set_cons_succ]
    refine wpAnyH_take (i := 9) (v := undef) rfl (by kernel_rfl) (by kernel_rfl) (by kernel_rfl) (fun _ _ _ h => h) (Or.inr ⟨by rfl, rfl⟩) HX2.out ?_
    try simp only [Act.put, List.getElem_toArray, List.getElem_cons_zero, List.getElem_cons_succ, List.setIfInBounds_toArray, List.set_cons_zero, List.set_cons_succ]
    refine wpAnyH_take (i := 10) (v := undef) rfl (by kernel_rfl) (by kernel_rfl) (by kernel_rfl) (fun _ _ _ h => h) (Or.inr ⟨by rfl, rfl⟩) HX2.out ?_
    try simp only [Act.put, List.getElem_toArray, List.getElem_cons_zero, List.getElem_cons_succ, List.setIfInBounds_toArray, List.set_cons_zero, List.set_cons_succ]
    refine wpAnyH_take (i := 11) (v := ?_) rfl (by kernel_rfl) (by kernel_rfl) (by kernel_rfl) (fun _ _ _ h => h) (Or.inl ⟨by rfl, ?_⟩) HX2.out ?_
    rotate_left
    · intro w' hS; go_simp; with_reducible rfl
    try simp only [Act.put, List.getElem_toArray, List.getElem_cons_zero, List.getElem_cons_succ, List.setIfInBounds_toArray, List.set_cons_zero, List.set_cons_succ]
    refine wpAnyH_take (i := 12) (v := ?_) rfl (by kernel_rfl) (by kernel_rfl) (by kernel_rfl) (fun _ _ _ h => h) (Or.inl ⟨by rfl, ?_⟩) HX2.out ?_
    rotate_left
    · intro w' hS; go_simp; with_reducible rfl
    try simp only [Act.put, List.getElem_toArray, List.getElem_cons_zero, List.getElem_cons_succ, List.setIfInBounds_toArray, List.set_cons_zero, List.set_cons_succ]
    refine wpAnyH_take (i := 13) (v := ?_) rfl (by kernel_rfl) (by kernel_rfl) (by kernel_rfl) (fun _ _ _ h => h) (Or.inl ⟨by rfl, ?_⟩) HX2.out ?_
    rotate_left
    · intro w' hS; go_simp; with_reducible rfl
    try simp only [Act.put, List.getElem_toArray, List.getElem_cons_zero, List.getElem_cons_succ, List.setIfInBounds_toArray, List.set_cons_zero, List.set_cons_succ]
    refine wpAnyH_done (by kernel_rfl) ?_ _
    go_wp2
    go_ret2
    exact ⟨by rw [HK.out]; rfl, HB2.out⟩
  · skip
    refine wpAnyH_take (i := 5) (v := ?_) rfl (by kernel_rfl) (by kernel_rfl) (by kernel_rfl) (fun _ _ _ h => h) (Or.inl ⟨by rfl, ?_⟩) HX2.out ?_
    rotate_left
    · intro w' hS; go_simp; with_reducible rfl
    try simp only [Act.put, List.getElem_toArray, List.getElem_cons_zero, List.getElem_cons_succ, List.setIfInBounds_toArray, List.set_cons_zero, List.set_cons_succ]
    refine wpAnyH_take (i := 6) (v := ?_) rfl (by kernel_rfl) (by kernel_rfl) (by kernel_rfl) (fun _ _ _ h => h) (Or.inl ⟨by rfl, ?_⟩) HX2.out ?_
    rotate_left
    · intro w' hS; go_simp; with_reducible rfl
    try simp only [Act.put, List.getElem_toArray, List.getElem_cons_zero, List.getElem_cons_succ, List.setIfInBounds_toArray, List.set_cons_zero, List.set_cons_succ]
    refine wpAnyH_take (i := 7) (v := .agg (cellsB u.old).toArray) rfl (by kernel_rfl) (by kernel_rfl) (by kernel_rfl) (fun _ _ _ h => h) (takes_midE 36 (.tmp 10) rfl (by rfl) w.heap.size 1 (by rfl) (cellsB u.old) _ (fun w' hS => up_rng_old HU.out hS) (by first | exact Tryd.underlying36 | kernel_rfl) (by rfl) (by rw [cellsB_len, HU.out.1.1]; kernel_rfl)) HX2.out ?_
    try simp only [Act.put, List.getElem_toArray, List.getElem_cons_zero, List.getElem_cons_succ, List.setIfInBounds_toArray, List.set_cons_zero, List.set_cons_succ]
    refine wpAnyH_take (i := 8) (v := ?_) rfl (by kernel_rfl) (by kernel_rfl) (by kernel_rfl) (fun _ _ _ h => h) (Or.inl ⟨by rfl, ?_⟩) HX2.out ?_
    rotate_left
    · intro w' hS; go_simp; with_reducible rfl
    try simp only [Act.put, List.getElem_toArray, List.getElem_cons_zero, List.getElem_cons_succ, List.setIfInBounds_toArray, List.set_cons_zero, List.set_cons_succ]
    refine wpAnyH_take (i := 9) (v := .agg (cellsB u.new).toArray) rfl (by kernel_rfl) (by kernel_rfl) (by kernel_rfl) (fun _ _ _ h => h) (takes_midE 36 (.tmp 12) rfl (by rfl) w.heap.size 33 (by rfl) (cellsB u.new) _ (fun w' hS => up_rng_new HU.out hS) (by first | exact Tryd.underlying36 | kernel_rfl) (by rfl) (by rw [cellsB_len, HU.out.2.1]; kernel_rfl)) HX2.out ?_
    try simp only [Act.put, List.getElem_toArray, List.getElem_cons_zero, List.getElem_cons_succ, List.setIfInBounds_toArray, List.set_cons_zero, List.set_cons_succ]
    refine wpAnyH_take (i := 10) (v := .bool (!(eqv u.old u.new))) rfl (by kernel_rfl) (by kernel_rfl) (by kernel_rfl) (fun _ _ _ h => h) (Or.inl ⟨by rfl, fun w' hS => exec_neqE 36 (.tmp 11) (.tmp 13) rfl _ _ (by rfl) (by rfl) (HE.out w')⟩) HX2.out ?_
    try simp only [Act.put, List.getElem_toArray, List.getElem_cons_zero, List.getElem_cons_succ, List.setIfInBounds_toArray, List.set_cons_zero, List.set_cons_succ]
    refine wpAnyH_take (i := 11) (v := ?_) rfl (by kernel_rfl) (by kernel_rfl) (by kernel_rfl) (fun _ _ _ h => h) (Or.inl ⟨by rfl, ?_⟩) HX2.out ?_
    rotate_left
    · intro w' hS; go_simp; with_reducible rfl
    try simp only [Act.put, List.getElem_toArray, List.getElem_cons_zero, List.getElem_cons_succ, List.setIfInBounds_toArray, List.set_cons_zero, List.set_cons_succ]
    refine wpAnyH_take (i := 12) (v := ?_) rfl (by kernel_rfl) (by kernel_rfl) (by kernel_rfl) (fun _ _ _ h => h) (Or.inl ⟨by rfl, ?_⟩) HX2.out ?_
    rotate_left
    · intro w' hS; go_simp; with_reducible rfl
    try simp only [Act.put, List.getElem_toArray, List.getElem_cons_zero, List.getElem_cons_succ, List.setIfInBounds_toArray, List.set_cons_zero, List.set_cons_succ]
    refine wpAnyH_take (i := 13) (v := ?_) rfl (by kernel_rfl) (by kernel_rfl) (by kernel_rfl) (fun _ _ _ h => h) (Or.inl ⟨by rfl, ?_⟩) HX2.out ?_
    rotate_left
    · intro w' hS; go_simp; with_reducible rfl
    try simp only [Act.put, List.getElem_toArray, List.getElem_cons_zero, List.getElem_cons_succ, List.setIfInBounds_toArray, List.set_cons_zero, List.set_cons_succ]
    refine wpAnyH_done (by kernel_rfl) ?_ _
    go_wp2
    go_ret2
    exact ⟨by rw [HK.out]; rfl, HB2.out⟩
end Go.Proofs.YtldfjpafpfakcaaDoor
/- Is a text an object's: the closure of entry.objects. -/
namespace Go.Proofs.YtldfjpafpfakcaaDoor
open Go Go.RowKit
/-- the error values that layer 10's calls meet -/
structure ESents (w : World) (a : Nat → Addr) : Prop where
  p : PSents w a
  g : w.cell? ⟨1, 0, none⟩ = some (ev (a 12))
  r : w.cell? ⟨4, 0, none⟩ = some (ev (a 0))
theorem ESents.at_ {w0 w : World} {a : Nat → Addr} (h : ESents w0 a) (hb : Below w0.heap.size w0 w) : ESents w a :=
  ⟨h.p.at_ hb, (hb.cell (block_lt_of_cell h.g)).trans h.g, (hb.cell (block_lt_of_cell h.r)).trans h.r⟩
theorem en_obj36 {cs : Array Value} (h : cs.size = 36) : (Tryd.prog.info? 51).map (·.size) = some cs.size := by rw [h]; kernel_rfl
theorem en_size {o : Ob} {m : Nat} {w : World} {cs : Array Value} {T E P : Option Addr} {tc ec pc : Nat} (h : ObO m w o cs T tc E ec P pc) (hf : o.Fit) : cs.size = 36 := by
  rw [h.cells]
  simp [cellsOb, cellsB_len, hf.target.1]
set_option maxRecDepth 100000 in
set_option maxHeartbeats 2000000 in
theorem obj1_core (A : Option Addr) (n c : Nat) (xs : List Nat) (er : Value) (b : Bool) (w : World) (hv : Rd w (.slice A n c) xs) (her : (er = .nilIface ∧ b = true) ∨ ((∃ ad, er = ev ad) ∧ b = false))
    (hP : Calls Tryd.prog 12 #[.slice A n c] w fun e w' => ∃ cs : Array Value, cs.size = 36 ∧ cs.all (·.oneCell') = true ∧ e = .returned (.tuple #[.agg cs, er]) ∧ Below w.heap.size w w') :
    Calls Tryd.prog 45 #[.slice A n c] w fun e w' => e = .returned (.tuple #[.string (textOf xs), .bool b]) ∧ Below w.heap.size w w' := by
  have HV := Lib.hid hv
  clear hv
  go_enter Tryd.func45, Tryd.ntmps45
  go_wp2_with (go_at_call 12; refine pause ?_)
  unfold Paused
  refine hP.mono ?_
  rintro e w5 ⟨cs, h36, h1, rfl, hb5⟩
  have HB5 := Lib.hid hb5
  have H36 := Lib.hid h36
  have H1 := Lib.hid h1
  clear hb5 hP h36 h1
  go_wp2_with (with_reducible (show wpList _ _ _ (Oper.mk _ (Op.store 51 _ _) _ _ _ _ :: _) _ _); refine pause ?_)
  unfold Paused
  change wpList _ _ _ _ _ (w5.alloc (.cells zOc 51))
  refine wpList_store_row (by rfl) 51 (.tmp 4) (.tmp 9) (by rfl) w5.heap.size cs (by rfl) (by rfl) 51 zOc (Blk.new w5 _ _) (en_obj36 H36.out) (by rw [H36.out]; rfl) H1.out ?_
  have b6 : Below w5.heap.size w5 ((w5.alloc (.cells zOc 51)).setRow w5.heap.size cs) := below_row ((Below.refl _ _).alloc (Nat.le_refl _) _) (Nat.le_refl _) _
  have HB6 := Lib.hid (below_next HB5.out b6)
  clear b6
  generalize (w5.alloc (.cells zOc 51)).setRow w5.heap.size cs = w6 at HB6 ⊢
  generalize w5.heap.size = g7
  simp only [Act.put]
  have HV6 := Lib.hid (HV.out.below HB6.out (Nat.le_refl _))
  have q1 : ∀ j, (convert 39 9 (.slice A n c)).run Tryd.prog (w6.drewN j) = .ok (.string (textOf xs)) (w6.drewN j) := fun j => conv_rd (HV6.out.below (below_drewN (Below.refl _ w6) j) (Nat.le_refl _))
  rcases her with ⟨rfl, rfl⟩ | ⟨⟨ad, rfl⟩, rfl⟩
  · go_wp2_with fail
    go_quiet (fail)
    go_wp2
    go_ret2
    exact ⟨rfl, below_drewN HB6.out _⟩
  · go_wp2_with fail
    go_quiet (fail)
    go_wp2
    go_ret2
    exact ⟨rfl, below_drewN HB6.out _⟩
theorem obj1_any (A : Option Addr) (n c : Nat) (xs : List Nat) (a : Nat → Addr) (w : World) (hv : Rd w (.slice A n c) xs) (hy : Sha.Byte xs) (hS : ESents w a) :
    Calls Tryd.prog 45 #[.slice A n c] w fun e w' => e = .returned (.tuple #[.string (textOf xs), .bool (En.objOk xs)]) ∧ Below w.heap.size w w' := by
  have hf : ∀ ad, (ev ad = .nilIface ∧ En.objOk xs = true) ∨ ((∃ a, ev ad = ev a) ∧ En.objOk xs = false) ↔ En.objOk xs = false := fun ad => by
    constructor
    · rintro (⟨h, _⟩ | ⟨_, h⟩)
      · cases h
      · exact h
    · exact fun h => Or.inr ⟨⟨ad, rfl⟩, h⟩
  have hz : zOc.size = 36 ∧ zOc.all (·.oneCell') = true := ⟨by kernel_rfl, by kernel_rfl⟩
  by_cases hl : xs.length ≤ 300
  · cases hp : Ob.parse xs with
    | bad k =>
      refine obj1_core A n c xs (ev (a (k - 1))) _ w hv ((hf _).2 ?_) ((oparse_bad k xs a _ w hv (Oc.bytes_of hy) hl hS.p hp).mono fun e w' h => ⟨_, hz.1, hz.2, h⟩)
      rw [← Bool.not_eq_true, En.objOk_iff]
      rintro ⟨_, o, ho⟩
      rw [hp] at ho; cases ho
    | ok o =>
      refine obj1_core A n c xs .nilIface _ w hv (Or.inl ⟨rfl, (En.objOk_iff xs).2 ⟨hl, o, hp⟩⟩) ((oparse_ok o xs a _ w hv (Oc.bytes_of hy) hl hS.p hp).mono fun e w' h => ?_)
      obtain ⟨cs, T, tc, E, ec, P, pc, he, hfit, _, ho, hb⟩ := h
      exact ⟨cs, en_size ho hfit, ho.one, he, hb⟩
  · refine obj1_core A n c xs (ev (a 12)) _ w hv ((hf _).2 ?_) ((oparse_large (a 12) xs _ w hv (by omega) hS.g).mono fun e w' h => ⟨_, hz.1, hz.2, h⟩)
    rw [← Bool.not_eq_true, En.objOk_iff]
    rintro ⟨h, _⟩
    exact hl h
end Go.Proofs.YtldfjpafpfakcaaDoor
/- Maps from texts to any values, as functions: as maps from whole numbers (MapF). -/
namespace Go.Proofs.YtldfjpafpfakcaaDoor
open Go Go.RowKit Go.Maps
/-- every value reads as itself -/
def selfS (v : Value) : Option (DataW Value × List MemPlace) := some (.held v, [])
theorem selfS_mk (v : Value) : selfS v = some (.held v, []) := by unfold selfS; rfl
theorem str_law : Keyed Tryd.prog 9 := string_keyed Tryd.underlying9
theorem skey_of {i : ByteArray} (h : i.size ≤ maxLen) : keyOf Tryd.prog 9 (.string i) = some (.string i.data.toList) := Go.WideMaps.keyOf_string_mk Tryd.underlying9 h
theorem skey_lit {i : ByteArray} (h : i.size ≤ maxLen) : WideAt.IsKeyLit (.string i.data.toList) := str_law.key (skey_of h)
theorem skey_ne {i j : ByteArray} (h : j ≠ i) : Lit.string j.data.toList ≠ Lit.string i.data.toList := fun e => h (by
  injection e with e
  exact ByteArray.ext (Array.toList_inj.1 e))
/-- Block b is a map of at most n entries: f. -/
def MapS (w : World) (b n : Nat) (f : ByteArray → Option Value) : Prop :=
  ∃ D : DataW Value, w.ownsMap Tryd.prog 9 selfS b n D ∧ ∀ i : ByteArray, i.size ≤ maxLen → has D (.string i.data.toList) = (f i).isSome ∧ ∀ z, D.atKey (.string i.data.toList) (.held z) = .held ((f i).getD z)
def updS (f : ByteArray → Option Value) (i : ByteArray) (v : Option Value) : ByteArray → Option Value := fun j => if j = i then v else f j
section
variable {w w' : World} {b n : Nat} {f : ByteArray → Option Value} {t e : TypeId} {z : Value} {i : ByteArray}
theorem MapS.made (w : World) : MapS (w.alloc (.map #[] 0)) w.heap.size 0 (fun _ => none) := ⟨_, World.ownsMap_made w _ _ _, fun _i _ => ⟨rfl, fun _ => rfl⟩⟩
theorem MapS.lt (h : MapS w b n f) : b < w.heap.size := by obtain ⟨D, h, _⟩ := h; exact h.lt
theorem MapS.mono (h : MapS w b n f) {n' : Nat} (hn : n ≤ n') : MapS w b n' f := by obtain ⟨D, h, k⟩ := h; exact ⟨D, h.mono hn, k⟩
theorem MapS.kept {row : Option Nat} (h : MapS w b n f) (hg : w.grownBy w' row) (hne : some b ≠ row) : MapS w' b n f := by obtain ⟨D, h, k⟩ := h; exact ⟨D, h.kept hg hne, k⟩
theorem MapS.below (h : MapS w b n f) (hb : Below w.heap.size w w') : MapS w' b n f := h.kept (only_of_below hb none) (by simp)
theorem MapS.block (h : MapS w b n f) (e : w'.heap[b]? = w.heap[b]?) : MapS w' b n f := by
  obtain ⟨D, ⟨es, clock, h1, h2, h3, h4⟩, k⟩ := h
  exact ⟨D, ⟨es, clock, e.trans h1, h2, h3, h4⟩, k⟩
theorem MapS.look (h : MapS w b n f) (ht : Tryd.prog.underlying t = some (.map 9 e)) (hz : (zeroValue e).run Tryd.prog w = .ok z w) (hi : i.size ≤ maxLen) :
    (Instr.lookup t (.map (some b)) (.string i) false).run Tryd.prog w = .ok ((f i).getD z) w := by
  obtain ⟨D, h, k⟩ := h
  obtain ⟨v, ps, hrun, hv⟩ := h.lookup str_law ht hz (zd := .held z) (zp := []) (selfS_mk z) (skey_of hi)
  have e0 : DataW.held v = D.atKey (.string i.data.toList) (.held z) := congrArg Prod.fst (Option.some.inj hv)
  rw [(k i hi).2 z] at e0
  have e1 := DataW.held.inj e0
  rw [hrun, e1]
theorem MapS.store (h : MapS w b n f) (ht : Tryd.prog.underlying t = some (.map 9 e)) (hn : n < maxLen) (hi : i.size ≤ maxLen) (v : Value) :
    ∃ w', (Instr.mapUpdate t (.map (some b)) (.string i) v).run Tryd.prog w = .ok () w' ∧ MapS w' b (n + 1) (updS f i (some v)) ∧ w.grownBy w' (some b) := by
  obtain ⟨D, h, k⟩ := h
  obtain ⟨w', hrun, h2, hg⟩ := h.update str_law ht hn (skey_of hi) (val := v) (d := .held v) (ps := []) (selfS_mk v)
  refine ⟨w', hrun, ⟨_, h2, fun j hj => ?_⟩, hg⟩
  unfold updS
  by_cases hji : j = i
  · subst hji
    rw [if_pos rfl]
    exact ⟨has_put_same h.isMap (skey_lit hi) _, fun z => atKey_put_same h.isMap (skey_lit hi) _ _⟩
  · rw [if_neg hji]
    exact ⟨by rw [has_put_other (skey_ne hji)]; exact (k j hj).1, fun z => by rw [atKey_put_other (skey_ne hji)]; exact (k j hj).2 z⟩
theorem MapS.drop (h : MapS w b n f) (ht : Tryd.prog.underlying t = some (.map 9 e)) (hi : i.size ≤ maxLen) (ty : TypeId) :
    ∃ w', (Builtin.delete_ #[t, 9] ty #[.map (some b), .string i]).run Tryd.prog w = .ok (.tuple #[]) w' ∧ MapS w' b n (updS f i none) ∧ w.grownBy w' (some b) := by
  obtain ⟨D, h, k⟩ := h
  obtain ⟨w', hrun, h2, hg⟩ := h.drop str_law ht (skey_of hi) ty
  refine ⟨w', hrun, ⟨_, h2, fun j hj => ?_⟩, hg.grown⟩
  unfold updS
  by_cases hji : j = i
  · subst hji
    rw [if_pos rfl]
    exact ⟨has_del_same, fun z => atKey_del_same _⟩
  · rw [if_neg hji]
    exact ⟨by rw [has_del_other (skey_ne hji)]; exact (k j hj).1, fun z => by rw [atKey_del_other (skey_ne hji)]; exact (k j hj).2 z⟩
end
end Go.Proofs.YtldfjpafpfakcaaDoor
