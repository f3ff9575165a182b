/- Reading an object's name: (*In).Oid. -/
import Derived.Test.YtolfphfdeccleaaGreatDoorMOct9s
import Derived.Recover
import Derived.Lib.Builder
import Derived.Test.YtolfphfdeccleaaGreatDoorMBases
import Derived.Test.YtolfphfdeccleaaGreatDoorMHelds
import Derived.BigQuiet
namespace Go.Proofs.YtolfphfdeccleaaGreatDoor
open Go Go.RowKit
theorem oid_size : (Tryz.prog.info? 49).map (·.size) = some 32 := by kernel_rfl
abbrev oidBox (w : World) : World := w.alloc (.cells (u8s (List.replicate 32 0)) 49)
theorem only_setRow' {a w : World} {row : Option Nat} (h : a.grownBy w row) {g' : Nat} (hp : a.heap.size ≤ g') (cs : Array Value) : a.grownBy (w.setRow g' cs) row :=
  only_step h rfl rfl rfl (by simp [World.setRow]) fun i hi hne => setRow_other w g' i cs (by omega)
/-- copy of 32 bytes over a whole row -/
theorem wp_copy32 {o : Oper} {a : Act} {w : World} {K : Act → World → Prop} {Q : Exit → Act → World → Prop} (d s : Operand)
    (ho : o.op = .call { callee := .builtin .copy, args := #[d, s], argTypes := #[22, 22] }) (g : Nat) (t : TypeId) (zs : List Nat) (hg : Blk w g t (u8s zs)) (hz : zs.length = 32)
    (hd : a.eval d = .slice (some ⟨g, 0, none⟩) 32 32) (ad : Addr) (c : Nat) (hs : a.eval s = .slice (some ad) 32 c) (ys : List Nat) (hy : ys.length = 32)
    (hsrc : ∀ i, i < 32 → w.cell? (ad.add i) = some (.int .u8 ((ys.getD i 0 : Nat) : Int))) (h : K (a.put o.dst (.int .i64 32)) (w.setRow g (u8s ys))) : o.wp Tryz.prog a w K Q := by
  have hrun := run_copy_row (P := Tryz.prog) w 22 22 o.type 5 g 0 32 32 ad 32 c (u8s zs) t (cellsB ys) Tryz.underlying22 (by kernel_rfl) hg (by rw [cellsB_len, hy]; rfl) (fun j v hj => by
    have hjl : j < ys.length := by have := (List.getElem?_eq_some_iff.1 hj).1; rwa [cellsB_len] at this
    rw [cellsB_get hjl] at hj
    rw [hsrc j (by omega), hj]) (by rw [cellsB_len, u8s_size]; omega) (cellsB_one _)
  have e : ((u8s zs).toList.take 0 ++ cellsB ys ++ (u8s zs).toList.drop (0 + (cellsB ys).length)).toArray = u8s ys := by
    rw [cellsB_len, hy]
    simp [u8s, cellsB, hz]
  rw [e, cellsB_len, hy] at hrun
  unfold Oper.wp
  simp [execOp, ho, resolve, invoke, builtin, hd, hs, hrun, Result.andThen]
  exact h
theorem below_boxes (w : World) : Below w.heap.size w (oidBox (oidBox w)) := ((Below.refl _ _).alloc (Nat.le_refl _) _).alloc ((Below.refl _ _).alloc (Nat.le_refl _) _).size _
theorem oid_short (i r : Nat) (aS : Addr) (xs : List Nat) (w0 w : World) (h : InAt w0 w i r xs) (hl : xs.length < 32) (hS : w.cell? ⟨1, 0, none⟩ = some (ev aS)) :
    Calls Tryz.prog 82 #[.pointer (some ⟨i, 0, none⟩)] w (Fails w r (ev aS)) := by
  have hb := below_boxes w
  have CN : Calls Tryz.prog 80 #[.pointer (some ⟨i, 0, none⟩), .int .i64 32] (oidBox (oidBox w)).drew _ := next_short i r 32 aS xs w0 (oidBox (oidBox w)).drew (h.below (below_drewN hb 1)) hl ((below_drewN hb 1).cell (block_lt_of_cell hS) |>.trans hS)
  have HB := Lib.hid (below_drewN hb 1)
  clear h hb
  go_enter Tryz.func82, Tryz.ntmps82
  go_wp2
  refine wp_region_held (S := fun _ => True) (by kernel_rfl) ?_
  change wpAnyH _ _ _ _ _ _ _ _ (oidBox (oidBox w)).drew
  refine wpAnyH_take (i := 0) (v := ?_) rfl (by kernel_rfl) (by kernel_rfl) (by kernel_rfl) (fun _ _ _ h => h) (Or.inl ⟨by rfl, ?_⟩) trivial ?_
  rotate_left
  · intro w _; go_simp; with_reducible rfl
  try simp only [Act.put, List.getElem_toArray, List.getElem_cons_zero, List.setIfInBounds_toArray, List.set_cons_zero, List.set_cons_succ]
  refine wpAnyH_take (i := 1) (v := ?_) rfl (by kernel_rfl) (by kernel_rfl) (by kernel_rfl) (fun _ _ _ h => h) (Or.inl ⟨by rfl, ?_⟩) trivial ?_
  rotate_left
  · intro w _; go_simp; with_reducible rfl
  try simp only [Act.put, List.getElem_toArray, List.getElem_cons_zero, List.getElem_cons_succ, List.setIfInBounds_toArray, List.set_cons_zero, List.set_cons_succ]
  refine all_one (i := 2) (by kernel_rfl) rfl (by rfl) (fun K hK => ?_)
  go_simp
  refine CN.mono ?_
  rintro e w' ⟨rfl, hd, hg⟩
  exact ⟨rfl, rfl, hd, only_trans (only_of_below HB.out _) hg⟩
theorem oid_ok (i r : Nat) (xs : List Nat) (w0 w : World) (h : InAt w0 w i r xs) (hl : 32 ≤ xs.length) :
    Calls Tryz.prog 82 #[.pointer (some ⟨i, 0, none⟩)] w fun e w' => e = .returned (.agg (u8s (xs.take 32))) ∧ InAt w0 w' i r (xs.drop 32) ∧ w.grownBy w' (some r) := by
  have hb := below_boxes w
  have CN : Calls Tryz.prog 80 #[.pointer (some ⟨i, 0, none⟩), .int .i64 32] (oidBox (oidBox w)).drew _ := next_ok i r 32 xs w0 (oidBox (oidBox w)).drew (h.below (below_drewN hb 1)) hl
  have HB := Lib.hid (below_drewN hb 1)
  have hyl : (xs.take 32).length = 32 := by rw [List.length_take]; omega
  obtain ⟨ys, hys⟩ : ∃ ys, ys = xs.take 32 := ⟨_, rfl⟩
  rw [← hys] at CN hyl ⊢
  have HYL := Lib.hid hyl
  have HR0 : Hid (Blk (oidBox (oidBox w)).drew w.heap.size 49 (u8s (List.replicate 32 0))) := Lib.hid (((Blk.new w _ _).alloc _).drew)
  have HR1 : Hid (Blk (oidBox (oidBox w)).drew (w.heap.size + 1) 49 (u8s (List.replicate 32 0))) := Lib.hid (by
    have h := (Blk.new (oidBox w) 49 (u8s (List.replicate 32 0))).drew
    rwa [show (oidBox w).heap.size = w.heap.size + 1 by simp] at h)
  have HLT := Lib.hid h.lt
  have HLI : Hid (i < w.heap.size ∧ w0.heap.size ≤ w.heap.size) := Lib.hid (by obtain ⟨v, k, _, k2, _⟩ := h; exact ⟨k.i_.lt, k2.size⟩)
  clear h hb hys hyl
  go_enter Tryz.func82, Tryz.ntmps82
  go_wp2
  refine wp_region_held (S := fun _ => True) (by kernel_rfl) ?_
  change wpAnyH _ _ _ _ _ _ _ _ (oidBox (oidBox w)).drew
  refine wpAnyH_take (i := 0) (v := ?_) rfl (by kernel_rfl) (by kernel_rfl) (by kernel_rfl) (fun _ _ _ h => h) (Or.inl ⟨by rfl, ?_⟩) trivial ?_
  rotate_left
  · intro w _; go_simp; with_reducible rfl
  try simp only [Act.put, List.getElem_toArray, List.getElem_cons_zero, List.setIfInBounds_toArray, List.set_cons_zero, List.set_cons_succ]
  refine wpAnyH_take (i := 1) (v := ?_) rfl (by kernel_rfl) (by kernel_rfl) (by kernel_rfl) (fun _ _ _ h => h) (Or.inl ⟨by rfl, ?_⟩) trivial ?_
  rotate_left
  · intro w _; go_simp; with_reducible rfl
  try simp only [Act.put, List.getElem_toArray, List.getElem_cons_zero, List.getElem_cons_succ, List.setIfInBounds_toArray, List.set_cons_zero, List.set_cons_succ]
  refine all_one (i := 2) (by kernel_rfl) rfl (by rfl) (fun K hK => ?_)
  go_simp
  refine CN.mono ?_
  rintro e w1 ⟨v, rfl, hv, hi, hg⟩
  obtain ⟨A, c, rfl, hc, hA⟩ := (hv.below hi.bel.1 (Nat.le_refl _)).open_ HYL.out
  obtain ⟨b, o, rfl, hx⟩ := hA (by omega)
  have HX := Lib.hid hx
  have HI := Lib.hid hi
  have HG := Lib.hid (only_trans (only_of_below HB.out (some r)) hg)
  have HQ0 : Hid (Blk w1 w.heap.size 49 (u8s (List.replicate 32 0))) := Lib.hid (HR0.out.grown hg (fun e => by injection e with e; have := HLT.out; omega))
  have HQ1 : Hid (Blk w1 (w.heap.size + 1) 49 (u8s (List.replicate 32 0))) := Lib.hid (HR1.out.grown hg (fun e => by injection e with e; have := HLT.out; omega))
  clear hx hi hg hv hA
  dsimp only
  refine hK _ _ trivial ?_; clear hK K
  try simp only [Act.put, List.getElem_toArray, List.getElem_cons_zero, List.getElem_cons_succ, List.setIfInBounds_toArray, List.set_cons_zero, List.set_cons_succ]
  refine all_one (i := 3) (by kernel_rfl) rfl (by rfl) (fun K hK => ?_)
  refine wp_copy32 (.tmp 4) (.tmp 6) rfl (w.heap.size + 1) 49 (List.replicate 32 0) HQ1.out (by decide) rfl ⟨b, o, none⟩ c rfl ys HYL.out (fun j hj => by rw [Addr.add_mid]; exact HX.out j hj) ?_
  refine hK _ _ trivial ?_; clear hK K
  try simp only [Act.put, List.getElem_toArray, List.getElem_cons_zero, List.getElem_cons_succ, List.setIfInBounds_toArray, List.set_cons_zero, List.set_cons_succ]
  refine wpAnyH_done (by kernel_rfl) ?_ _
  have HW1 : Hid (Blk (w1.setRow (w.heap.size + 1) (u8s ys)) (w.heap.size + 1) 49 (u8s ys)) := Lib.hid (HQ1.out.row _)
  have HW0 : Hid (Blk (w1.setRow (w.heap.size + 1) (u8s ys)) w.heap.size 49 (u8s (List.replicate 32 0))) := Lib.hid (HQ0.out.farRow (by omega) _)
  go_wp2_with (first | (refine wpList_load_row rfl 49 (.tmp 3) rfl (w.heap.size + 1) rfl 49 (u8s ys) (0,0) _ HW1.out Tryz.underlying49 rfl (by rw [u8s_size, HYL.out]; exact oid_size) ?_) | (refine wpList_store_row rfl 49 (.tmp 2) (.tmp 8) rfl w.heap.size _ rfl rfl 49 _ HW0.out (by rw [u8s_size, HYL.out]; exact oid_size) (by rw [u8s_size, u8s_size, HYL.out]; rfl) (u8s_one _) ?_))
  have hlt := HLT.out
  refine bodyPost_ret (v := .agg (u8s ys)) (results_cell_row rfl _ _ w.heap.size 49 _ (0, 0) _ rfl (HW0.out.row _) Tryz.underlying49 rfl (by rw [u8s_size, HYL.out]; exact oid_size)) rfl ⟨rfl, ?_, only_setRow' (only_setRow' HG.out (by omega) _) (by omega) _⟩
  obtain ⟨v, k, hr, hw, h1, h2⟩ := HI.out
  have hli := HLI.out
  exact ⟨v, ⟨(k.i_.farRow (by omega) _).farRow (by omega) _, (k.r_.farRow (by omega) _).farRow (by omega) _, k.ne⟩, hr, below_row (below_row hw (by omega) _) (by omega) _, h1, h2⟩
end Go.Proofs.YtolfphfdeccleaaGreatDoor
/- What the walk of (*In).fields keeps: the fields read so far lie in a row of the call's own, their bytes in blocks of their own. -/
namespace Go.Proofs.YtolfphfdeccleaaGreatDoor
open Go Go.RowKit
def shN (s : ByteArray) : List Nat := s.data.toList.map (·.toNat)
theorem shN_len (s : ByteArray) : (shN s).length = s.size := by simp [shN]
theorem shN_get {s : ByteArray} {k : Nat} (h : k < s.size) : (shN s)[k]'(by rw [shN_len]; exact h) = s[k].toNat := by simp [shN, ByteArray.getElem_eq_getElem_data]
namespace Oc
theorem reads_ok_next {sh xs : List Nat} {k c n p m : Nat} {l : List (Nat × List Nat)} {x : List Nat} (h : reads (sh.take k) xs = .ok l p) (hk : k < sh.length) (hc : sh[k] = c) (hs : step c (xs.drop p) = .ok n x m) : reads (sh.take (k + 1)) xs = .ok (l ++ [(n, x)]) (p + m) := by
  rw [reads_take hk, h, Got.next, hc]
  simp only [hs]
theorem reads_bad_next {sh xs : List Nat} {k c p e : Nat} {l : List (Nat × List Nat)} (h : reads (sh.take k) xs = .ok l p) (hk : k < sh.length) (hc : sh[k] = c) (hs : step c (xs.drop p) = .bad e) : reads sh xs = .bad e := by
  refine reads_bad (k := k + 1) ?_
  rw [reads_take hk, h, Got.next, hc]
  simp only [hs]
end Oc
/-- A field whose bytes lie in a block of their own. -/
structure FOwn (B : Nat) (w : World) (f : Fld) : Prop where
  rd : Rd w (.slice f.A f.l f.c) f.bs
  len : f.bs.length = f.l
  own : 0 < f.l → ∃ g cs t, f.A = some ⟨g, 0, none⟩ ∧ B ≤ g ∧ Blk w g t cs ∧ t ≠ 104 ∧ t ≠ 112
def Kind (w : World) (row : Option Nat) : Prop := ∀ g, row = some g → ∃ cs t, Blk w g t cs ∧ (t = 104 ∨ t = 112)
theorem FOwn.step {B : Nat} {w w' : World} {f : Fld} {row : Option Nat} (h : FOwn B w f) (k : w.grownBy w' row) (hr : Kind w row) : FOwn B w' f := by
  have key : ∀ g cs t, Blk w g t cs → t ≠ 104 → t ≠ 112 → some g ≠ row := by
    rintro g cs t hB h1 h2 rfl
    obtain ⟨cs', t', hB', ht⟩ := hr g rfl
    have e := hB.symm.trans hB'
    injection e with e
    injection e with _ e _
    subst e
    exact ht.elim h1 h2
  refine ⟨?_, h.len, fun h0 => ?_⟩
  · obtain ⟨A', c', hv, hc, hA⟩ := h.rd
    refine ⟨A', c', hv, hc, fun h0 => ?_⟩
    obtain ⟨b, o, ha, hb, hx⟩ := hA h0
    injection hv with e1 e2 e3
    obtain ⟨g, cs, t, e4, _, hB, h1, h2⟩ := h.own (by rw [← h.len]; exact h0)
    rw [e1, ha] at e4
    injection e4 with e4
    injection e4 with e4 e5
    subst e4
    exact ⟨b, o, ha, Nat.lt_of_lt_of_le hb k.size, fun i hi => k.cell (hx i hi) (key b cs t hB h1 h2)⟩
  · obtain ⟨g, cs, t, e4, hg, hB, h1, h2⟩ := h.own h0
    exact ⟨g, cs, t, e4, hg, hB.grown k (key g cs t hB h1 h2), h1, h2⟩
theorem kind_none (w : World) : Kind w none := fun _ h => by cases h
theorem FOwn.below {B : Nat} {w w' : World} {f : Fld} (h : FOwn B w f) (hb : Below w.heap.size w w') : FOwn B w' f := h.step (only_of_below hb none) (kind_none w)
theorem kind_own {w : World} {B n : Nat} {v : Value} {cs : List Value} (h : w.ownsRow B 104 2 v n cs) : Kind w v.ownBlock := fun g hg => by
  rcases h.2 with ⟨rfl, _⟩ | ⟨g', cap, cur, rfl, _, hh, _⟩
  · cases hg
  · cases hg
    exact ⟨cur, _, hh, Or.inl rfl⟩
/-- The walk's state: k fields, and the bytes ys are left. -/
structure FX (w0 wf w : World) (i r : Nat) (v : Value) (k : Nat) (fs : List Fld) (ys : List Nat) : Prop where
  at_ : InAt w0 w i r ys
  row : w.ownsRow wf.heap.size 104 2 v k (cellsF fs)
  fld : ∀ f ∈ fs, FOwn wf.heap.size w f
  grw : wf.grownBy w (some r)
  old : r < wf.heap.size ∧ i < wf.heap.size ∧ w0.heap.size ≤ wf.heap.size
theorem InAt.kind {w0 w : World} {i r : Nat} {xs : List Nat} (h : InAt w0 w i r xs) : Kind w (some r) := fun g hg => by
  injection hg with hg
  subst hg
  obtain ⟨v, k, _⟩ := h
  exact ⟨_, _, k.r_, Or.inr rfl⟩
theorem own_ne {w : World} {B n r : Nat} {v : Value} {cs : List Value} {e : TypeId} (h : w.ownsRow B e 2 v n cs) (hr : r < B) : some r ≠ v.ownBlock := fun e => by
  have := (h.lt r e.symm).1
  omega
theorem FX.start {w0 w : World} {i r : Nat} {xs : List Nat} (h : InAt w0 w i r xs) : FX w0 w w i r (.slice none 0 0) 0 [] xs := by
  have h2 := h
  obtain ⟨v, k, hr, hw, h1, h3⟩ := h2
  exact ⟨h, ⟨by decide, .inl ⟨rfl, rfl⟩⟩, fun f hf => (by cases hf), World.grownBy.refl w _, k.r_.lt, k.i_.lt, hw.size⟩
section
variable {w0 wf w w' : World} {i r k : Nat} {v : Value} {fs : List Fld} {ys : List Nat}
theorem FX.read (h : FX w0 wf w i r v k fs ys) (hg : w.grownBy w' (some r)) {zs : List Nat} (hi : InAt w0 w' i r zs) : FX w0 wf w' i r v k fs zs :=
  ⟨hi, h.row.kept hg (by cases hv : v.ownBlock with | none => exact Or.inl rfl | some g => exact Or.inr (fun e => own_ne h.row h.old.1 (by rw [hv, e]))), fun f hf => (h.fld f hf).step hg h.at_.kind, only_trans h.grw hg, h.old⟩
theorem FX.below (h : FX w0 wf w i r v k fs ys) (hb : Below w.heap.size w w') : FX w0 wf w' i r v k fs ys :=
  ⟨h.at_.below hb, h.row.kept (only_of_below hb none) (by cases hv : v.ownBlock with | none => exact Or.inl rfl | some g => exact Or.inr (by simp)), fun f hf => (h.fld f hf).below hb, only_trans h.grw (only_of_below hb _), h.old⟩
theorem FX.app (h : FX w0 wf w i r v k fs ys) {v2 : Value} {f : Fld} (ho : w'.ownsRow wf.heap.size 104 2 v2 (k + 1) (cellsF fs ++ [.int .i64 f.n, .slice f.A f.l f.c])) (hg : w.grownBy w' v.ownBlock) (hf : FOwn wf.heap.size w f) : FX w0 wf w' i r v2 (k + 1) (fs ++ [f]) ys := by
  have hk := kind_own h.row
  have n1 := own_ne h.row h.old.1
  have n2 := own_ne h.row h.old.2.1
  obtain ⟨u, a, hr, hw, h1, h2⟩ := h.at_
  refine ⟨⟨u, ⟨a.i_.grown hg n2, a.r_.grown hg n1, a.ne⟩, hr, below_own hw h.row h.old.2.2 hg, h1, h2⟩, by simpa [cellsF] using ho, fun x hx => ?_, ?_, h.old⟩
  · rcases List.mem_append.1 hx with hx | hx
    · exact (h.fld x hx).step hg hk
    · rw [List.mem_singleton.1 hx]; exact hf.step hg hk
  · refine ⟨hg.os.trans h.grw.os, hg.tape.trans h.grw.tape, hg.output.trans h.grw.output, Nat.le_trans h.grw.size hg.size, fun j hj hne => ?_⟩
    rw [hg.block j (Nat.lt_of_lt_of_le hj h.grw.size) (own_ne h.row hj)]
    exact h.grw.block j hj hne
end
end Go.Proofs.YtolfphfdeccleaaGreatDoor
/- The walk of (*In).fields. -/
namespace Go.Proofs.YtolfphfdeccleaaGreatDoor
open Go Go.RowKit
/-- The error values that layer 2 knows. -/
def OSents (w : World) (a : Nat → Addr) : Prop := ∀ k, (k = 0 ∨ k = 1 ∨ k = 2 ∨ k = 3 ∨ k = 6) → SentAt w (sgs.getD k 0) (stexts.getD k []) (a k)
theorem OSents.below {w w' : World} {a : Nat → Addr} (h : OSents w a) {B : Nat} (hb : Below B w w') (hB : w.heap.size ≤ B) : OSents w' a := fun k hk => (h k hk).below hb hB
theorem Sents.o {w : World} {a : Nat → Addr} (h : Sents w a) : OSents w a := fun k hk => h k (by omega)
theorem step_num {c : Nat} (h1 : c ≠ 111) (h2 : c ≠ 116) (xs : List Nat) : Oc.step c xs = if xs.length < Oc.zs c then .bad 2 else if Oc.mostN c < Oc.val (xs.take (Oc.zs c)) then .bad 1 else .ok (Oc.val (xs.take (Oc.zs c))) [] (Oc.zs c) := by
  unfold Oc.step; rw [if_neg h1, if_neg h2]
theorem step_oid (xs : List Nat) : Oc.step 111 xs = if xs.length < 32 then .bad 2 else .ok 0 (xs.take 32) 32 := rfl
theorem step_text (xs : List Nat) : Oc.step 116 xs = if xs.length < 2 then .bad 2 else if xs.length < 2 + Oc.val (xs.take 2) then .bad 2 else .ok 0 ((xs.drop 2).take (Oc.val (xs.take 2))) (2 + Oc.val (xs.take 2)) := rfl
theorem says_snoc {fs : List Fld} {l : List (Nat × List Nat)} (h : fs.map Oc.says = l.map Oc.lays) {f : Fld} {n : Nat} {x : List Nat} (h1 : f.n = (n : Int)) (h2 : f.bs = x) : (fs ++ [f]).map Oc.says = (l ++ [(n, x)]).map Oc.lays := by
  rw [List.map_append, List.map_append, h]
  simp [Oc.says, Oc.lays, h1, h2]
theorem zs_pos {c : Nat} (h : 0 ≤ Oc.size c) (h1 : c ≠ 111) (h2 : c ≠ 116) : 0 < Oc.zs c ∧ Oc.zs c ≤ 8 ∧ Oc.nsize c = Oc.zs c := by
  rcases Oc.letter h with rfl | rfl | rfl | rfl | rfl
  · exact ⟨by decide, by decide, rfl⟩
  · exact ⟨by decide, by decide, rfl⟩
  · exact ⟨by decide, by decide, rfl⟩
  · exact absurd rfl h1
  · exact absurd rfl h2
end Go.Proofs.YtolfphfdeccleaaGreatDoor
/- run: what is deferred, and run itself. -/
namespace Go.Proofs.YtolfphfdeccleaaGreatDoor
open Go Go.RowKit
theorem slots17 (x v : Value) : #[x] ++ (Array.replicate 17 undef).setIfInBounds 3 v = #[x, undef, undef, undef, v, undef, undef, undef, undef, undef, undef, undef, undef, undef, undef, undef, undef, undef] := by kernel_rfl
theorem stop_eql (r : Nat) (w : World) : (binOp .eql 20 (stopV r) .nilIface).run Tryz.prog w = .ok (.bool false) w := by kernel_rfl
theorem stop_assert (r : Nat) (w : World) : (Instr.typeAssert (stopV r) 20 122 true).run Tryz.prog w = .ok (.tuple #[.agg #[.pointer (some ⟨r, 0, none⟩)], .bool true]) w := by kernel_rfl
theorem stop_neq (r : Nat) (w : World) : (binOp .neq 110 (.pointer (some ⟨r, 0, none⟩)) (.pointer (some ⟨r, 0, none⟩))).run Tryz.prog w = .ok (.bool false) w := by
  cases h : Tryz.prog.info? 112 with
  | none =>
    have h2 : (Tryz.prog.info? 112).isSome = true := by kernel_rfl
    rw [h] at h2; cases h2
  | some j => exact Lib.run_neq_ptr_same w _ Tryz.underlying110 h
/-- the world in which the function that reads is called: run's variable, the In -/
abbrev runBox (w : World) (r : Nat) : World := (w.alloc (.cells #[.pointer (some ⟨r, 0, none⟩)] 110)).alloc (.cells #[.pointer (some ⟨r, 0, none⟩)] 121)
end Go.Proofs.YtolfphfdeccleaaGreatDoor
/- Take: what it answers, whatever reads. -/
namespace Go.Proofs.YtolfphfdeccleaaGreatDoor
open Go Go.RowKit
/-- all that stood before stands, but for the blocks of S -/
structure Kpt (S : Nat → Prop) (w w' : World) : Prop where
  os : w'.os = w.os
  tape : w'.tape = w.tape
  output : w'.output = w.output
  size : w.heap.size ≤ w'.heap.size
  block : ∀ b, b < w.heap.size → ¬ S b → w'.heap[b]? = w.heap[b]?
theorem Kpt.of_below {S : Nat → Prop} {w w' : World} (h : Below w.heap.size w w') : Kpt S w w' := ⟨h.os, h.tape, h.output, h.size, fun b hb _ => h.block b hb⟩
theorem Kpt.of_grown {S : Nat → Prop} {w w' : World} {r : Nat} (h : w.grownBy w' (some r)) (hr : S r) : Kpt S w w' := ⟨h.os, h.tape, h.output, h.size, fun b hb hs => h.block b hb (fun e => by injection e with e; subst e; exact hs hr)⟩
theorem Kpt.trans {S : Nat → Prop} {a b c : World} (h : Kpt S a b) (k : Kpt S b c) : Kpt S a c := ⟨k.os.trans h.os, k.tape.trans h.tape, k.output.trans h.output, Nat.le_trans h.size k.size, fun x hx hs => (k.block x (Nat.lt_of_lt_of_le hx h.size) hs).trans (h.block x hx hs)⟩
theorem Kpt.below {w w' : World} (h : Kpt (fun _ => False) w w') : Below w.heap.size w w' := ⟨h.os, h.tape, h.output, h.size, fun b hb => h.block b hb (fun h => h)⟩
/-- what has come to be since may turn -/
theorem Kpt.old {S T : Nat → Prop} {a b c : World} (h : Kpt S a b) (k : Kpt T b c) (hT : ∀ x, T x → x < a.heap.size → S x) : Kpt S a c :=
  ⟨k.os.trans h.os, k.tape.trans h.tape, k.output.trans h.output, Nat.le_trans h.size k.size, fun x hx hs => (k.block x (Nat.lt_of_lt_of_le hx h.size) (fun ht => hs (hT x ht hx))).trans (h.block x hx hs)⟩
theorem Kpt.blk {S : Nat → Prop} {w w' : World} (h : Kpt S w w') {g : Nat} {t : TypeId} {cs : Array Value} (hg : Blk w g t cs) (hs : ¬ S g) : Blk w' g t cs := (h.block g hg.lt hs).trans hg
theorem Kpt.cell {S : Nat → Prop} {w w' : World} (h : Kpt S w w') {p : Addr} {v : Value} (hp : w.cell? p = some v) (hs : ¬ S p.block) : w'.cell? p = some v := (World.cell?_of_block (h.block p.block (block_lt_of_cell hp) hs)).trans hp
/-- the world in which run is called: the reading, Take's variable -/
abbrev takeBox (w : World) (v : Value) : World := (w.alloc (.cells #[v, .bool true, .bool false, .nilIface] 112)).alloc (.cells #[.pointer (some ⟨w.heap.size, 0, none⟩)] 110)
theorem takeBox_size (w : World) (v : Value) : (takeBox w v).heap.size = w.heap.size + 2 := by simp
theorem below_takeRun (w : World) (v : Value) : Below w.heap.size w (runBox (takeBox w v) w.heap.size) :=
  ((((Below.refl _ _).alloc (Nat.le_refl _) _).alloc (by simp) _).alloc (by simp <;> omega) _).alloc (by simp <;> omega) _
theorem inAt_run {w0 w : World} {v : Value} {xs : List Nat} (hw : Below w0.heap.size w0 w) (hv : Rd w0 v xs) : InAt w0 (runBox (takeBox w v) w.heap.size) ((takeBox w v).heap.size + 1) w.heap.size xs := by
  refine ⟨v, ⟨?_, ?_, ?_⟩, hv, below_then hw (below_takeRun w v), hw.size, ?_⟩
  · have h := Blk.new ((takeBox w v).alloc (.cells #[.pointer (some ⟨w.heap.size, 0, none⟩)] 110)) 121 #[.pointer (some ⟨w.heap.size, 0, none⟩)]
    rwa [show ((takeBox w v).alloc (.cells #[.pointer (some ⟨w.heap.size, 0, none⟩)] 110)).heap.size = (takeBox w v).heap.size + 1 by simp] at h
  · exact (((Blk.new w _ _).alloc _).alloc _).alloc _
  · rw [takeBox_size]; omega
  · rw [takeBox_size]; have := hw.size; omega
theorem var_run (w : World) (v : Value) : Blk (runBox (takeBox w v) w.heap.size) (w.heap.size + 1) 110 #[.pointer (some ⟨w.heap.size, 0, none⟩)] := by
  have h := Blk.new (w.alloc (.cells #[v, .bool true, .bool false, .nilIface] 112)) 110 #[.pointer (some ⟨w.heap.size, 0, none⟩)]
  rw [show (w.alloc (.cells #[v, .bool true, .bool false, .nilIface] 112)).heap.size = w.heap.size + 1 by simp] at h
  exact (h.alloc _).alloc _
theorem var_run2 (w : World) (v : Value) : Blk (runBox (takeBox w v) w.heap.size) (w.heap.size + 2) 110 #[.pointer (some ⟨w.heap.size, 0, none⟩)] := by
  have h := Blk.new (takeBox w v) 110 #[.pointer (some ⟨w.heap.size, 0, none⟩)]
  rw [takeBox_size] at h
  exact h.alloc _
end Go.Proofs.YtolfphfdeccleaaGreatDoor
/- Take, whatever reads: what it answers. -/
namespace Go.Proofs.YtolfphfdeccleaaGreatDoor
open Go Go.RowKit
/-- What Take is told of a function that reads: it goes on to zs. -/
def ReadsTo (K : Nat) (cap : Array Value) (S : Nat → Prop) (w0 w : World) (xs zs : List Nat) (R : Nat → Value → World → Prop) : Prop :=
  ∀ (w2 : World) (i r : Nat), w.heap.size ≤ r → w.heap.size ≤ i → InAt w0 w2 i r xs → Below w.heap.size w w2 →
    Calls Tryz.prog K (#[.pointer (some ⟨i, 0, none⟩)] ++ cap) w2 fun e w' => ∃ u, e = .returned u ∧ InAt w0 w' i r zs ∧ Kpt (fun b => b = r ∨ S b) w2 w' ∧ R r u w'
/-- .. it ends by an error. -/
def ReadsBad (K : Nat) (cap : Array Value) (S : Nat → Prop) (w0 w : World) (xs : List Nat) (ae : Addr) : Prop :=
  ∀ (w2 : World) (i r : Nat), w.heap.size ≤ r → w.heap.size ≤ i → InAt w0 w2 i r xs → Below w.heap.size w w2 →
    Calls Tryz.prog K (#[.pointer (some ⟨i, 0, none⟩)] ++ cap) w2 fun e w' => e = .panicked [{ v := stopV r, recovered := false }] ∧ Dead w' r (ev ae) ∧ Kpt (fun b => b = r ∨ S b) w2 w'
section
variable {S : Nat → Prop} {w0 w w1 w2 : World} {v : Value}
theorem kpt_end (h1 : Kpt (fun b => b = w.heap.size ∨ S b) (runBox (takeBox w v) w.heap.size) w1) (h2 : w1.grownBy w2 (some w.heap.size)) : Kpt S w w2 :=
  Kpt.old (Kpt.of_below (below_takeRun w v)) (Kpt.trans h1 (Kpt.of_grown h2 (Or.inl rfl))) fun x hx hl => hx.elim (fun e => by omega) id
theorem kpt_var (hS : ∀ b, S b → b < w.heap.size) (h1 : Kpt (fun b => b = w.heap.size ∨ S b) (runBox (takeBox w v) w.heap.size) w1) : w1.cell? ⟨w.heap.size + 1, 0, none⟩ = some (.pointer (some ⟨w.heap.size, 0, none⟩)) :=
  (h1.blk (var_run w v) (fun e => by rcases e with e | e; omega; have := hS _ e; omega)).cell 0
theorem kpt_var2 (hS : ∀ b, S b → b < w.heap.size) (h1 : Kpt (fun b => b = w.heap.size ∨ S b) (runBox (takeBox w v) w.heap.size) w1) : w1.cell? ⟨(takeBox w v).heap.size, 0, none⟩ = some (.pointer (some ⟨w.heap.size, 0, none⟩)) := by
  rw [takeBox_size]
  exact (h1.blk (var_run2 w v) (fun e => by rcases e with e | e; omega; have := hS _ e; omega)).cell 0
end
end Go.Proofs.YtolfphfdeccleaaGreatDoor
/- A goal set aside: the walk stands still at it. -/
namespace Go.Proofs.YtolfphfdeccleaaGreatDoor
/-- A walk rests here. -/
def Paused (p : Prop) : Prop := p
theorem pause {p : Prop} (h : Paused p) : p := h
end Go.Proofs.YtolfphfdeccleaaGreatDoor
/- Objects of layer 6 as they lie: rows of elements of several cells, entries, parents, an object's cells. -/
namespace Go.Proofs.YtolfphfdeccleaaGreatDoor
open Go Go.RowKit
/-- n elements that a slice value shows: cs are their cells. -/
def RdK (w : World) (v : Value) (n : Nat) (cs : List Value) : Prop :=
  ∃ A c, v = .slice A n c ∧ n ≤ c ∧ (0 < n → ∃ b o, A = some ⟨b, o, none⟩ ∧ b < w.heap.size ∧ ∀ j u, cs[j]? = some u → w.cell? ⟨b, o + j, none⟩ = some u)
theorem RdK.below {w w' : World} {v : Value} {n : Nat} {cs : List Value} (h : RdK w v n cs) {B : Nat} (hb : Below B w w') (hB : w.heap.size ≤ B) : RdK w' v n cs := by
  obtain ⟨A, c, hv, hc, hA⟩ := h
  refine ⟨A, c, hv, hc, fun h0 => ?_⟩
  obtain ⟨b, o, ha, hl, hx⟩ := hA h0
  have := hb.size
  exact ⟨b, o, ha, by omega, fun j u hu => (hb.cell (p := ⟨b, o + j, none⟩) (by show b < B; omega)).trans (hx j u hu)⟩
theorem RdK.nil (w : World) (cs : List Value) : RdK w (.slice none 0 0) 0 cs := ⟨none, 0, rfl, Nat.le_refl _, fun h => absurd h (by simp)⟩
/-- Are two things the same? -/
noncomputable def eqv {α : Type} (a b : α) : Bool := @decide (a = b) (Classical.propDecidable _)
theorem eqv_true {α : Type} {a b : α} (h : a = b) : eqv a b = true := @decide_eq_true _ (Classical.propDecidable _) h
theorem eqv_iff {α : Type} {a b : α} : eqv a b = true ↔ a = b := @decide_eq_true_iff _ (Classical.propDecidable _)
theorem beq_eqv {α : Type} [BEq α] [LawfulBEq α] (a b : α) : (a == b) = eqv a b := by
  rw [Bool.eq_iff_iff, beq_iff_eq, eqv_iff]
/-- An entry of a tree: its name, its id. -/
structure Ent where
  name : ByteArray
  id : List Nat
/-- An object, plainly. -/
structure Ob where
  kind : Int
  text : List Nat
  ents : List Ent
  target : List Nat
  pars : List (List Nat)
def Id32 (x : List Nat) : Prop := x.length = 32 ∧ Sha.Byte x
/-- What is so of every object that lies in memory. -/
structure Ob.Fit (o : Ob) : Prop where
  text : Sha.Byte o.text
  ents : ∀ e ∈ o.ents, Id32 e.id
  target : Id32 o.target
  pars : ∀ p ∈ o.pars, Id32 p
def cellsE1 (e : Ent) : List Value := .string e.name :: cellsB e.id
def cellsE (es : List Ent) : List Value := es.flatMap cellsE1
def cellsP (ps : List (List Nat)) : List Value := ps.flatMap cellsB
theorem flat_get {α : Type} (f : α → List Value) (n : Nat) : ∀ (l : List α) (_ : ∀ a ∈ l, (f a).length = n) (k : Nat) (h : k < l.length) (j : Nat) (_ : j < n), (l.flatMap f)[n * k + j]? = (f l[k])[j]?
  | a :: l, hl, 0, _, j, hj => by
    rw [List.flatMap_cons, Nat.mul_zero, Nat.zero_add, List.getElem?_append_left (by rw [hl a (List.mem_cons_self ..)]; exact hj)]; rfl
  | a :: l, hl, k + 1, h, j, hj => by
    have ih := flat_get f n l (fun a h => hl a (List.mem_cons_of_mem _ h)) k (by simpa using h) j hj
    have h1 : (f a).length = n := hl a (List.mem_cons_self ..)
    rw [List.flatMap_cons, List.getElem?_append_right (by rw [h1, Nat.mul_succ]; omega), h1, show n * (k + 1) + j - n = n * k + j by rw [Nat.mul_succ]; omega, ih]; rfl
theorem cellsE1_len {e : Ent} (h : Id32 e.id) : (cellsE1 e).length = 33 := by simp [cellsE1, cellsB, h.1]
theorem cellsP1_len {p : List Nat} (h : Id32 p) : (cellsB p).length = 32 := by simp [cellsB, h.1]
/-- Element k of entries that a slice shows. -/
theorem RdK.ent {w : World} {A : Option Addr} {n c : Nat} {es : List Ent} (h : RdK w (.slice A n c) n (cellsE es)) (hn : n = es.length) (hf : ∀ e ∈ es, Id32 e.id) {k : Nat} (hk : k < es.length) :
    ∃ b o, A = some ⟨b, o, none⟩ ∧ b < w.heap.size ∧ w.rangeAt b (o + k * 33) (cellsE1 es[k]) := by
  obtain ⟨A', c', hv, hc, hA⟩ := h
  injection hv with e1 e2 e3
  subst e1
  obtain ⟨b, o, ha, hl, hx⟩ := hA (by omega)
  refine ⟨b, o, ha, hl, fun j u hu => ?_⟩
  have hj : j < 33 := by have := (List.getElem?_eq_some_iff.1 hu).1; rwa [cellsE1_len (hf _ (List.getElem_mem _))] at this
  rw [Nat.add_assoc]
  refine hx (k * 33 + j) u ?_
  rw [cellsE, Nat.mul_comm k 33, flat_get cellsE1 33 es (fun e he => cellsE1_len (hf e he)) k hk j hj, hu]
theorem RdK.par {w : World} {A : Option Addr} {n c : Nat} {ps : List (List Nat)} (h : RdK w (.slice A n c) n (cellsP ps)) (hn : n = ps.length) (hf : ∀ p ∈ ps, Id32 p) {k : Nat} (hk : k < ps.length) :
    ∃ b o, A = some ⟨b, o, none⟩ ∧ b < w.heap.size ∧ w.rangeAt b (o + k * 32) (cellsB ps[k]) := by
  obtain ⟨A', c', hv, hc, hA⟩ := h
  injection hv with e1 e2 e3
  subst e1
  obtain ⟨b, o, ha, hl, hx⟩ := hA (by omega)
  refine ⟨b, o, ha, hl, fun j u hu => ?_⟩
  have hj : j < 32 := by have := (List.getElem?_eq_some_iff.1 hu).1; rwa [cellsP1_len (hf _ (List.getElem_mem _))] at this
  rw [Nat.add_assoc]
  refine hx (k * 32 + j) u ?_
  rw [cellsP, Nat.mul_comm k 32, flat_get cellsB 32 ps (fun e he => cellsP1_len (hf e he)) k hk j hj, hu]
/-- An object's cells. -/
structure ObC (w : World) (o : Ob) (cs : Array Value) (T : Option Addr) (tc : Nat) (E : Option Addr) (ec : Nat) (P : Option Addr) (pc : Nat) : Prop where
  cells : cs = (.int .i64 o.kind :: .slice T o.text.length tc :: .slice E o.ents.length ec :: (cellsB o.target ++ [.slice P o.pars.length pc])).toArray
  text : Rd w (.slice T o.text.length tc) o.text
  ents : RdK w (.slice E o.ents.length ec) o.ents.length (cellsE o.ents)
  pars : RdK w (.slice P o.pars.length pc) o.pars.length (cellsP o.pars)
theorem ObC.below {w w' : World} {o : Ob} {cs : Array Value} {T E P : Option Addr} {tc ec pc : Nat} (h : ObC w o cs T tc E ec P pc) {B : Nat} (hb : Below B w w') (hB : w.heap.size ≤ B) : ObC w' o cs T tc E ec P pc :=
  ⟨h.cells, h.text.below hb hB, h.ents.below hb hB, h.pars.below hb hB⟩
section
variable {w : World} {o : Ob} {cs : Array Value} {T E P : Option Addr} {tc ec pc : Nat}
theorem ObC.size (h : ObC w o cs T tc E ec P pc) (hf : o.Fit) : cs.size = 36 := by
  rw [h.cells]; simp [cellsB_len, hf.target.1]
theorem ObC.c0 (h : ObC w o cs T tc E ec P pc) : cs[0]? = some (.int .i64 o.kind) := by rw [h.cells]; rfl
theorem ObC.c1 (h : ObC w o cs T tc E ec P pc) : cs[1]? = some (.slice T o.text.length tc) := by rw [h.cells]; rfl
theorem ObC.c2 (h : ObC w o cs T tc E ec P pc) : cs[2]? = some (.slice E o.ents.length ec) := by rw [h.cells]; rfl
theorem ObC.c35 (h : ObC w o cs T tc E ec P pc) (hf : o.Fit) : cs[35]? = some (.slice P o.pars.length pc) := by
  rw [h.cells]
  rw [List.getElem?_toArray, show (35 : Nat) = 32 + 1 + 1 + 1 from rfl, List.getElem?_cons_succ, List.getElem?_cons_succ, List.getElem?_cons_succ, List.getElem?_append_right (by rw [cellsB_len, hf.target.1]; omega), cellsB_len, hf.target.1]
  rfl
/-- The target's cells in a block that holds the object. -/
theorem ObC.mid (h : ObC w o cs T tc E ec P pc) {wb : World} {g : Nat} {t : TypeId} (hB : Blk wb g t cs) : wb.rangeAt g 3 (cellsB o.target) := fun j u hu => by
  rw [hB.cell, h.cells]
  rw [List.getElem?_toArray, show 3 + j = j + 1 + 1 + 1 by omega, List.getElem?_cons_succ, List.getElem?_cons_succ, List.getElem?_cons_succ, List.getElem?_append_left (List.getElem?_eq_some_iff.1 hu).1, hu]
end
end Go.Proofs.YtolfphfdeccleaaGreatDoor
/- Rows of ids, and of entries, compared (slices.Equal). -/
namespace Go.Proofs.YtolfphfdeccleaaGreatDoor
open Go Go.RowKit
theorem size_u8 (w : World) : (sizeOf 5).run Tryz.prog w = .ok 1 w := by simp [Tryz.sizeOf5]
theorem id_eq (w : World) (x y : List Nat) (hx : Id32 x) (hy : Id32 y) : (Op.equalIn 10000 49 (.agg (cellsB x).toArray) (.agg (cellsB y).toArray)).run Tryz.prog w = .ok (eqv x y) w :=
  beq_eqv x y ▸ run_equalIn_u8s w 49 5 32 Tryz.underlying49 Tryz.underlying5 size_u8 x y hx.1 hy.1 hx.2 hy.2
end Go.Proofs.YtolfphfdeccleaaGreatDoor
/- Entries compared, alone and in rows. -/
namespace Go.Proofs.YtolfphfdeccleaaGreatDoor
open Go Go.RowKit
end Go.Proofs.YtolfphfdeccleaaGreatDoor
/- Rows of entries compared (slices.Equal). -/
namespace Go.Proofs.YtolfphfdeccleaaGreatDoor
open Go Go.RowKit
end Go.Proofs.YtolfphfdeccleaaGreatDoor
