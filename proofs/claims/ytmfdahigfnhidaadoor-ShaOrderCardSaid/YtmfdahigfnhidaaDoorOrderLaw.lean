/- The walk of the law ShaOrder. -/
import Derived.Test.YtmfdahigfnhidaaDoorSort
import Derived.Test.YtmfdahigfnhidaaDoorOrderMath
import Derived.Test.YtmfdahigfnhidaaDoorShaAlive
import Derived.Great.BuildSlice
import Derived.Great.FillDense
namespace Go.Proofs.YtmfdahigfnhidaaDoor.lawOrder
open Go Go.RowKit
theorem less_q (q : Bool) (xs ys : List Nat) (w : World) (hx : xs.length = 32) (hy : ys.length = 32) (hb : Sha.Byte xs) (hb' : Sha.Byte ys) (hq : Sha.lexLt xs ys = q) :
    Calls Tryd.prog 22 #[.agg (u8s xs), .agg (u8s ys)] w fun e w' => e = .returned (.bool q) ∧ Below w.heap.size w w' := by
  subst hq; exact less_any xs ys w hx hy hb hb'
theorem rless_q (q : Bool) (xs ys : List Nat) (w : World) (hx : xs.length = 32) (hy : ys.length = 32) (hb : Sha.Byte xs) (hb' : Sha.Byte ys) (hq : Sha.lexLt xs ys = q) :
    Calls Tryd.prog 23 #[.agg (u8s xs), .agg (u8s ys)] w fun e w' => e = .returned (.bool q) ∧ Below w.heap.size w w' := by
  subst hq; exact rless_any xs ys w hx hy hb hb'
theorem hex_q (xs : List Nat) (t : ByteArray) (w : World) (hx : xs.length = 32) (hb : Sha.Byte xs) (ht : t = textOf (Sha.hex xs)) :
    Calls Tryd.prog 18 #[.agg (u8s xs)] w fun e w' => e = .returned (.string t) ∧ Below w.heap.size w w' := by
  subst ht; exact hex_any xs w hx hb
theorem short_q (xs : List Nat) (n : Nat) (w : World) (hx : xs.length = 32) (hb : Sha.Byte xs) (hn : n = Sha.shortK xs 8) :
    Calls Tryd.prog 24 #[.agg (u8s xs)] w fun e w' => e = .returned (.int .u64 (n : Int)) ∧ Below w.heap.size w w' := by
  subst hn; exact short_any xs w hx hb
def flat3 (x y z : List Nat) : List Nat := [x, y, z].flatten
theorem wpList_build3 {ops : Array Oper} {rest : List Oper} {o : Oper} {a : Act} {w : World} {Q : Exit → Act → World → Prop} (hg : o.guard = none) (p0 p1 p2 : Operand) (ho : o.op = .buildSlice 46 3 #[(0, p0), (1, p1), (2, p2)])
    (x y z : List Nat) (e0 : a.eval p0 = .agg (u8s x)) (e1 : a.eval p1 = .agg (u8s y)) (e2 : a.eval p2 = .agg (u8s z)) (hx : x.length = 32) (hy : y.length = 32) (hz : z.length = 32)
    (h : wpList Tryd.prog ops Q rest (a.put o.dst (.slice (some ⟨w.heap.size, 0, none⟩) 3 3)) (w.alloc (.cells (u8s (flat3 x y z)) 27))) : wpList Tryd.prog ops Q (o :: rest) a w := by
  obtain ⟨ie, hie, hiz, his, hib⟩ := info_parts oid_all
  refine wpList_buildSlice hg 46 27 3 _ ho (u8s (flat3 x y z)) ie _ Tryd.underlying46 hie hiz (by rw [his]; decide) (by rw [his]; decide) ?_ h
  rw [his]
  have hl : (Array.map (fun (x : Nat × Operand) => match x with | (i, x) => (i, a.eval x)) #[(0, p0), (1, p1), (2, p2)]).toList = ([Value.agg (u8s x), Value.agg (u8s y), Value.agg (u8s z)].zipIdx 0).map fun x => (x.2, x.1) := by
    simp [e0, e1, e2]
  rw [hl, Great.fill_whole (s := 32) (by decide) _ _ ?_ ?_]
  · simp [u8s, Value.cells, flat3]
  · intro v hv
    simp only [List.mem_cons, List.not_mem_nil, or_false] at hv
    rcases hv with rfl | rfl | rfl
    · show (u8s x).size = 32; rw [u8s_size, hx]
    · show (u8s y).size = 32; rw [u8s_size, hy]
    · show (u8s z).size = 32; rw [u8s_size, hz]
  · simp
theorem rd_three {w : World} (x y : List Nat) (hx : x.length = 32 ∧ Sha.Byte x) (hy : y.length = 32 ∧ Sha.Byte y) : Sha.Oids [y, x, y] ∧ RdO (w.alloc (.cells (u8s (flat3 y x y)) 27)) (.slice (some ⟨w.heap.size, 0, none⟩) 3 3) [y, x, y] := by
  have ho : Sha.Oids [y, x, y] := fun o h => by
    simp only [List.mem_cons, List.not_mem_nil, or_false] at h
    rcases h with rfl | rfl | rfl <;> assumption
  have hB : Blk (w.alloc (.cells (u8s (flat3 y x y)) 27)) w.heap.size 27 (u8s (flat3 y x y)) := Blk.new w _ _
  refine ⟨ho, some ⟨w.heap.size, 0, none⟩, 3, rfl, Nat.le_refl _, fun _ => ⟨w.heap.size, 0, rfl, hB.lt, fun i hi j v hv => ?_⟩⟩
  have hj : j < (cellsN ([y, x, y].getD i [])).length := (List.getElem?_eq_some_iff.1 hv).1
  rw [cellsN_len, (ho.getD hi).1] at hj
  have e := getD_cells _ ho hi hj
  rw [hv] at e
  rw [Nat.zero_add, hB.cell (32 * i + j), ← e, ← cellsN_arr]
  simp [flat3]
theorem mem_three (x xs ys : List Nat) : x ∈ [ys, xs, ys] ↔ x = xs ∨ x = ys := by
  simp only [List.mem_cons, List.not_mem_nil, or_false]
  constructor
  · rintro (h | h | h)
    · exact Or.inr h
    · exact Or.inl h
    · exact Or.inr h
  · rintro (h | h)
    · exact Or.inr (Or.inl h)
    · exact Or.inl h
theorem range_below {w w' : World} {B b o : Nat} {cs : List Value} (h : w.rangeAt b o cs) (hb : Below B w w') (hlt : b < B) : w'.rangeAt b o cs :=
  fun j v hv => (hb.cell (p := ⟨b, o + j, none⟩) hlt).trans (h j v hv)
set_option maxRecDepth 100000 in
set_option maxHeartbeats 4000000 in
theorem law_part (q q' : Bool) (tx ty : ByteArray) (m n : Nat) (xs ys : List Nat) (w : World) (hx : xs.length = 32) (hy : ys.length = 32) (hb : Sha.Byte xs) (hb' : Sha.Byte ys) (ht : Tabs w)
    (hq : Sha.lexLt xs ys = q) (hq' : Sha.lexLt ys xs = q') (htx : tx = textOf (Sha.hex xs)) (hty : ty = textOf (Sha.hex ys)) (hm : m = Sha.shortK xs 8) (hn : n = Sha.shortK ys 8)
    (h1 : ¬ (q = true ∧ q' = true)) (h2 : m ≠ n → q = decide (m < n)) :
    Calls Tryd.prog 7 #[.agg (u8s xs), .agg (u8s ys)] w fun e w' => e = .returned (.bool true) ∧ Below w.heap.size w w' := by
  have hx0 : Blk ((w.alloc (.cells (u8s xs) 27)).alloc (.cells (u8s ys) 27)) w.heap.size 27 (u8s xs) := (Blk.new w _ _).alloc _
  have hy0 : Blk ((w.alloc (.cells (u8s xs) 27)).alloc (.cells (u8s ys) 27)) (w.heap.size + 1) 27 (u8s ys) := by
    have h := Blk.new (w.alloc (.cells (u8s xs) 27)) 27 (u8s ys)
    have e : (w.alloc (.cells (u8s xs) 27)).heap.size = w.heap.size + 1 := by simp
    rw [e] at h
    exact h
  have hb0 : Below w.heap.size w ((w.alloc (.cells (u8s xs) 27)).alloc (.cells (u8s ys) 27)) := by
    refine (((Below.refl _ _).alloc (Nat.le_refl _) _).alloc ?_ _); simp
  have HX0 := Lib.hid hx0
  have HY0 := Lib.hid hy0
  have HB0 := Lib.hid hb0
  have HLX := Lib.hid (show (u8s xs).size = 32 by rw [u8s_size, hx])
  have HLY := Lib.hid (show (u8s ys).size = 32 by rw [u8s_size, hy])
  have HHX := Lib.hid hx
  have HHY := Lib.hid hy
  have HQ := Lib.hid hq
  have HQ2 := Lib.hid hq'
  have HTX := Lib.hid htx
  have HTY := Lib.hid hty
  have HM := Lib.hid hm
  have HN := Lib.hid hn
  have H1 := Lib.hid h1
  have H2 := Lib.hid h2
  have hlss : Op.bytesLess tx.toList ty.toList = q := by
    rw [htx, hty, textOf_toList, textOf_toList, Sha.hex_less xs ys (by rw [hx, hy]) (Byte.mem hb) (Byte.mem hb'), hq]
  have hsz : (((tx.size : Nat) : Int) != 64) = false := by
    rw [htx, textOf_size, Sha.hex_len, hx]; rfl
  clear hx0 hy0 hb0 hx hy hq hq' htx hty hm hn h1 h2
  go_enter Tryd.func7, Tryd.ntmps7
  go_wp2_with fail
  generalize ((w.alloc (.cells (u8s xs) 27)).alloc (.cells (u8s ys) 27)) = w0 at HX0 HY0 HB0 ⊢
  refine (alive_any w0 (ht.below HB0.out (Nat.le_refl _))).mono ?_
  rintro e w1 ⟨rfl, hb1⟩
  have HX1 := Lib.hid (HX0.out.below hb1 HX0.out.lt).drew
  have HY1 := Lib.hid (HY0.out.below hb1 HY0.out.lt).drew
  have HB1 := Lib.hid (below_drewN (HB0.out.trans (hb1.mono HB0.out.size)) 1)
  clear hb1 HX0 HY0 HB0
  go_wp2_with fail
  refine wp_region_held (S := (fun w' => Below w1.drew.heap.size w1.drew w')) (by kernel_rfl) ?_
  change wpAnyH _ _ _ _ _ _ _ _ w1.drew
  refine wpAnyH_take (i := 0) rfl (by kernel_rfl) (by kernel_rfl) (by kernel_rfl) (fun _ _ _ h => h) (takes_row 27 (.tmp 2) rfl (by rfl) (w.heap.size) rfl 27 (u8s xs) _ (fun w4 h => HX1.out.below h HX1.out.lt) Tryd.underlying27 rfl (by rw [HLX.out]; exact oid_info)) (Below.refl _ _) ?_
  try simp only [Act.put, List.getElem_toArray, List.getElem_cons_zero, List.getElem_cons_succ, List.setIfInBounds_toArray, List.set_cons_zero, List.set_cons_succ]
  refine wpAnyH_take (i := 2) rfl (by kernel_rfl) (by kernel_rfl) (by kernel_rfl) (fun _ _ _ h => h) (takes_row 27 (.tmp 3) rfl (by rfl) (w.heap.size + 1) rfl 27 (u8s ys) _ (fun w4 h => HY1.out.below h HY1.out.lt) Tryd.underlying27 rfl (by rw [HLY.out]; exact oid_info)) (Below.refl _ _) ?_
  try simp only [Act.put, List.getElem_toArray, List.getElem_cons_zero, List.getElem_cons_succ, List.setIfInBounds_toArray, List.set_cons_zero, List.set_cons_succ]
  refine all_one (i := 1) (by kernel_rfl) rfl (by rfl) (fun K hK => ?_)
  go_simp
  refine (hex_q xs tx _ HHX.out hb HTX.out).mono ?_
  rintro e wa ⟨rfl, hba⟩
  dsimp only
  refine hK _ _ (hba) ?_; clear hK K
  try simp only [Act.put, List.getElem_toArray, List.getElem_cons_zero, List.getElem_cons_succ, List.setIfInBounds_toArray, List.set_cons_zero, List.set_cons_succ]
  refine all_one (i := 3) (by kernel_rfl) rfl (by rfl) (fun K hK => ?_)
  go_simp
  refine (hex_q ys ty _ HHY.out hb' HTY.out).mono ?_
  rintro e w2 ⟨rfl, hbb⟩
  have hbb := hba.trans (hbb.mono hba.size)
  dsimp only
  refine hK _ _ (hbb) ?_; clear hK K
  try simp only [Act.put, List.getElem_toArray, List.getElem_cons_zero, List.getElem_cons_succ, List.setIfInBounds_toArray, List.set_cons_zero, List.set_cons_succ]
  have HBB := Lib.hid hbb
  clear hba hbb
  refine wpAnyH_take (i := 4) (v := ?_) rfl (by kernel_rfl) (by kernel_rfl) (by kernel_rfl) (fun _ _ _ h => h) (Or.inl ⟨by rfl, ?_⟩) (HBB.out) ?_
  rotate_left
  · intro w _; go_simp; with_reducible rfl
  try simp only [Act.put, List.getElem_toArray, List.getElem_cons_zero, List.getElem_cons_succ, List.setIfInBounds_toArray, List.set_cons_zero, List.set_cons_succ]
  refine wpAnyH_take (i := 5) (v := ?_) rfl (by kernel_rfl) (by kernel_rfl) (by kernel_rfl) (fun _ _ _ h => h) (Or.inl ⟨by rfl, ?_⟩) (HBB.out) ?_
  rotate_left
  · intro w _; go_simp; with_reducible rfl
  try simp only [Act.put, List.getElem_toArray, List.getElem_cons_zero, List.getElem_cons_succ, List.setIfInBounds_toArray, List.set_cons_zero, List.set_cons_succ]
  refine wpAnyH_done (by kernel_rfl) ?_ _
  have HX2 := Lib.hid (HX1.out.below HBB.out HX1.out.lt)
  have HY2 := Lib.hid (HY1.out.below HBB.out HY1.out.lt)
  have HB2 := Lib.hid (HB1.out.trans (HBB.out.mono HB1.out.size))
  clear HX1 HY1 HB1 HBB
  by_cases hmn0 : m = n
  · have HMN := Lib.hid hmn0
    clear hmn0
    cases q
    · skip
      go_wp2_with (first | (refine wpList_row_w (by rfl) 27 (.tmp 2) rfl (w.heap.size) rfl 27 _ _ HX2.out Tryd.underlying27 rfl (by rw [HLX.out]; exact oid_info) ?_) | (refine wpList_row_w (by rfl) 27 (.tmp 3) rfl (w.heap.size + 1) rfl 27 _ _ HY2.out Tryd.underlying27 rfl (by rw [HLY.out]; exact oid_info) ?_))
      refine (less_q false xs ys w2 HHX.out HHY.out hb hb' HQ.out).mono ?_
      rintro e w3 ⟨rfl, hbk⟩
      have HX3 := Lib.hid (HX2.out.below hbk HX2.out.lt)
      have HY3 := Lib.hid (HY2.out.below hbk HY2.out.lt)
      have HB3 := Lib.hid (HB2.out.trans (hbk.mono HB2.out.size))
      clear hbk HX2 HY2 HB2
      go_wp2_with (first | (refine wpList_row_w (by rfl) 27 (.tmp 2) rfl (w.heap.size) rfl 27 _ _ HX3.out Tryd.underlying27 rfl (by rw [HLX.out]; exact oid_info) ?_) | (refine wpList_row_w (by rfl) 27 (.tmp 3) rfl (w.heap.size + 1) rfl 27 _ _ HY3.out Tryd.underlying27 rfl (by rw [HLY.out]; exact oid_info) ?_))
      refine (less_q false xs ys w3 HHX.out HHY.out hb hb' HQ.out).mono ?_
      rintro e w4 ⟨rfl, hbk⟩
      have HX4 := Lib.hid (HX3.out.below hbk HX3.out.lt)
      have HY4 := Lib.hid (HY3.out.below hbk HY3.out.lt)
      have HB4 := Lib.hid (HB3.out.trans (hbk.mono HB3.out.size))
      clear hbk HX3 HY3 HB3
      go_wp2_with fail
      have hmn : (((m : Nat) : Int) != ((n : Nat) : Int)) = false := by rw [HMN.out]; simp
      have HX5 := Lib.hid HX4.out.drew
      have HY5 := Lib.hid HY4.out.drew
      have HB5 := Lib.hid (below_drewN HB4.out 1)
      clear HX4 HY4 HB4
      refine wp_region_held (S := (fun w' => Below w4.drew.heap.size w4.drew w')) (by kernel_rfl) ?_
      change wpAnyH _ _ _ _ _ _ _ _ w4.drew
      refine wpAnyH_take (i := 0) rfl (by kernel_rfl) (by kernel_rfl) (by kernel_rfl) (fun _ _ _ h => h) (takes_row 27 (.tmp 2) rfl (by rfl) (w.heap.size) rfl 27 (u8s xs) _ (fun w4 h => HX5.out.below h HX5.out.lt) Tryd.underlying27 rfl (by rw [HLX.out]; exact oid_info)) (Below.refl _ _) ?_
      try simp only [Act.put, List.getElem_toArray, List.getElem_cons_zero, List.getElem_cons_succ, List.setIfInBounds_toArray, List.set_cons_zero, List.set_cons_succ]
      refine wpAnyH_take (i := 2) rfl (by kernel_rfl) (by kernel_rfl) (by kernel_rfl) (fun _ _ _ h => h) (takes_row 27 (.tmp 3) rfl (by rfl) (w.heap.size + 1) rfl 27 (u8s ys) _ (fun w4 h => HY5.out.below h HY5.out.lt) Tryd.underlying27 rfl (by rw [HLY.out]; exact oid_info)) (Below.refl _ _) ?_
      try simp only [Act.put, List.getElem_toArray, List.getElem_cons_zero, List.getElem_cons_succ, List.setIfInBounds_toArray, List.set_cons_zero, List.set_cons_succ]
      refine all_one (i := 1) (by kernel_rfl) rfl (by rfl) (fun K hK => ?_)
      go_simp
      refine (short_q xs m _ HHX.out hb HM.out).mono ?_
      rintro e wa ⟨rfl, hba⟩
      dsimp only
      refine hK _ _ (hba) ?_; clear hK K
      try simp only [Act.put, List.getElem_toArray, List.getElem_cons_zero, List.getElem_cons_succ, List.setIfInBounds_toArray, List.set_cons_zero, List.set_cons_succ]
      refine all_one (i := 3) (by kernel_rfl) rfl (by rfl) (fun K hK => ?_)
      go_simp
      refine (short_q ys n _ HHY.out hb' HN.out).mono ?_
      rintro e wb ⟨rfl, hbb⟩
      have hbb := hba.trans (hbb.mono hba.size)
      dsimp only
      refine hK _ _ (hbb) ?_; clear hK K
      try simp only [Act.put, List.getElem_toArray, List.getElem_cons_zero, List.getElem_cons_succ, List.setIfInBounds_toArray, List.set_cons_zero, List.set_cons_succ]
      have HBB := Lib.hid hbb
      clear hba hbb
      refine wpAnyH_take (i := 4) (v := ?_) rfl (by kernel_rfl) (by kernel_rfl) (by kernel_rfl) (fun _ _ _ h => h) (Or.inl ⟨by rfl, ?_⟩) (HBB.out) ?_
      rotate_left
      · intro w _; go_simp; with_reducible rfl
      try simp only [Act.put, List.getElem_toArray, List.getElem_cons_zero, List.getElem_cons_succ, List.setIfInBounds_toArray, List.set_cons_zero, List.set_cons_succ]
      refine wpAnyH_take (i := 5) (v := ?_) rfl (by kernel_rfl) (by kernel_rfl) (by kernel_rfl) (fun _ _ _ h => h) (Or.inl ⟨by rfl, ?_⟩) (HBB.out) ?_
      rotate_left
      · intro w _; go_simp; with_reducible rfl
      try simp only [Act.put, List.getElem_toArray, List.getElem_cons_zero, List.getElem_cons_succ, List.setIfInBounds_toArray, List.set_cons_zero, List.set_cons_succ]
      refine wpAnyH_take (i := 6) (v := undef) rfl (by kernel_rfl) (by kernel_rfl) (by kernel_rfl) (fun _ _ _ h => h) (Or.inr ⟨by rfl, rfl⟩) (HBB.out) ?_
      try simp only [Act.put, List.getElem_toArray, List.getElem_cons_zero, List.getElem_cons_succ, List.setIfInBounds_toArray, List.set_cons_zero, List.set_cons_succ]
      refine wpAnyH_take (i := 7) (v := undef) rfl (by kernel_rfl) (by kernel_rfl) (by kernel_rfl) (fun _ _ _ h => h) (Or.inr ⟨by rfl, rfl⟩) (HBB.out) ?_
      try simp only [Act.put, List.getElem_toArray, List.getElem_cons_zero, List.getElem_cons_succ, List.setIfInBounds_toArray, List.set_cons_zero, List.set_cons_succ]
      refine wpAnyH_take (i := 8) (v := undef) rfl (by kernel_rfl) (by kernel_rfl) (by kernel_rfl) (fun _ _ _ h => h) (Or.inr ⟨by rfl, rfl⟩) (HBB.out) ?_
      try simp only [Act.put, List.getElem_toArray, List.getElem_cons_zero, List.getElem_cons_succ, List.setIfInBounds_toArray, List.set_cons_zero, List.set_cons_succ]
      refine wpAnyH_take (i := 9) (v := undef) rfl (by kernel_rfl) (by kernel_rfl) (by kernel_rfl) (fun _ _ _ h => h) (Or.inr ⟨by rfl, rfl⟩) (HBB.out) ?_
      try simp only [Act.put, List.getElem_toArray, List.getElem_cons_zero, List.getElem_cons_succ, List.setIfInBounds_toArray, List.set_cons_zero, List.set_cons_succ]
      refine wpAnyH_take (i := 10) (v := undef) rfl (by kernel_rfl) (by kernel_rfl) (by kernel_rfl) (fun _ _ _ h => h) (Or.inr ⟨by rfl, rfl⟩) (HBB.out) ?_
      try simp only [Act.put, List.getElem_toArray, List.getElem_cons_zero, List.getElem_cons_succ, List.setIfInBounds_toArray, List.set_cons_zero, List.set_cons_succ]
      refine wpAnyH_take (i := 11) (v := undef) rfl (by kernel_rfl) (by kernel_rfl) (by kernel_rfl) (fun _ _ _ h => h) (Or.inr ⟨by rfl, rfl⟩) (HBB.out) ?_
      try simp only [Act.put, List.getElem_toArray, List.getElem_cons_zero, List.getElem_cons_succ, List.setIfInBounds_toArray, List.set_cons_zero, List.set_cons_succ]
      refine wpAnyH_take (i := 12) (v := undef) rfl (by kernel_rfl) (by kernel_rfl) (by kernel_rfl) (fun _ _ _ h => h) (Or.inr ⟨by rfl, rfl⟩) (HBB.out) ?_
      try simp only [Act.put, List.getElem_toArray, List.getElem_cons_zero, List.getElem_cons_succ, List.setIfInBounds_toArray, List.set_cons_zero, List.set_cons_succ]
      refine wpAnyH_take (i := 13) (v := undef) rfl (by kernel_rfl) (by kernel_rfl) (by kernel_rfl) (fun _ _ _ h => h) (Or.inr ⟨by rfl, rfl⟩) (HBB.out) ?_
      try simp only [Act.put, List.getElem_toArray, List.getElem_cons_zero, List.getElem_cons_succ, List.setIfInBounds_toArray, List.set_cons_zero, List.set_cons_succ]
      refine wpAnyH_take (i := 14) (v := undef) rfl (by kernel_rfl) (by kernel_rfl) (by kernel_rfl) (fun _ _ _ h => h) (Or.inr ⟨by rfl, rfl⟩) (HBB.out) ?_
      try simp only [Act.put, List.getElem_toArray, List.getElem_cons_zero, List.getElem_cons_succ, List.setIfInBounds_toArray, List.set_cons_zero, List.set_cons_succ]
      refine wpAnyH_take (i := 15) (v := ?_) rfl (by kernel_rfl) (by kernel_rfl) (by kernel_rfl) (fun _ _ _ h => h) (Or.inl ⟨by rfl, ?_⟩) (HBB.out) ?_
      rotate_left
      · intro w _; go_simp; with_reducible rfl
      try simp only [Act.put, List.getElem_toArray, List.getElem_cons_zero, List.getElem_cons_succ, List.setIfInBounds_toArray, List.set_cons_zero, List.set_cons_succ]
      refine wpAnyH_done (by kernel_rfl) ?_ _
      have HX6 := Lib.hid (HX5.out.below HBB.out HX5.out.lt)
      have HY6 := Lib.hid (HY5.out.below HBB.out HY5.out.lt)
      have HB6 := Lib.hid (HB5.out.trans (HBB.out.mono HB5.out.size))
      clear HX5 HY5 HB5
      clear hmn
      go_wp2_with (first | (refine wpList_row_w (by rfl) 27 (.tmp 2) rfl (w.heap.size) rfl 27 _ _ HX6.out Tryd.underlying27 rfl (by rw [HLX.out]; exact oid_info) ?_) | (refine wpList_row_w (by rfl) 27 (.tmp 3) rfl (w.heap.size + 1) rfl 27 _ _ HY6.out Tryd.underlying27 rfl (by rw [HLY.out]; exact oid_info) ?_) | (refine wpList_build3 rfl _ _ _ rfl ys xs ys rfl rfl rfl HHY.out HHX.out HHY.out ?_))
      have HR3 := Lib.hid (rd_three (w := wb) xs ys ⟨HHX.out, hb⟩ ⟨HHY.out, hb'⟩)
      have HXS : Hid (Blk (wb.alloc (.cells (u8s (flat3 ys xs ys)) 27)) w.heap.size 27 (u8s xs)) := Lib.hid (HX6.out.alloc _)
      have HYS : Hid (Blk (wb.alloc (.cells (u8s (flat3 ys xs ys)) 27)) (w.heap.size + 1) 27 (u8s ys)) := Lib.hid (HY6.out.alloc _)
      have HBS : Hid (Below w.heap.size w (wb.alloc (.cells (u8s (flat3 ys xs ys)) 27))) := Lib.hid (HB6.out.alloc HB6.out.size _)
      clear HX6 HY6 HB6
      refine (sort_any _ [ys, xs, ys] _ HR3.out.2 HR3.out.1 (by show 3 < 1073741824; omega)).mono ?_
      rintro e wz ⟨r, ⟨b, c, rfl, hc, hbl, hrow⟩, hol, hmem, hrise, hbs⟩
      have HXZ := Lib.hid (HXS.out.below hbs HXS.out.lt)
      have HYZ := Lib.hid (HYS.out.below hbs HYS.out.lt)
      have HBZ := Lib.hid (HBS.out.trans (hbs.mono HBS.out.size))
      have HROW := Lib.hid hrow
      have HMEM := Lib.hid hmem
      have HRISE := Lib.hid hrise
      have HOL := Lib.hid hol
      have HBL := Lib.hid hbl
      clear hbs HXS HYS HBS HR3 hrow hmem hrise hol hbl
      have heq0 := eq_oid xs ys ⟨HHX.out, hb⟩ ⟨HHY.out, hb'⟩
      by_cases hxy : xs = ys
      · have hr1 : r = [xs] := Sha.one_of HRISE.out (fun x => by rw [HMEM.out x, ← hxy]; simp)
        subst hr1
        have hbq : (xs == ys) = true := by rw [hxy]; exact beq_self_eq_true _
        rw [hbq] at heq0
        have HXY := Lib.hid hxy
        clear hbq hxy
        rw [show ([xs] : List (List Nat)).length = 1 from rfl]
        have hcc : 1 ≤ c := hc
        go_wp2_with (first | (refine wpList_row_w (by rfl) 27 (.tmp 2) rfl (w.heap.size) rfl 27 _ _ HXZ.out Tryd.underlying27 rfl (by rw [HLX.out]; exact oid_info) ?_) | (refine wpList_row_w (by rfl) 27 (.tmp 3) rfl (w.heap.size + 1) rfl 27 _ _ HYZ.out Tryd.underlying27 rfl (by rw [HLY.out]; exact oid_info) ?_))
        have heq1 := eq_oid xs xs ⟨HHX.out, hb⟩ ⟨HHX.out, hb⟩
        rw [beq_self_eq_true] at heq1
        have x0 := fun w' => run_index_k (P := Tryd.prog) Tryd.underlying46 oid_info' b 0 1 c 0 (by omega) (ii := (0 : Int)) rfl w'
        simp only [Nat.zero_add, Nat.mul_zero] at x0
        have HR0 : Hid (wz.drew.rangeAt b 0 (cellsN xs)) := Lib.hid (by have h := HROW.out 0 (by simp); exact h)
        have HBL2 : Hid (b < wz.drew.heap.size) := Lib.hid (HBL.out (by simp))
        have HXD := Lib.hid HXZ.out.drew
        have HBD := Lib.hid (below_drewN HBZ.out 1)
        refine wp_region_held (S := (fun w' => Below wz.drew.heap.size wz.drew w')) (by kernel_rfl) ?_
        change wpAnyH _ _ _ _ _ _ _ _ wz.drew
        refine wpAnyH_take (i := 0) (v := ?_) rfl (by kernel_rfl) (by kernel_rfl) (by kernel_rfl) (fun _ _ _ h => h) (Or.inl ⟨by rfl, ?_⟩) (Below.refl _ _) ?_
        rotate_left
        · intro w _; go_simp; with_reducible rfl
        try simp only [Act.put, List.getElem_toArray, List.getElem_cons_zero, List.getElem_cons_succ, List.setIfInBounds_toArray, List.set_cons_zero, List.set_cons_succ]
        refine wpAnyH_take (i := 1) (v := ?_) rfl (by kernel_rfl) (by kernel_rfl) (by kernel_rfl) (fun _ _ _ h => h) (Or.inl ⟨by rfl, ?_⟩) (Below.refl _ _) ?_
        rotate_left
        · intro w _; go_simp; with_reducible rfl
        try simp only [Act.put, List.getElem_toArray, List.getElem_cons_zero, List.getElem_cons_succ, List.setIfInBounds_toArray, List.set_cons_zero, List.set_cons_succ]
        refine wpAnyH_take (i := 2) (v := ?_) rfl (by kernel_rfl) (by kernel_rfl) (by kernel_rfl) (fun _ _ _ h => h) (Or.inl ⟨by rfl, ?_⟩) (Below.refl _ _) ?_
        rotate_left
        · intro w _; go_simp; with_reducible rfl
        try simp only [Act.put, List.getElem_toArray, List.getElem_cons_zero, List.getElem_cons_succ, List.setIfInBounds_toArray, List.set_cons_zero, List.set_cons_succ]
        refine wpAnyH_take (i := 3) (v := ?_) rfl (by kernel_rfl) (by kernel_rfl) (by kernel_rfl) (fun _ _ _ h => h) (Or.inl ⟨by rfl, ?_⟩) (Below.refl _ _) ?_
        rotate_left
        · intro w _; go_simp; with_reducible rfl
        try simp only [Act.put, List.getElem_toArray, List.getElem_cons_zero, List.getElem_cons_succ, List.setIfInBounds_toArray, List.set_cons_zero, List.set_cons_succ]
        refine wpAnyH_take (i := 4) (v := ?_) rfl (by kernel_rfl) (by kernel_rfl) (by kernel_rfl) (fun _ _ _ h => h) (Or.inl ⟨by rfl, ?_⟩) (Below.refl _ _) ?_
        rotate_left
        · intro w _; go_simp; with_reducible rfl
        try simp only [Act.put, List.getElem_toArray, List.getElem_cons_zero, List.getElem_cons_succ, List.setIfInBounds_toArray, List.set_cons_zero, List.set_cons_succ]
        refine wpAnyH_take (i := 5) (v := ?_) rfl (by kernel_rfl) (by kernel_rfl) (by kernel_rfl) (fun _ _ _ h => h) (Or.inl ⟨by rfl, ?_⟩) (Below.refl _ _) ?_
        rotate_left
        · intro w _; go_simp; with_reducible rfl
        try simp only [Act.put, List.getElem_toArray, List.getElem_cons_zero, List.getElem_cons_succ, List.setIfInBounds_toArray, List.set_cons_zero, List.set_cons_succ]
        refine wpAnyH_take (i := 6) rfl (by kernel_rfl) (by kernel_rfl) (by kernel_rfl) (fun _ _ _ h => h) (yieldsIf_load_mid (by rfl) 27 _ rfl b _ rfl (cellsN xs) _ (fun w4 h => range_below HR0.out h HBL2.out) Tryd.underlying27 rfl (by rw [cellsN_len, HHX.out]; exact oid_info')) (Below.refl _ _) ?_
        try simp only [Act.put, List.getElem_toArray, List.getElem_cons_zero, List.getElem_cons_succ, List.setIfInBounds_toArray, List.set_cons_zero, List.set_cons_succ]
        rw [cellsN_arr]
        refine wpAnyH_take (i := 7) rfl (by kernel_rfl) (by kernel_rfl) (by kernel_rfl) (fun _ _ _ h => h) (takes_row 27 (.tmp 2) rfl (by rfl) (w.heap.size) rfl 27 (u8s xs) _ (fun w4 h => HXD.out.below h HXD.out.lt) Tryd.underlying27 rfl (by rw [HLX.out]; exact oid_info)) (Below.refl _ _) ?_
        try simp only [Act.put, List.getElem_toArray, List.getElem_cons_zero, List.getElem_cons_succ, List.setIfInBounds_toArray, List.set_cons_zero, List.set_cons_succ]
        refine wpAnyH_take (i := 8) (v := ?_) rfl (by kernel_rfl) (by kernel_rfl) (by kernel_rfl) (fun _ _ _ h => h) (Or.inl ⟨by rfl, ?_⟩) (Below.refl _ _) ?_
        rotate_left
        · intro w _; go_simp; with_reducible rfl
        try simp only [Act.put, List.getElem_toArray, List.getElem_cons_zero, List.getElem_cons_succ, List.setIfInBounds_toArray, List.set_cons_zero, List.set_cons_succ]
        refine wpAnyH_take (i := 9) (v := ?_) rfl (by kernel_rfl) (by kernel_rfl) (by kernel_rfl) (fun _ _ _ h => h) (Or.inl ⟨by rfl, ?_⟩) (Below.refl _ _) ?_
        rotate_left
        · intro w _; go_simp; with_reducible rfl
        try simp only [Act.put, List.getElem_toArray, List.getElem_cons_zero, List.getElem_cons_succ, List.setIfInBounds_toArray, List.set_cons_zero, List.set_cons_succ]
        refine wpAnyH_take (i := 10) (v := ?_) rfl (by kernel_rfl) (by kernel_rfl) (by kernel_rfl) (fun _ _ _ h => h) (Or.inl ⟨by rfl, ?_⟩) (Below.refl _ _) ?_
        rotate_left
        · intro w _; go_simp; with_reducible rfl
        try simp only [Act.put, List.getElem_toArray, List.getElem_cons_zero, List.getElem_cons_succ, List.setIfInBounds_toArray, List.set_cons_zero, List.set_cons_succ]
        refine wpAnyH_done (by kernel_rfl) ?_ _
        go_wp2_with fail
        go_ret
        exact ⟨rfl, HBD.out⟩
      · obtain ⟨x, y, hr2, hlt2⟩ := Sha.two_of (a := xs) (b := ys) HRISE.out (fun x => (HMEM.out x).trans (mem_three x xs ys)) hxy
        subst hr2
        have hbq : (xs == ys) = false := by rw [beq_eq_false_iff_ne]; exact hxy
        rw [hbq] at heq0
        have HVx := Lib.hid (HOL.out x (by simp))
        have HVy := Lib.hid (HOL.out y (by simp))
        have HLT := Lib.hid hlt2
        clear hbq hxy hlt2
        rw [show ([x, y] : List (List Nat)).length = 2 from rfl]
        have hcc : 2 ≤ c := hc
        go_wp2_with (first | (refine wpList_row_w (by rfl) 27 (.tmp 2) rfl (w.heap.size) rfl 27 _ _ HXZ.out Tryd.underlying27 rfl (by rw [HLX.out]; exact oid_info) ?_) | (refine wpList_row_w (by rfl) 27 (.tmp 3) rfl (w.heap.size + 1) rfl 27 _ _ HYZ.out Tryd.underlying27 rfl (by rw [HLY.out]; exact oid_info) ?_))
        have x0 := fun w' => run_index_k (P := Tryd.prog) Tryd.underlying46 oid_info' b 0 2 c 0 (by omega) (ii := (0 : Int)) rfl w'
        have x1 := fun w' => run_index_k (P := Tryd.prog) Tryd.underlying46 oid_info' b 0 2 c 1 (by omega) (ii := (1 : Int)) rfl w'
        simp only [Nat.zero_add, Nat.mul_zero, Nat.mul_one] at x0 x1
        have HR0 : Hid (wz.drew.rangeAt b 0 (cellsN x)) := Lib.hid (by have h := HROW.out 0 (by simp); exact h)
        have HR1 : Hid (wz.drew.rangeAt b 32 (cellsN y)) := Lib.hid (by have h := HROW.out 1 (by simp); exact h)
        have HBL2 : Hid (b < wz.drew.heap.size) := Lib.hid (HBL.out (by simp))
        have HBD := Lib.hid (below_drewN HBZ.out 1)
        refine wp_region_held (S := (fun w' => Below wz.drew.heap.size wz.drew w')) (by kernel_rfl) ?_
        change wpAnyH _ _ _ _ _ _ _ _ wz.drew
        refine wpAnyH_take (i := 0) (v := ?_) rfl (by kernel_rfl) (by kernel_rfl) (by kernel_rfl) (fun _ _ _ h => h) (Or.inl ⟨by rfl, ?_⟩) (Below.refl _ _) ?_
        rotate_left
        · intro w _; go_simp; with_reducible rfl
        try simp only [Act.put, List.getElem_toArray, List.getElem_cons_zero, List.getElem_cons_succ, List.setIfInBounds_toArray, List.set_cons_zero, List.set_cons_succ]
        refine wpAnyH_take (i := 1) (v := ?_) rfl (by kernel_rfl) (by kernel_rfl) (by kernel_rfl) (fun _ _ _ h => h) (Or.inl ⟨by rfl, ?_⟩) (Below.refl _ _) ?_
        rotate_left
        · intro w _; go_simp; with_reducible rfl
        try simp only [Act.put, List.getElem_toArray, List.getElem_cons_zero, List.getElem_cons_succ, List.setIfInBounds_toArray, List.set_cons_zero, List.set_cons_succ]
        refine wpAnyH_take (i := 2) (v := ?_) rfl (by kernel_rfl) (by kernel_rfl) (by kernel_rfl) (fun _ _ _ h => h) (Or.inl ⟨by rfl, ?_⟩) (Below.refl _ _) ?_
        rotate_left
        · intro w _; go_simp; with_reducible rfl
        try simp only [Act.put, List.getElem_toArray, List.getElem_cons_zero, List.getElem_cons_succ, List.setIfInBounds_toArray, List.set_cons_zero, List.set_cons_succ]
        refine wpAnyH_take (i := 3) (v := ?_) rfl (by kernel_rfl) (by kernel_rfl) (by kernel_rfl) (fun _ _ _ h => h) (Or.inl ⟨by rfl, ?_⟩) (Below.refl _ _) ?_
        rotate_left
        · intro w _; go_simp; with_reducible rfl
        try simp only [Act.put, List.getElem_toArray, List.getElem_cons_zero, List.getElem_cons_succ, List.setIfInBounds_toArray, List.set_cons_zero, List.set_cons_succ]
        refine wpAnyH_take (i := 4) (v := ?_) rfl (by kernel_rfl) (by kernel_rfl) (by kernel_rfl) (fun _ _ _ h => h) (Or.inl ⟨by rfl, ?_⟩) (Below.refl _ _) ?_
        rotate_left
        · intro w _; go_simp; with_reducible rfl
        try simp only [Act.put, List.getElem_toArray, List.getElem_cons_zero, List.getElem_cons_succ, List.setIfInBounds_toArray, List.set_cons_zero, List.set_cons_succ]
        refine wpAnyH_take (i := 5) (v := ?_) rfl (by kernel_rfl) (by kernel_rfl) (by kernel_rfl) (fun _ _ _ h => h) (Or.inl ⟨by rfl, ?_⟩) (Below.refl _ _) ?_
        rotate_left
        · intro w _; go_simp; with_reducible rfl
        try simp only [Act.put, List.getElem_toArray, List.getElem_cons_zero, List.getElem_cons_succ, List.setIfInBounds_toArray, List.set_cons_zero, List.set_cons_succ]
        refine wpAnyH_take (i := 6) rfl (by kernel_rfl) (by kernel_rfl) (by kernel_rfl) (fun _ _ _ h => h) (yieldsIf_load_mid (by rfl) 27 _ rfl b _ rfl (cellsN x) _ (fun w4 h => range_below HR0.out h HBL2.out) Tryd.underlying27 rfl (by rw [cellsN_len, HVx.out.1]; exact oid_info')) (Below.refl _ _) ?_
        try simp only [Act.put, List.getElem_toArray, List.getElem_cons_zero, List.getElem_cons_succ, List.setIfInBounds_toArray, List.set_cons_zero, List.set_cons_succ]
        rw [cellsN_arr]
        refine wpAnyH_take (i := 7) (v := ?_) rfl (by kernel_rfl) (by kernel_rfl) (by kernel_rfl) (fun _ _ _ h => h) (Or.inl ⟨by rfl, ?_⟩) (Below.refl _ _) ?_
        rotate_left
        · intro w _; go_simp; with_reducible rfl
        try simp only [Act.put, List.getElem_toArray, List.getElem_cons_zero, List.getElem_cons_succ, List.setIfInBounds_toArray, List.set_cons_zero, List.set_cons_succ]
        refine wpAnyH_take (i := 8) (v := ?_) rfl (by kernel_rfl) (by kernel_rfl) (by kernel_rfl) (fun _ _ _ h => h) (Or.inl ⟨by rfl, ?_⟩) (Below.refl _ _) ?_
        rotate_left
        · intro w _; go_simp; with_reducible rfl
        try simp only [Act.put, List.getElem_toArray, List.getElem_cons_zero, List.getElem_cons_succ, List.setIfInBounds_toArray, List.set_cons_zero, List.set_cons_succ]
        refine wpAnyH_take (i := 9) rfl (by kernel_rfl) (by kernel_rfl) (by kernel_rfl) (fun _ _ _ h => h) (yieldsIf_load_mid (by rfl) 27 _ rfl b _ rfl (cellsN y) _ (fun w4 h => range_below HR1.out h HBL2.out) Tryd.underlying27 rfl (by rw [cellsN_len, HVy.out.1]; exact oid_info')) (Below.refl _ _) ?_
        try simp only [Act.put, List.getElem_toArray, List.getElem_cons_zero, List.getElem_cons_succ, List.setIfInBounds_toArray, List.set_cons_zero, List.set_cons_succ]
        rw [cellsN_arr]
        refine all_one (i := 10) (by kernel_rfl) rfl (by rfl) (fun K hK => ?_)
        go_simp
        refine (rless_q true x y _ HVx.out.1 HVy.out.1 HVx.out.2 HVy.out.2 (decide_eq_true HLT.out)).mono ?_
        rintro e wt ⟨rfl, hbt⟩
        dsimp only
        refine hK _ _ (hbt) ?_; clear hK K
        try simp only [Act.put, List.getElem_toArray, List.getElem_cons_zero, List.getElem_cons_succ, List.setIfInBounds_toArray, List.set_cons_zero, List.set_cons_succ]
        have HBT := Lib.hid hbt
        clear hbt
        refine wpAnyH_take (i := 11) (v := ?_) rfl (by kernel_rfl) (by kernel_rfl) (by kernel_rfl) (fun _ _ _ h => h) (Or.inl ⟨by rfl, ?_⟩) (HBT.out) ?_
        rotate_left
        · intro w _; go_simp; with_reducible rfl
        try simp only [Act.put, List.getElem_toArray, List.getElem_cons_zero, List.getElem_cons_succ, List.setIfInBounds_toArray, List.set_cons_zero, List.set_cons_succ]
        refine wpAnyH_take (i := 12) (v := ?_) rfl (by kernel_rfl) (by kernel_rfl) (by kernel_rfl) (fun _ _ _ h => h) (Or.inl ⟨by rfl, ?_⟩) (HBT.out) ?_
        rotate_left
        · intro w _; go_simp; with_reducible rfl
        try simp only [Act.put, List.getElem_toArray, List.getElem_cons_zero, List.getElem_cons_succ, List.setIfInBounds_toArray, List.set_cons_zero, List.set_cons_succ]
        refine wpAnyH_done (by kernel_rfl) ?_ _
        go_wp2_with fail
        go_ret
        exact ⟨rfl, HBD.out.trans (HBT.out.mono HBD.out.size)⟩
    · have hq2 : q' = false := by cases q' <;> first | rfl | exact absurd ⟨rfl, rfl⟩ H1.out
      subst hq2
      go_wp2_with (first | (refine wpList_row_w (by rfl) 27 (.tmp 2) rfl (w.heap.size) rfl 27 _ _ HX2.out Tryd.underlying27 rfl (by rw [HLX.out]; exact oid_info) ?_) | (refine wpList_row_w (by rfl) 27 (.tmp 3) rfl (w.heap.size + 1) rfl 27 _ _ HY2.out Tryd.underlying27 rfl (by rw [HLY.out]; exact oid_info) ?_))
      refine (less_q true xs ys w2 HHX.out HHY.out hb hb' HQ.out).mono ?_
      rintro e w3 ⟨rfl, hbk⟩
      have HX3 := Lib.hid (HX2.out.below hbk HX2.out.lt)
      have HY3 := Lib.hid (HY2.out.below hbk HY2.out.lt)
      have HB3 := Lib.hid (HB2.out.trans (hbk.mono HB2.out.size))
      clear hbk HX2 HY2 HB2
      go_wp2_with (first | (refine wpList_row_w (by rfl) 27 (.tmp 2) rfl (w.heap.size) rfl 27 _ _ HX3.out Tryd.underlying27 rfl (by rw [HLX.out]; exact oid_info) ?_) | (refine wpList_row_w (by rfl) 27 (.tmp 3) rfl (w.heap.size + 1) rfl 27 _ _ HY3.out Tryd.underlying27 rfl (by rw [HLY.out]; exact oid_info) ?_))
      refine (less_q true xs ys w3 HHX.out HHY.out hb hb' HQ.out).mono ?_
      rintro e w4 ⟨rfl, hbk⟩
      have HX4 := Lib.hid (HX3.out.below hbk HX3.out.lt)
      have HY4 := Lib.hid (HY3.out.below hbk HY3.out.lt)
      have HB4 := Lib.hid (HB3.out.trans (hbk.mono HB3.out.size))
      clear hbk HX3 HY3 HB3
      go_wp2_with (first | (refine wpList_row_w (by rfl) 27 (.tmp 2) rfl (w.heap.size) rfl 27 _ _ HX4.out Tryd.underlying27 rfl (by rw [HLX.out]; exact oid_info) ?_) | (refine wpList_row_w (by rfl) 27 (.tmp 3) rfl (w.heap.size + 1) rfl 27 _ _ HY4.out Tryd.underlying27 rfl (by rw [HLY.out]; exact oid_info) ?_))
      refine (less_q false ys xs w4 HHY.out HHX.out hb' hb HQ2.out).mono ?_
      rintro e w5 ⟨rfl, hbk⟩
      have HX5 := Lib.hid (HX4.out.below hbk HX4.out.lt)
      have HY5 := Lib.hid (HY4.out.below hbk HY4.out.lt)
      have HB5 := Lib.hid (HB4.out.trans (hbk.mono HB4.out.size))
      clear hbk HX4 HY4 HB4
      go_wp2_with fail
      have hmn : (((m : Nat) : Int) != ((n : Nat) : Int)) = false := by rw [HMN.out]; simp
      have HX6 := Lib.hid HX5.out.drew
      have HY6 := Lib.hid HY5.out.drew
      have HB6 := Lib.hid (below_drewN HB5.out 1)
      clear HX5 HY5 HB5
      refine wp_region_held (S := (fun w' => Below w5.drew.heap.size w5.drew w')) (by kernel_rfl) ?_
      change wpAnyH _ _ _ _ _ _ _ _ w5.drew
      refine wpAnyH_take (i := 0) rfl (by kernel_rfl) (by kernel_rfl) (by kernel_rfl) (fun _ _ _ h => h) (takes_row 27 (.tmp 2) rfl (by rfl) (w.heap.size) rfl 27 (u8s xs) _ (fun w4 h => HX6.out.below h HX6.out.lt) Tryd.underlying27 rfl (by rw [HLX.out]; exact oid_info)) (Below.refl _ _) ?_
      try simp only [Act.put, List.getElem_toArray, List.getElem_cons_zero, List.getElem_cons_succ, List.setIfInBounds_toArray, List.set_cons_zero, List.set_cons_succ]
      refine wpAnyH_take (i := 2) rfl (by kernel_rfl) (by kernel_rfl) (by kernel_rfl) (fun _ _ _ h => h) (takes_row 27 (.tmp 3) rfl (by rfl) (w.heap.size + 1) rfl 27 (u8s ys) _ (fun w4 h => HY6.out.below h HY6.out.lt) Tryd.underlying27 rfl (by rw [HLY.out]; exact oid_info)) (Below.refl _ _) ?_
      try simp only [Act.put, List.getElem_toArray, List.getElem_cons_zero, List.getElem_cons_succ, List.setIfInBounds_toArray, List.set_cons_zero, List.set_cons_succ]
      refine all_one (i := 1) (by kernel_rfl) rfl (by rfl) (fun K hK => ?_)
      go_simp
      refine (short_q xs m _ HHX.out hb HM.out).mono ?_
      rintro e wa ⟨rfl, hba⟩
      dsimp only
      refine hK _ _ (hba) ?_; clear hK K
      try simp only [Act.put, List.getElem_toArray, List.getElem_cons_zero, List.getElem_cons_succ, List.setIfInBounds_toArray, List.set_cons_zero, List.set_cons_succ]
      refine all_one (i := 3) (by kernel_rfl) rfl (by rfl) (fun K hK => ?_)
      go_simp
      refine (short_q ys n _ HHY.out hb' HN.out).mono ?_
      rintro e wb ⟨rfl, hbb⟩
      have hbb := hba.trans (hbb.mono hba.size)
      dsimp only
      refine hK _ _ (hbb) ?_; clear hK K
      try simp only [Act.put, List.getElem_toArray, List.getElem_cons_zero, List.getElem_cons_succ, List.setIfInBounds_toArray, List.set_cons_zero, List.set_cons_succ]
      have HBB := Lib.hid hbb
      clear hba hbb
      refine wpAnyH_take (i := 4) (v := ?_) rfl (by kernel_rfl) (by kernel_rfl) (by kernel_rfl) (fun _ _ _ h => h) (Or.inl ⟨by rfl, ?_⟩) (HBB.out) ?_
      rotate_left
      · intro w _; go_simp; with_reducible rfl
      try simp only [Act.put, List.getElem_toArray, List.getElem_cons_zero, List.getElem_cons_succ, List.setIfInBounds_toArray, List.set_cons_zero, List.set_cons_succ]
      refine wpAnyH_take (i := 5) (v := ?_) rfl (by kernel_rfl) (by kernel_rfl) (by kernel_rfl) (fun _ _ _ h => h) (Or.inl ⟨by rfl, ?_⟩) (HBB.out) ?_
      rotate_left
      · intro w _; go_simp; with_reducible rfl
      try simp only [Act.put, List.getElem_toArray, List.getElem_cons_zero, List.getElem_cons_succ, List.setIfInBounds_toArray, List.set_cons_zero, List.set_cons_succ]
      refine wpAnyH_take (i := 6) (v := undef) rfl (by kernel_rfl) (by kernel_rfl) (by kernel_rfl) (fun _ _ _ h => h) (Or.inr ⟨by rfl, rfl⟩) (HBB.out) ?_
      try simp only [Act.put, List.getElem_toArray, List.getElem_cons_zero, List.getElem_cons_succ, List.setIfInBounds_toArray, List.set_cons_zero, List.set_cons_succ]
      refine wpAnyH_take (i := 7) (v := undef) rfl (by kernel_rfl) (by kernel_rfl) (by kernel_rfl) (fun _ _ _ h => h) (Or.inr ⟨by rfl, rfl⟩) (HBB.out) ?_
      try simp only [Act.put, List.getElem_toArray, List.getElem_cons_zero, List.getElem_cons_succ, List.setIfInBounds_toArray, List.set_cons_zero, List.set_cons_succ]
      refine wpAnyH_take (i := 8) (v := undef) rfl (by kernel_rfl) (by kernel_rfl) (by kernel_rfl) (fun _ _ _ h => h) (Or.inr ⟨by rfl, rfl⟩) (HBB.out) ?_
      try simp only [Act.put, List.getElem_toArray, List.getElem_cons_zero, List.getElem_cons_succ, List.setIfInBounds_toArray, List.set_cons_zero, List.set_cons_succ]
      refine wpAnyH_take (i := 9) (v := undef) rfl (by kernel_rfl) (by kernel_rfl) (by kernel_rfl) (fun _ _ _ h => h) (Or.inr ⟨by rfl, rfl⟩) (HBB.out) ?_
      try simp only [Act.put, List.getElem_toArray, List.getElem_cons_zero, List.getElem_cons_succ, List.setIfInBounds_toArray, List.set_cons_zero, List.set_cons_succ]
      refine wpAnyH_take (i := 10) (v := undef) rfl (by kernel_rfl) (by kernel_rfl) (by kernel_rfl) (fun _ _ _ h => h) (Or.inr ⟨by rfl, rfl⟩) (HBB.out) ?_
      try simp only [Act.put, List.getElem_toArray, List.getElem_cons_zero, List.getElem_cons_succ, List.setIfInBounds_toArray, List.set_cons_zero, List.set_cons_succ]
      refine wpAnyH_take (i := 11) (v := undef) rfl (by kernel_rfl) (by kernel_rfl) (by kernel_rfl) (fun _ _ _ h => h) (Or.inr ⟨by rfl, rfl⟩) (HBB.out) ?_
      try simp only [Act.put, List.getElem_toArray, List.getElem_cons_zero, List.getElem_cons_succ, List.setIfInBounds_toArray, List.set_cons_zero, List.set_cons_succ]
      refine wpAnyH_take (i := 12) (v := undef) rfl (by kernel_rfl) (by kernel_rfl) (by kernel_rfl) (fun _ _ _ h => h) (Or.inr ⟨by rfl, rfl⟩) (HBB.out) ?_
      try simp only [Act.put, List.getElem_toArray, List.getElem_cons_zero, List.getElem_cons_succ, List.setIfInBounds_toArray, List.set_cons_zero, List.set_cons_succ]
      refine wpAnyH_take (i := 13) (v := undef) rfl (by kernel_rfl) (by kernel_rfl) (by kernel_rfl) (fun _ _ _ h => h) (Or.inr ⟨by rfl, rfl⟩) (HBB.out) ?_
      try simp only [Act.put, List.getElem_toArray, List.getElem_cons_zero, List.getElem_cons_succ, List.setIfInBounds_toArray, List.set_cons_zero, List.set_cons_succ]
      refine wpAnyH_take (i := 14) (v := undef) rfl (by kernel_rfl) (by kernel_rfl) (by kernel_rfl) (fun _ _ _ h => h) (Or.inr ⟨by rfl, rfl⟩) (HBB.out) ?_
      try simp only [Act.put, List.getElem_toArray, List.getElem_cons_zero, List.getElem_cons_succ, List.setIfInBounds_toArray, List.set_cons_zero, List.set_cons_succ]
      refine wpAnyH_take (i := 15) (v := ?_) rfl (by kernel_rfl) (by kernel_rfl) (by kernel_rfl) (fun _ _ _ h => h) (Or.inl ⟨by rfl, ?_⟩) (HBB.out) ?_
      rotate_left
      · intro w _; go_simp; with_reducible rfl
      try simp only [Act.put, List.getElem_toArray, List.getElem_cons_zero, List.getElem_cons_succ, List.setIfInBounds_toArray, List.set_cons_zero, List.set_cons_succ]
      refine wpAnyH_done (by kernel_rfl) ?_ _
      have HX7 := Lib.hid (HX6.out.below HBB.out HX6.out.lt)
      have HY7 := Lib.hid (HY6.out.below HBB.out HY6.out.lt)
      have HB7 := Lib.hid (HB6.out.trans (HBB.out.mono HB6.out.size))
      clear HX6 HY6 HB6
      clear hmn
      go_wp2_with (first | (refine wpList_row_w (by rfl) 27 (.tmp 2) rfl (w.heap.size) rfl 27 _ _ HX7.out Tryd.underlying27 rfl (by rw [HLX.out]; exact oid_info) ?_) | (refine wpList_row_w (by rfl) 27 (.tmp 3) rfl (w.heap.size + 1) rfl 27 _ _ HY7.out Tryd.underlying27 rfl (by rw [HLY.out]; exact oid_info) ?_) | (refine wpList_build3 rfl _ _ _ rfl ys xs ys rfl rfl rfl HHY.out HHX.out HHY.out ?_))
      have HR3 := Lib.hid (rd_three (w := wb) xs ys ⟨HHX.out, hb⟩ ⟨HHY.out, hb'⟩)
      have HXS : Hid (Blk (wb.alloc (.cells (u8s (flat3 ys xs ys)) 27)) w.heap.size 27 (u8s xs)) := Lib.hid (HX7.out.alloc _)
      have HYS : Hid (Blk (wb.alloc (.cells (u8s (flat3 ys xs ys)) 27)) (w.heap.size + 1) 27 (u8s ys)) := Lib.hid (HY7.out.alloc _)
      have HBS : Hid (Below w.heap.size w (wb.alloc (.cells (u8s (flat3 ys xs ys)) 27))) := Lib.hid (HB7.out.alloc HB7.out.size _)
      clear HX7 HY7 HB7
      refine (sort_any _ [ys, xs, ys] _ HR3.out.2 HR3.out.1 (by show 3 < 1073741824; omega)).mono ?_
      rintro e wz ⟨r, ⟨b, c, rfl, hc, hbl, hrow⟩, hol, hmem, hrise, hbs⟩
      have HXZ := Lib.hid (HXS.out.below hbs HXS.out.lt)
      have HYZ := Lib.hid (HYS.out.below hbs HYS.out.lt)
      have HBZ := Lib.hid (HBS.out.trans (hbs.mono HBS.out.size))
      have HROW := Lib.hid hrow
      have HMEM := Lib.hid hmem
      have HRISE := Lib.hid hrise
      have HOL := Lib.hid hol
      have HBL := Lib.hid hbl
      clear hbs HXS HYS HBS HR3 hrow hmem hrise hol hbl
      have heq0 := eq_oid xs ys ⟨HHX.out, hb⟩ ⟨HHY.out, hb'⟩
      by_cases hxy : xs = ys
      · have hr1 : r = [xs] := Sha.one_of HRISE.out (fun x => by rw [HMEM.out x, ← hxy]; simp)
        subst hr1
        have hbq : (xs == ys) = true := by rw [hxy]; exact beq_self_eq_true _
        rw [hbq] at heq0
        have HXY := Lib.hid hxy
        clear hbq hxy
        rw [show ([xs] : List (List Nat)).length = 1 from rfl]
        have hcc : 1 ≤ c := hc
        go_wp2_with (first | (refine wpList_row_w (by rfl) 27 (.tmp 2) rfl (w.heap.size) rfl 27 _ _ HXZ.out Tryd.underlying27 rfl (by rw [HLX.out]; exact oid_info) ?_) | (refine wpList_row_w (by rfl) 27 (.tmp 3) rfl (w.heap.size + 1) rfl 27 _ _ HYZ.out Tryd.underlying27 rfl (by rw [HLY.out]; exact oid_info) ?_))
        have heq1 := eq_oid xs xs ⟨HHX.out, hb⟩ ⟨HHX.out, hb⟩
        rw [beq_self_eq_true] at heq1
        have x0 := fun w' => run_index_k (P := Tryd.prog) Tryd.underlying46 oid_info' b 0 1 c 0 (by omega) (ii := (0 : Int)) rfl w'
        simp only [Nat.zero_add, Nat.mul_zero] at x0
        have HR0 : Hid (wz.drew.rangeAt b 0 (cellsN xs)) := Lib.hid (by have h := HROW.out 0 (by simp); exact h)
        have HBL2 : Hid (b < wz.drew.heap.size) := Lib.hid (HBL.out (by simp))
        have HXD := Lib.hid HXZ.out.drew
        have HBD := Lib.hid (below_drewN HBZ.out 1)
        refine wp_region_held (S := (fun w' => Below wz.drew.heap.size wz.drew w')) (by kernel_rfl) ?_
        change wpAnyH _ _ _ _ _ _ _ _ wz.drew
        refine wpAnyH_take (i := 0) (v := ?_) rfl (by kernel_rfl) (by kernel_rfl) (by kernel_rfl) (fun _ _ _ h => h) (Or.inl ⟨by rfl, ?_⟩) (Below.refl _ _) ?_
        rotate_left
        · intro w _; go_simp; with_reducible rfl
        try simp only [Act.put, List.getElem_toArray, List.getElem_cons_zero, List.getElem_cons_succ, List.setIfInBounds_toArray, List.set_cons_zero, List.set_cons_succ]
        refine wpAnyH_take (i := 1) (v := ?_) rfl (by kernel_rfl) (by kernel_rfl) (by kernel_rfl) (fun _ _ _ h => h) (Or.inl ⟨by rfl, ?_⟩) (Below.refl _ _) ?_
        rotate_left
        · intro w _; go_simp; with_reducible rfl
        try simp only [Act.put, List.getElem_toArray, List.getElem_cons_zero, List.getElem_cons_succ, List.setIfInBounds_toArray, List.set_cons_zero, List.set_cons_succ]
        refine wpAnyH_take (i := 2) (v := ?_) rfl (by kernel_rfl) (by kernel_rfl) (by kernel_rfl) (fun _ _ _ h => h) (Or.inl ⟨by rfl, ?_⟩) (Below.refl _ _) ?_
        rotate_left
        · intro w _; go_simp; with_reducible rfl
        try simp only [Act.put, List.getElem_toArray, List.getElem_cons_zero, List.getElem_cons_succ, List.setIfInBounds_toArray, List.set_cons_zero, List.set_cons_succ]
        refine wpAnyH_take (i := 3) (v := ?_) rfl (by kernel_rfl) (by kernel_rfl) (by kernel_rfl) (fun _ _ _ h => h) (Or.inl ⟨by rfl, ?_⟩) (Below.refl _ _) ?_
        rotate_left
        · intro w _; go_simp; with_reducible rfl
        try simp only [Act.put, List.getElem_toArray, List.getElem_cons_zero, List.getElem_cons_succ, List.setIfInBounds_toArray, List.set_cons_zero, List.set_cons_succ]
        refine wpAnyH_take (i := 4) (v := ?_) rfl (by kernel_rfl) (by kernel_rfl) (by kernel_rfl) (fun _ _ _ h => h) (Or.inl ⟨by rfl, ?_⟩) (Below.refl _ _) ?_
        rotate_left
        · intro w _; go_simp; with_reducible rfl
        try simp only [Act.put, List.getElem_toArray, List.getElem_cons_zero, List.getElem_cons_succ, List.setIfInBounds_toArray, List.set_cons_zero, List.set_cons_succ]
        refine wpAnyH_take (i := 5) (v := ?_) rfl (by kernel_rfl) (by kernel_rfl) (by kernel_rfl) (fun _ _ _ h => h) (Or.inl ⟨by rfl, ?_⟩) (Below.refl _ _) ?_
        rotate_left
        · intro w _; go_simp; with_reducible rfl
        try simp only [Act.put, List.getElem_toArray, List.getElem_cons_zero, List.getElem_cons_succ, List.setIfInBounds_toArray, List.set_cons_zero, List.set_cons_succ]
        refine wpAnyH_take (i := 6) rfl (by kernel_rfl) (by kernel_rfl) (by kernel_rfl) (fun _ _ _ h => h) (yieldsIf_load_mid (by rfl) 27 _ rfl b _ rfl (cellsN xs) _ (fun w4 h => range_below HR0.out h HBL2.out) Tryd.underlying27 rfl (by rw [cellsN_len, HHX.out]; exact oid_info')) (Below.refl _ _) ?_
        try simp only [Act.put, List.getElem_toArray, List.getElem_cons_zero, List.getElem_cons_succ, List.setIfInBounds_toArray, List.set_cons_zero, List.set_cons_succ]
        rw [cellsN_arr]
        refine wpAnyH_take (i := 7) rfl (by kernel_rfl) (by kernel_rfl) (by kernel_rfl) (fun _ _ _ h => h) (takes_row 27 (.tmp 2) rfl (by rfl) (w.heap.size) rfl 27 (u8s xs) _ (fun w4 h => HXD.out.below h HXD.out.lt) Tryd.underlying27 rfl (by rw [HLX.out]; exact oid_info)) (Below.refl _ _) ?_
        try simp only [Act.put, List.getElem_toArray, List.getElem_cons_zero, List.getElem_cons_succ, List.setIfInBounds_toArray, List.set_cons_zero, List.set_cons_succ]
        refine wpAnyH_take (i := 8) (v := ?_) rfl (by kernel_rfl) (by kernel_rfl) (by kernel_rfl) (fun _ _ _ h => h) (Or.inl ⟨by rfl, ?_⟩) (Below.refl _ _) ?_
        rotate_left
        · intro w _; go_simp; with_reducible rfl
        try simp only [Act.put, List.getElem_toArray, List.getElem_cons_zero, List.getElem_cons_succ, List.setIfInBounds_toArray, List.set_cons_zero, List.set_cons_succ]
        refine wpAnyH_take (i := 9) (v := ?_) rfl (by kernel_rfl) (by kernel_rfl) (by kernel_rfl) (fun _ _ _ h => h) (Or.inl ⟨by rfl, ?_⟩) (Below.refl _ _) ?_
        rotate_left
        · intro w _; go_simp; with_reducible rfl
        try simp only [Act.put, List.getElem_toArray, List.getElem_cons_zero, List.getElem_cons_succ, List.setIfInBounds_toArray, List.set_cons_zero, List.set_cons_succ]
        refine wpAnyH_take (i := 10) (v := ?_) rfl (by kernel_rfl) (by kernel_rfl) (by kernel_rfl) (fun _ _ _ h => h) (Or.inl ⟨by rfl, ?_⟩) (Below.refl _ _) ?_
        rotate_left
        · intro w _; go_simp; with_reducible rfl
        try simp only [Act.put, List.getElem_toArray, List.getElem_cons_zero, List.getElem_cons_succ, List.setIfInBounds_toArray, List.set_cons_zero, List.set_cons_succ]
        refine wpAnyH_done (by kernel_rfl) ?_ _
        go_wp2_with fail
        go_ret
        exact ⟨rfl, HBD.out⟩
      · obtain ⟨x, y, hr2, hlt2⟩ := Sha.two_of (a := xs) (b := ys) HRISE.out (fun x => (HMEM.out x).trans (mem_three x xs ys)) hxy
        subst hr2
        have hbq : (xs == ys) = false := by rw [beq_eq_false_iff_ne]; exact hxy
        rw [hbq] at heq0
        have HVx := Lib.hid (HOL.out x (by simp))
        have HVy := Lib.hid (HOL.out y (by simp))
        have HLT := Lib.hid hlt2
        clear hbq hxy hlt2
        rw [show ([x, y] : List (List Nat)).length = 2 from rfl]
        have hcc : 2 ≤ c := hc
        go_wp2_with (first | (refine wpList_row_w (by rfl) 27 (.tmp 2) rfl (w.heap.size) rfl 27 _ _ HXZ.out Tryd.underlying27 rfl (by rw [HLX.out]; exact oid_info) ?_) | (refine wpList_row_w (by rfl) 27 (.tmp 3) rfl (w.heap.size + 1) rfl 27 _ _ HYZ.out Tryd.underlying27 rfl (by rw [HLY.out]; exact oid_info) ?_))
        have x0 := fun w' => run_index_k (P := Tryd.prog) Tryd.underlying46 oid_info' b 0 2 c 0 (by omega) (ii := (0 : Int)) rfl w'
        have x1 := fun w' => run_index_k (P := Tryd.prog) Tryd.underlying46 oid_info' b 0 2 c 1 (by omega) (ii := (1 : Int)) rfl w'
        simp only [Nat.zero_add, Nat.mul_zero, Nat.mul_one] at x0 x1
        have HR0 : Hid (wz.drew.rangeAt b 0 (cellsN x)) := Lib.hid (by have h := HROW.out 0 (by simp); exact h)
        have HR1 : Hid (wz.drew.rangeAt b 32 (cellsN y)) := Lib.hid (by have h := HROW.out 1 (by simp); exact h)
        have HBL2 : Hid (b < wz.drew.heap.size) := Lib.hid (HBL.out (by simp))
        have HBD := Lib.hid (below_drewN HBZ.out 1)
        refine wp_region_held (S := (fun w' => Below wz.drew.heap.size wz.drew w')) (by kernel_rfl) ?_
        change wpAnyH _ _ _ _ _ _ _ _ wz.drew
        refine wpAnyH_take (i := 0) (v := ?_) rfl (by kernel_rfl) (by kernel_rfl) (by kernel_rfl) (fun _ _ _ h => h) (Or.inl ⟨by rfl, ?_⟩) (Below.refl _ _) ?_
        rotate_left
        · intro w _; go_simp; with_reducible rfl
        try simp only [Act.put, List.getElem_toArray, List.getElem_cons_zero, List.getElem_cons_succ, List.setIfInBounds_toArray, List.set_cons_zero, List.set_cons_succ]
        refine wpAnyH_take (i := 1) (v := ?_) rfl (by kernel_rfl) (by kernel_rfl) (by kernel_rfl) (fun _ _ _ h => h) (Or.inl ⟨by rfl, ?_⟩) (Below.refl _ _) ?_
        rotate_left
        · intro w _; go_simp; with_reducible rfl
        try simp only [Act.put, List.getElem_toArray, List.getElem_cons_zero, List.getElem_cons_succ, List.setIfInBounds_toArray, List.set_cons_zero, List.set_cons_succ]
        refine wpAnyH_take (i := 2) (v := ?_) rfl (by kernel_rfl) (by kernel_rfl) (by kernel_rfl) (fun _ _ _ h => h) (Or.inl ⟨by rfl, ?_⟩) (Below.refl _ _) ?_
        rotate_left
        · intro w _; go_simp; with_reducible rfl
        try simp only [Act.put, List.getElem_toArray, List.getElem_cons_zero, List.getElem_cons_succ, List.setIfInBounds_toArray, List.set_cons_zero, List.set_cons_succ]
        refine wpAnyH_take (i := 3) (v := ?_) rfl (by kernel_rfl) (by kernel_rfl) (by kernel_rfl) (fun _ _ _ h => h) (Or.inl ⟨by rfl, ?_⟩) (Below.refl _ _) ?_
        rotate_left
        · intro w _; go_simp; with_reducible rfl
        try simp only [Act.put, List.getElem_toArray, List.getElem_cons_zero, List.getElem_cons_succ, List.setIfInBounds_toArray, List.set_cons_zero, List.set_cons_succ]
        refine wpAnyH_take (i := 4) (v := ?_) rfl (by kernel_rfl) (by kernel_rfl) (by kernel_rfl) (fun _ _ _ h => h) (Or.inl ⟨by rfl, ?_⟩) (Below.refl _ _) ?_
        rotate_left
        · intro w _; go_simp; with_reducible rfl
        try simp only [Act.put, List.getElem_toArray, List.getElem_cons_zero, List.getElem_cons_succ, List.setIfInBounds_toArray, List.set_cons_zero, List.set_cons_succ]
        refine wpAnyH_take (i := 5) (v := ?_) rfl (by kernel_rfl) (by kernel_rfl) (by kernel_rfl) (fun _ _ _ h => h) (Or.inl ⟨by rfl, ?_⟩) (Below.refl _ _) ?_
        rotate_left
        · intro w _; go_simp; with_reducible rfl
        try simp only [Act.put, List.getElem_toArray, List.getElem_cons_zero, List.getElem_cons_succ, List.setIfInBounds_toArray, List.set_cons_zero, List.set_cons_succ]
        refine wpAnyH_take (i := 6) rfl (by kernel_rfl) (by kernel_rfl) (by kernel_rfl) (fun _ _ _ h => h) (yieldsIf_load_mid (by rfl) 27 _ rfl b _ rfl (cellsN x) _ (fun w4 h => range_below HR0.out h HBL2.out) Tryd.underlying27 rfl (by rw [cellsN_len, HVx.out.1]; exact oid_info')) (Below.refl _ _) ?_
        try simp only [Act.put, List.getElem_toArray, List.getElem_cons_zero, List.getElem_cons_succ, List.setIfInBounds_toArray, List.set_cons_zero, List.set_cons_succ]
        rw [cellsN_arr]
        refine wpAnyH_take (i := 7) (v := ?_) rfl (by kernel_rfl) (by kernel_rfl) (by kernel_rfl) (fun _ _ _ h => h) (Or.inl ⟨by rfl, ?_⟩) (Below.refl _ _) ?_
        rotate_left
        · intro w _; go_simp; with_reducible rfl
        try simp only [Act.put, List.getElem_toArray, List.getElem_cons_zero, List.getElem_cons_succ, List.setIfInBounds_toArray, List.set_cons_zero, List.set_cons_succ]
        refine wpAnyH_take (i := 8) (v := ?_) rfl (by kernel_rfl) (by kernel_rfl) (by kernel_rfl) (fun _ _ _ h => h) (Or.inl ⟨by rfl, ?_⟩) (Below.refl _ _) ?_
        rotate_left
        · intro w _; go_simp; with_reducible rfl
        try simp only [Act.put, List.getElem_toArray, List.getElem_cons_zero, List.getElem_cons_succ, List.setIfInBounds_toArray, List.set_cons_zero, List.set_cons_succ]
        refine wpAnyH_take (i := 9) rfl (by kernel_rfl) (by kernel_rfl) (by kernel_rfl) (fun _ _ _ h => h) (yieldsIf_load_mid (by rfl) 27 _ rfl b _ rfl (cellsN y) _ (fun w4 h => range_below HR1.out h HBL2.out) Tryd.underlying27 rfl (by rw [cellsN_len, HVy.out.1]; exact oid_info')) (Below.refl _ _) ?_
        try simp only [Act.put, List.getElem_toArray, List.getElem_cons_zero, List.getElem_cons_succ, List.setIfInBounds_toArray, List.set_cons_zero, List.set_cons_succ]
        rw [cellsN_arr]
        refine all_one (i := 10) (by kernel_rfl) rfl (by rfl) (fun K hK => ?_)
        go_simp
        refine (rless_q true x y _ HVx.out.1 HVy.out.1 HVx.out.2 HVy.out.2 (decide_eq_true HLT.out)).mono ?_
        rintro e wt ⟨rfl, hbt⟩
        dsimp only
        refine hK _ _ (hbt) ?_; clear hK K
        try simp only [Act.put, List.getElem_toArray, List.getElem_cons_zero, List.getElem_cons_succ, List.setIfInBounds_toArray, List.set_cons_zero, List.set_cons_succ]
        have HBT := Lib.hid hbt
        clear hbt
        refine wpAnyH_take (i := 11) (v := ?_) rfl (by kernel_rfl) (by kernel_rfl) (by kernel_rfl) (fun _ _ _ h => h) (Or.inl ⟨by rfl, ?_⟩) (HBT.out) ?_
        rotate_left
        · intro w _; go_simp; with_reducible rfl
        try simp only [Act.put, List.getElem_toArray, List.getElem_cons_zero, List.getElem_cons_succ, List.setIfInBounds_toArray, List.set_cons_zero, List.set_cons_succ]
        refine wpAnyH_take (i := 12) (v := ?_) rfl (by kernel_rfl) (by kernel_rfl) (by kernel_rfl) (fun _ _ _ h => h) (Or.inl ⟨by rfl, ?_⟩) (HBT.out) ?_
        rotate_left
        · intro w _; go_simp; with_reducible rfl
        try simp only [Act.put, List.getElem_toArray, List.getElem_cons_zero, List.getElem_cons_succ, List.setIfInBounds_toArray, List.set_cons_zero, List.set_cons_succ]
        refine wpAnyH_done (by kernel_rfl) ?_ _
        go_wp2_with fail
        go_ret
        exact ⟨rfl, HBD.out.trans (HBT.out.mono HBD.out.size)⟩
  · have HMN := Lib.hid hmn0
    clear hmn0
    cases q
    · skip
      go_wp2_with (first | (refine wpList_row_w (by rfl) 27 (.tmp 2) rfl (w.heap.size) rfl 27 _ _ HX2.out Tryd.underlying27 rfl (by rw [HLX.out]; exact oid_info) ?_) | (refine wpList_row_w (by rfl) 27 (.tmp 3) rfl (w.heap.size + 1) rfl 27 _ _ HY2.out Tryd.underlying27 rfl (by rw [HLY.out]; exact oid_info) ?_))
      refine (less_q false xs ys w2 HHX.out HHY.out hb hb' HQ.out).mono ?_
      rintro e w3 ⟨rfl, hbk⟩
      have HX3 := Lib.hid (HX2.out.below hbk HX2.out.lt)
      have HY3 := Lib.hid (HY2.out.below hbk HY2.out.lt)
      have HB3 := Lib.hid (HB2.out.trans (hbk.mono HB2.out.size))
      clear hbk HX2 HY2 HB2
      go_wp2_with (first | (refine wpList_row_w (by rfl) 27 (.tmp 2) rfl (w.heap.size) rfl 27 _ _ HX3.out Tryd.underlying27 rfl (by rw [HLX.out]; exact oid_info) ?_) | (refine wpList_row_w (by rfl) 27 (.tmp 3) rfl (w.heap.size + 1) rfl 27 _ _ HY3.out Tryd.underlying27 rfl (by rw [HLY.out]; exact oid_info) ?_))
      refine (less_q false xs ys w3 HHX.out HHY.out hb hb' HQ.out).mono ?_
      rintro e w4 ⟨rfl, hbk⟩
      have HX4 := Lib.hid (HX3.out.below hbk HX3.out.lt)
      have HY4 := Lib.hid (HY3.out.below hbk HY3.out.lt)
      have HB4 := Lib.hid (HB3.out.trans (hbk.mono HB3.out.size))
      clear hbk HX3 HY3 HB3
      go_wp2_with fail
      have hmn : (((m : Nat) : Int) != ((n : Nat) : Int)) = true := by rw [bne_iff_ne]; have := HMN.out; omega
      have hlt : ¬ ((m : Nat) : Int) < ((n : Nat) : Int) := by have := H2.out HMN.out; simp at this; omega
      have HX5 := Lib.hid HX4.out.drew
      have HY5 := Lib.hid HY4.out.drew
      have HB5 := Lib.hid (below_drewN HB4.out 1)
      clear HX4 HY4 HB4
      refine wp_region_held (S := (fun w' => Below w4.drew.heap.size w4.drew w')) (by kernel_rfl) ?_
      change wpAnyH _ _ _ _ _ _ _ _ w4.drew
      refine wpAnyH_take (i := 0) rfl (by kernel_rfl) (by kernel_rfl) (by kernel_rfl) (fun _ _ _ h => h) (takes_row 27 (.tmp 2) rfl (by rfl) (w.heap.size) rfl 27 (u8s xs) _ (fun w4 h => HX5.out.below h HX5.out.lt) Tryd.underlying27 rfl (by rw [HLX.out]; exact oid_info)) (Below.refl _ _) ?_
      try simp only [Act.put, List.getElem_toArray, List.getElem_cons_zero, List.getElem_cons_succ, List.setIfInBounds_toArray, List.set_cons_zero, List.set_cons_succ]
      refine wpAnyH_take (i := 2) rfl (by kernel_rfl) (by kernel_rfl) (by kernel_rfl) (fun _ _ _ h => h) (takes_row 27 (.tmp 3) rfl (by rfl) (w.heap.size + 1) rfl 27 (u8s ys) _ (fun w4 h => HY5.out.below h HY5.out.lt) Tryd.underlying27 rfl (by rw [HLY.out]; exact oid_info)) (Below.refl _ _) ?_
      try simp only [Act.put, List.getElem_toArray, List.getElem_cons_zero, List.getElem_cons_succ, List.setIfInBounds_toArray, List.set_cons_zero, List.set_cons_succ]
      refine all_one (i := 1) (by kernel_rfl) rfl (by rfl) (fun K hK => ?_)
      go_simp
      refine (short_q xs m _ HHX.out hb HM.out).mono ?_
      rintro e wa ⟨rfl, hba⟩
      dsimp only
      refine hK _ _ (hba) ?_; clear hK K
      try simp only [Act.put, List.getElem_toArray, List.getElem_cons_zero, List.getElem_cons_succ, List.setIfInBounds_toArray, List.set_cons_zero, List.set_cons_succ]
      refine all_one (i := 3) (by kernel_rfl) rfl (by rfl) (fun K hK => ?_)
      go_simp
      refine (short_q ys n _ HHY.out hb' HN.out).mono ?_
      rintro e wb ⟨rfl, hbb⟩
      have hbb := hba.trans (hbb.mono hba.size)
      dsimp only
      refine hK _ _ (hbb) ?_; clear hK K
      try simp only [Act.put, List.getElem_toArray, List.getElem_cons_zero, List.getElem_cons_succ, List.setIfInBounds_toArray, List.set_cons_zero, List.set_cons_succ]
      have HBB := Lib.hid hbb
      clear hba hbb
      refine wpAnyH_take (i := 4) (v := ?_) rfl (by kernel_rfl) (by kernel_rfl) (by kernel_rfl) (fun _ _ _ h => h) (Or.inl ⟨by rfl, ?_⟩) (HBB.out) ?_
      rotate_left
      · intro w _; go_simp; with_reducible rfl
      try simp only [Act.put, List.getElem_toArray, List.getElem_cons_zero, List.getElem_cons_succ, List.setIfInBounds_toArray, List.set_cons_zero, List.set_cons_succ]
      refine wpAnyH_take (i := 5) (v := ?_) rfl (by kernel_rfl) (by kernel_rfl) (by kernel_rfl) (fun _ _ _ h => h) (Or.inl ⟨by rfl, ?_⟩) (HBB.out) ?_
      rotate_left
      · intro w _; go_simp; with_reducible rfl
      try simp only [Act.put, List.getElem_toArray, List.getElem_cons_zero, List.getElem_cons_succ, List.setIfInBounds_toArray, List.set_cons_zero, List.set_cons_succ]
      refine wpAnyH_take (i := 6) rfl (by kernel_rfl) (by kernel_rfl) (by kernel_rfl) (fun _ _ _ h => h) (takes_row 27 (.tmp 2) rfl (by rfl) (w.heap.size) rfl 27 (u8s xs) _ (fun w4 h => HX5.out.below h HX5.out.lt) Tryd.underlying27 rfl (by rw [HLX.out]; exact oid_info)) (HBB.out) ?_
      try simp only [Act.put, List.getElem_toArray, List.getElem_cons_zero, List.getElem_cons_succ, List.setIfInBounds_toArray, List.set_cons_zero, List.set_cons_succ]
      refine wpAnyH_take (i := 7) rfl (by kernel_rfl) (by kernel_rfl) (by kernel_rfl) (fun _ _ _ h => h) (takes_row 27 (.tmp 3) rfl (by rfl) (w.heap.size + 1) rfl 27 (u8s ys) _ (fun w4 h => HY5.out.below h HY5.out.lt) Tryd.underlying27 rfl (by rw [HLY.out]; exact oid_info)) (HBB.out) ?_
      try simp only [Act.put, List.getElem_toArray, List.getElem_cons_zero, List.getElem_cons_succ, List.setIfInBounds_toArray, List.set_cons_zero, List.set_cons_succ]
      refine wpAnyH_take (i := 9) rfl (by kernel_rfl) (by kernel_rfl) (by kernel_rfl) (fun _ _ _ h => h) (takes_row 27 (.tmp 2) rfl (by rfl) (w.heap.size) rfl 27 (u8s xs) _ (fun w4 h => HX5.out.below h HX5.out.lt) Tryd.underlying27 rfl (by rw [HLX.out]; exact oid_info)) (HBB.out) ?_
      try simp only [Act.put, List.getElem_toArray, List.getElem_cons_zero, List.getElem_cons_succ, List.setIfInBounds_toArray, List.set_cons_zero, List.set_cons_succ]
      refine wpAnyH_take (i := 11) rfl (by kernel_rfl) (by kernel_rfl) (by kernel_rfl) (fun _ _ _ h => h) (takes_row 27 (.tmp 3) rfl (by rfl) (w.heap.size + 1) rfl 27 (u8s ys) _ (fun w4 h => HY5.out.below h HY5.out.lt) Tryd.underlying27 rfl (by rw [HLY.out]; exact oid_info)) (HBB.out) ?_
      try simp only [Act.put, List.getElem_toArray, List.getElem_cons_zero, List.getElem_cons_succ, List.setIfInBounds_toArray, List.set_cons_zero, List.set_cons_succ]
      refine all_one (i := 8) (by kernel_rfl) rfl (by rfl) (fun K hK => ?_)
      go_simp
      refine (less_q false xs ys _ HHX.out HHY.out hb hb' HQ.out).mono ?_
      rintro e wc ⟨rfl, hbc⟩
      have hbc := HBB.out.trans (hbc.mono HBB.out.size)
      dsimp only
      refine hK _ _ (hbc) ?_; clear hK K
      try simp only [Act.put, List.getElem_toArray, List.getElem_cons_zero, List.getElem_cons_succ, List.setIfInBounds_toArray, List.set_cons_zero, List.set_cons_succ]
      refine all_one (i := 10) (by kernel_rfl) rfl (by rfl) (fun K hK => ?_)
      go_simp
      refine (short_q xs m _ HHX.out hb HM.out).mono ?_
      rintro e wd ⟨rfl, hbd⟩
      have hbd := hbc.trans (hbd.mono hbc.size)
      dsimp only
      refine hK _ _ (hbd) ?_; clear hK K
      try simp only [Act.put, List.getElem_toArray, List.getElem_cons_zero, List.getElem_cons_succ, List.setIfInBounds_toArray, List.set_cons_zero, List.set_cons_succ]
      refine all_one (i := 12) (by kernel_rfl) rfl (by rfl) (fun K hK => ?_)
      go_simp
      refine (short_q ys n _ HHY.out hb' HN.out).mono ?_
      rintro e we ⟨rfl, hbe⟩
      have hbe := hbd.trans (hbe.mono hbd.size)
      dsimp only
      refine hK _ _ (hbe) ?_; clear hK K
      try simp only [Act.put, List.getElem_toArray, List.getElem_cons_zero, List.getElem_cons_succ, List.setIfInBounds_toArray, List.set_cons_zero, List.set_cons_succ]
      have HBE := Lib.hid hbe
      clear hbc hbd hbe
      refine wpAnyH_take (i := 13) (v := ?_) rfl (by kernel_rfl) (by kernel_rfl) (by kernel_rfl) (fun _ _ _ h => h) (Or.inl ⟨by rfl, ?_⟩) (HBE.out) ?_
      rotate_left
      · intro w _; go_simp; with_reducible rfl
      try simp only [Act.put, List.getElem_toArray, List.getElem_cons_zero, List.getElem_cons_succ, List.setIfInBounds_toArray, List.set_cons_zero, List.set_cons_succ]
      refine wpAnyH_take (i := 14) (v := ?_) rfl (by kernel_rfl) (by kernel_rfl) (by kernel_rfl) (fun _ _ _ h => h) (Or.inl ⟨by rfl, ?_⟩) (HBE.out) ?_
      rotate_left
      · intro w _; go_simp; with_reducible rfl
      try simp only [Act.put, List.getElem_toArray, List.getElem_cons_zero, List.getElem_cons_succ, List.setIfInBounds_toArray, List.set_cons_zero, List.set_cons_succ]
      refine wpAnyH_take (i := 15) (v := ?_) rfl (by kernel_rfl) (by kernel_rfl) (by kernel_rfl) (fun _ _ _ h => h) (Or.inl ⟨by rfl, ?_⟩) (HBE.out) ?_
      rotate_left
      · intro w _; go_simp; with_reducible rfl
      try simp only [Act.put, List.getElem_toArray, List.getElem_cons_zero, List.getElem_cons_succ, List.setIfInBounds_toArray, List.set_cons_zero, List.set_cons_succ]
      refine wpAnyH_done (by kernel_rfl) ?_ _
      have HX6 := Lib.hid (HX5.out.below HBE.out HX5.out.lt)
      have HY6 := Lib.hid (HY5.out.below HBE.out HY5.out.lt)
      have HB6 := Lib.hid (HB5.out.trans (HBE.out.mono HB5.out.size))
      clear HX5 HY5 HB5
      clear hmn hlt
      go_wp2_with (first | (refine wpList_row_w (by rfl) 27 (.tmp 2) rfl (w.heap.size) rfl 27 _ _ HX6.out Tryd.underlying27 rfl (by rw [HLX.out]; exact oid_info) ?_) | (refine wpList_row_w (by rfl) 27 (.tmp 3) rfl (w.heap.size + 1) rfl 27 _ _ HY6.out Tryd.underlying27 rfl (by rw [HLY.out]; exact oid_info) ?_) | (refine wpList_build3 rfl _ _ _ rfl ys xs ys rfl rfl rfl HHY.out HHX.out HHY.out ?_))
      have HR3 := Lib.hid (rd_three (w := we) xs ys ⟨HHX.out, hb⟩ ⟨HHY.out, hb'⟩)
      have HXS : Hid (Blk (we.alloc (.cells (u8s (flat3 ys xs ys)) 27)) w.heap.size 27 (u8s xs)) := Lib.hid (HX6.out.alloc _)
      have HYS : Hid (Blk (we.alloc (.cells (u8s (flat3 ys xs ys)) 27)) (w.heap.size + 1) 27 (u8s ys)) := Lib.hid (HY6.out.alloc _)
      have HBS : Hid (Below w.heap.size w (we.alloc (.cells (u8s (flat3 ys xs ys)) 27))) := Lib.hid (HB6.out.alloc HB6.out.size _)
      clear HX6 HY6 HB6
      refine (sort_any _ [ys, xs, ys] _ HR3.out.2 HR3.out.1 (by show 3 < 1073741824; omega)).mono ?_
      rintro e wz ⟨r, ⟨b, c, rfl, hc, hbl, hrow⟩, hol, hmem, hrise, hbs⟩
      have HXZ := Lib.hid (HXS.out.below hbs HXS.out.lt)
      have HYZ := Lib.hid (HYS.out.below hbs HYS.out.lt)
      have HBZ := Lib.hid (HBS.out.trans (hbs.mono HBS.out.size))
      have HROW := Lib.hid hrow
      have HMEM := Lib.hid hmem
      have HRISE := Lib.hid hrise
      have HOL := Lib.hid hol
      have HBL := Lib.hid hbl
      clear hbs HXS HYS HBS HR3 hrow hmem hrise hol hbl
      have heq0 := eq_oid xs ys ⟨HHX.out, hb⟩ ⟨HHY.out, hb'⟩
      by_cases hxy : xs = ys
      · have hr1 : r = [xs] := Sha.one_of HRISE.out (fun x => by rw [HMEM.out x, ← hxy]; simp)
        subst hr1
        have hbq : (xs == ys) = true := by rw [hxy]; exact beq_self_eq_true _
        rw [hbq] at heq0
        have HXY := Lib.hid hxy
        clear hbq hxy
        rw [show ([xs] : List (List Nat)).length = 1 from rfl]
        have hcc : 1 ≤ c := hc
        go_wp2_with (first | (refine wpList_row_w (by rfl) 27 (.tmp 2) rfl (w.heap.size) rfl 27 _ _ HXZ.out Tryd.underlying27 rfl (by rw [HLX.out]; exact oid_info) ?_) | (refine wpList_row_w (by rfl) 27 (.tmp 3) rfl (w.heap.size + 1) rfl 27 _ _ HYZ.out Tryd.underlying27 rfl (by rw [HLY.out]; exact oid_info) ?_))
        have heq1 := eq_oid xs xs ⟨HHX.out, hb⟩ ⟨HHX.out, hb⟩
        rw [beq_self_eq_true] at heq1
        have x0 := fun w' => run_index_k (P := Tryd.prog) Tryd.underlying46 oid_info' b 0 1 c 0 (by omega) (ii := (0 : Int)) rfl w'
        simp only [Nat.zero_add, Nat.mul_zero] at x0
        have HR0 : Hid (wz.drew.rangeAt b 0 (cellsN xs)) := Lib.hid (by have h := HROW.out 0 (by simp); exact h)
        have HBL2 : Hid (b < wz.drew.heap.size) := Lib.hid (HBL.out (by simp))
        have HXD := Lib.hid HXZ.out.drew
        have HBD := Lib.hid (below_drewN HBZ.out 1)
        refine wp_region_held (S := (fun w' => Below wz.drew.heap.size wz.drew w')) (by kernel_rfl) ?_
        change wpAnyH _ _ _ _ _ _ _ _ wz.drew
        refine wpAnyH_take (i := 0) (v := ?_) rfl (by kernel_rfl) (by kernel_rfl) (by kernel_rfl) (fun _ _ _ h => h) (Or.inl ⟨by rfl, ?_⟩) (Below.refl _ _) ?_
        rotate_left
        · intro w _; go_simp; with_reducible rfl
        try simp only [Act.put, List.getElem_toArray, List.getElem_cons_zero, List.getElem_cons_succ, List.setIfInBounds_toArray, List.set_cons_zero, List.set_cons_succ]
        refine wpAnyH_take (i := 1) (v := ?_) rfl (by kernel_rfl) (by kernel_rfl) (by kernel_rfl) (fun _ _ _ h => h) (Or.inl ⟨by rfl, ?_⟩) (Below.refl _ _) ?_
        rotate_left
        · intro w _; go_simp; with_reducible rfl
        try simp only [Act.put, List.getElem_toArray, List.getElem_cons_zero, List.getElem_cons_succ, List.setIfInBounds_toArray, List.set_cons_zero, List.set_cons_succ]
        refine wpAnyH_take (i := 2) (v := ?_) rfl (by kernel_rfl) (by kernel_rfl) (by kernel_rfl) (fun _ _ _ h => h) (Or.inl ⟨by rfl, ?_⟩) (Below.refl _ _) ?_
        rotate_left
        · intro w _; go_simp; with_reducible rfl
        try simp only [Act.put, List.getElem_toArray, List.getElem_cons_zero, List.getElem_cons_succ, List.setIfInBounds_toArray, List.set_cons_zero, List.set_cons_succ]
        refine wpAnyH_take (i := 3) (v := ?_) rfl (by kernel_rfl) (by kernel_rfl) (by kernel_rfl) (fun _ _ _ h => h) (Or.inl ⟨by rfl, ?_⟩) (Below.refl _ _) ?_
        rotate_left
        · intro w _; go_simp; with_reducible rfl
        try simp only [Act.put, List.getElem_toArray, List.getElem_cons_zero, List.getElem_cons_succ, List.setIfInBounds_toArray, List.set_cons_zero, List.set_cons_succ]
        refine wpAnyH_take (i := 4) (v := ?_) rfl (by kernel_rfl) (by kernel_rfl) (by kernel_rfl) (fun _ _ _ h => h) (Or.inl ⟨by rfl, ?_⟩) (Below.refl _ _) ?_
        rotate_left
        · intro w _; go_simp; with_reducible rfl
        try simp only [Act.put, List.getElem_toArray, List.getElem_cons_zero, List.getElem_cons_succ, List.setIfInBounds_toArray, List.set_cons_zero, List.set_cons_succ]
        refine wpAnyH_take (i := 5) (v := ?_) rfl (by kernel_rfl) (by kernel_rfl) (by kernel_rfl) (fun _ _ _ h => h) (Or.inl ⟨by rfl, ?_⟩) (Below.refl _ _) ?_
        rotate_left
        · intro w _; go_simp; with_reducible rfl
        try simp only [Act.put, List.getElem_toArray, List.getElem_cons_zero, List.getElem_cons_succ, List.setIfInBounds_toArray, List.set_cons_zero, List.set_cons_succ]
        refine wpAnyH_take (i := 6) rfl (by kernel_rfl) (by kernel_rfl) (by kernel_rfl) (fun _ _ _ h => h) (yieldsIf_load_mid (by rfl) 27 _ rfl b _ rfl (cellsN xs) _ (fun w4 h => range_below HR0.out h HBL2.out) Tryd.underlying27 rfl (by rw [cellsN_len, HHX.out]; exact oid_info')) (Below.refl _ _) ?_
        try simp only [Act.put, List.getElem_toArray, List.getElem_cons_zero, List.getElem_cons_succ, List.setIfInBounds_toArray, List.set_cons_zero, List.set_cons_succ]
        rw [cellsN_arr]
        refine wpAnyH_take (i := 7) rfl (by kernel_rfl) (by kernel_rfl) (by kernel_rfl) (fun _ _ _ h => h) (takes_row 27 (.tmp 2) rfl (by rfl) (w.heap.size) rfl 27 (u8s xs) _ (fun w4 h => HXD.out.below h HXD.out.lt) Tryd.underlying27 rfl (by rw [HLX.out]; exact oid_info)) (Below.refl _ _) ?_
        try simp only [Act.put, List.getElem_toArray, List.getElem_cons_zero, List.getElem_cons_succ, List.setIfInBounds_toArray, List.set_cons_zero, List.set_cons_succ]
        refine wpAnyH_take (i := 8) (v := ?_) rfl (by kernel_rfl) (by kernel_rfl) (by kernel_rfl) (fun _ _ _ h => h) (Or.inl ⟨by rfl, ?_⟩) (Below.refl _ _) ?_
        rotate_left
        · intro w _; go_simp; with_reducible rfl
        try simp only [Act.put, List.getElem_toArray, List.getElem_cons_zero, List.getElem_cons_succ, List.setIfInBounds_toArray, List.set_cons_zero, List.set_cons_succ]
        refine wpAnyH_take (i := 9) (v := ?_) rfl (by kernel_rfl) (by kernel_rfl) (by kernel_rfl) (fun _ _ _ h => h) (Or.inl ⟨by rfl, ?_⟩) (Below.refl _ _) ?_
        rotate_left
        · intro w _; go_simp; with_reducible rfl
        try simp only [Act.put, List.getElem_toArray, List.getElem_cons_zero, List.getElem_cons_succ, List.setIfInBounds_toArray, List.set_cons_zero, List.set_cons_succ]
        refine wpAnyH_take (i := 10) (v := ?_) rfl (by kernel_rfl) (by kernel_rfl) (by kernel_rfl) (fun _ _ _ h => h) (Or.inl ⟨by rfl, ?_⟩) (Below.refl _ _) ?_
        rotate_left
        · intro w _; go_simp; with_reducible rfl
        try simp only [Act.put, List.getElem_toArray, List.getElem_cons_zero, List.getElem_cons_succ, List.setIfInBounds_toArray, List.set_cons_zero, List.set_cons_succ]
        refine wpAnyH_done (by kernel_rfl) ?_ _
        go_wp2_with fail
        go_ret
        exact ⟨rfl, HBD.out⟩
      · obtain ⟨x, y, hr2, hlt2⟩ := Sha.two_of (a := xs) (b := ys) HRISE.out (fun x => (HMEM.out x).trans (mem_three x xs ys)) hxy
        subst hr2
        have hbq : (xs == ys) = false := by rw [beq_eq_false_iff_ne]; exact hxy
        rw [hbq] at heq0
        have HVx := Lib.hid (HOL.out x (by simp))
        have HVy := Lib.hid (HOL.out y (by simp))
        have HLT := Lib.hid hlt2
        clear hbq hxy hlt2
        rw [show ([x, y] : List (List Nat)).length = 2 from rfl]
        have hcc : 2 ≤ c := hc
        go_wp2_with (first | (refine wpList_row_w (by rfl) 27 (.tmp 2) rfl (w.heap.size) rfl 27 _ _ HXZ.out Tryd.underlying27 rfl (by rw [HLX.out]; exact oid_info) ?_) | (refine wpList_row_w (by rfl) 27 (.tmp 3) rfl (w.heap.size + 1) rfl 27 _ _ HYZ.out Tryd.underlying27 rfl (by rw [HLY.out]; exact oid_info) ?_))
        have x0 := fun w' => run_index_k (P := Tryd.prog) Tryd.underlying46 oid_info' b 0 2 c 0 (by omega) (ii := (0 : Int)) rfl w'
        have x1 := fun w' => run_index_k (P := Tryd.prog) Tryd.underlying46 oid_info' b 0 2 c 1 (by omega) (ii := (1 : Int)) rfl w'
        simp only [Nat.zero_add, Nat.mul_zero, Nat.mul_one] at x0 x1
        have HR0 : Hid (wz.drew.rangeAt b 0 (cellsN x)) := Lib.hid (by have h := HROW.out 0 (by simp); exact h)
        have HR1 : Hid (wz.drew.rangeAt b 32 (cellsN y)) := Lib.hid (by have h := HROW.out 1 (by simp); exact h)
        have HBL2 : Hid (b < wz.drew.heap.size) := Lib.hid (HBL.out (by simp))
        have HBD := Lib.hid (below_drewN HBZ.out 1)
        refine wp_region_held (S := (fun w' => Below wz.drew.heap.size wz.drew w')) (by kernel_rfl) ?_
        change wpAnyH _ _ _ _ _ _ _ _ wz.drew
        refine wpAnyH_take (i := 0) (v := ?_) rfl (by kernel_rfl) (by kernel_rfl) (by kernel_rfl) (fun _ _ _ h => h) (Or.inl ⟨by rfl, ?_⟩) (Below.refl _ _) ?_
        rotate_left
        · intro w _; go_simp; with_reducible rfl
        try simp only [Act.put, List.getElem_toArray, List.getElem_cons_zero, List.getElem_cons_succ, List.setIfInBounds_toArray, List.set_cons_zero, List.set_cons_succ]
        refine wpAnyH_take (i := 1) (v := ?_) rfl (by kernel_rfl) (by kernel_rfl) (by kernel_rfl) (fun _ _ _ h => h) (Or.inl ⟨by rfl, ?_⟩) (Below.refl _ _) ?_
        rotate_left
        · intro w _; go_simp; with_reducible rfl
        try simp only [Act.put, List.getElem_toArray, List.getElem_cons_zero, List.getElem_cons_succ, List.setIfInBounds_toArray, List.set_cons_zero, List.set_cons_succ]
        refine wpAnyH_take (i := 2) (v := ?_) rfl (by kernel_rfl) (by kernel_rfl) (by kernel_rfl) (fun _ _ _ h => h) (Or.inl ⟨by rfl, ?_⟩) (Below.refl _ _) ?_
        rotate_left
        · intro w _; go_simp; with_reducible rfl
        try simp only [Act.put, List.getElem_toArray, List.getElem_cons_zero, List.getElem_cons_succ, List.setIfInBounds_toArray, List.set_cons_zero, List.set_cons_succ]
        refine wpAnyH_take (i := 3) (v := ?_) rfl (by kernel_rfl) (by kernel_rfl) (by kernel_rfl) (fun _ _ _ h => h) (Or.inl ⟨by rfl, ?_⟩) (Below.refl _ _) ?_
        rotate_left
        · intro w _; go_simp; with_reducible rfl
        try simp only [Act.put, List.getElem_toArray, List.getElem_cons_zero, List.getElem_cons_succ, List.setIfInBounds_toArray, List.set_cons_zero, List.set_cons_succ]
        refine wpAnyH_take (i := 4) (v := ?_) rfl (by kernel_rfl) (by kernel_rfl) (by kernel_rfl) (fun _ _ _ h => h) (Or.inl ⟨by rfl, ?_⟩) (Below.refl _ _) ?_
        rotate_left
        · intro w _; go_simp; with_reducible rfl
        try simp only [Act.put, List.getElem_toArray, List.getElem_cons_zero, List.getElem_cons_succ, List.setIfInBounds_toArray, List.set_cons_zero, List.set_cons_succ]
        refine wpAnyH_take (i := 5) (v := ?_) rfl (by kernel_rfl) (by kernel_rfl) (by kernel_rfl) (fun _ _ _ h => h) (Or.inl ⟨by rfl, ?_⟩) (Below.refl _ _) ?_
        rotate_left
        · intro w _; go_simp; with_reducible rfl
        try simp only [Act.put, List.getElem_toArray, List.getElem_cons_zero, List.getElem_cons_succ, List.setIfInBounds_toArray, List.set_cons_zero, List.set_cons_succ]
        refine wpAnyH_take (i := 6) rfl (by kernel_rfl) (by kernel_rfl) (by kernel_rfl) (fun _ _ _ h => h) (yieldsIf_load_mid (by rfl) 27 _ rfl b _ rfl (cellsN x) _ (fun w4 h => range_below HR0.out h HBL2.out) Tryd.underlying27 rfl (by rw [cellsN_len, HVx.out.1]; exact oid_info')) (Below.refl _ _) ?_
        try simp only [Act.put, List.getElem_toArray, List.getElem_cons_zero, List.getElem_cons_succ, List.setIfInBounds_toArray, List.set_cons_zero, List.set_cons_succ]
        rw [cellsN_arr]
        refine wpAnyH_take (i := 7) (v := ?_) rfl (by kernel_rfl) (by kernel_rfl) (by kernel_rfl) (fun _ _ _ h => h) (Or.inl ⟨by rfl, ?_⟩) (Below.refl _ _) ?_
        rotate_left
        · intro w _; go_simp; with_reducible rfl
        try simp only [Act.put, List.getElem_toArray, List.getElem_cons_zero, List.getElem_cons_succ, List.setIfInBounds_toArray, List.set_cons_zero, List.set_cons_succ]
        refine wpAnyH_take (i := 8) (v := ?_) rfl (by kernel_rfl) (by kernel_rfl) (by kernel_rfl) (fun _ _ _ h => h) (Or.inl ⟨by rfl, ?_⟩) (Below.refl _ _) ?_
        rotate_left
        · intro w _; go_simp; with_reducible rfl
        try simp only [Act.put, List.getElem_toArray, List.getElem_cons_zero, List.getElem_cons_succ, List.setIfInBounds_toArray, List.set_cons_zero, List.set_cons_succ]
        refine wpAnyH_take (i := 9) rfl (by kernel_rfl) (by kernel_rfl) (by kernel_rfl) (fun _ _ _ h => h) (yieldsIf_load_mid (by rfl) 27 _ rfl b _ rfl (cellsN y) _ (fun w4 h => range_below HR1.out h HBL2.out) Tryd.underlying27 rfl (by rw [cellsN_len, HVy.out.1]; exact oid_info')) (Below.refl _ _) ?_
        try simp only [Act.put, List.getElem_toArray, List.getElem_cons_zero, List.getElem_cons_succ, List.setIfInBounds_toArray, List.set_cons_zero, List.set_cons_succ]
        rw [cellsN_arr]
        refine all_one (i := 10) (by kernel_rfl) rfl (by rfl) (fun K hK => ?_)
        go_simp
        refine (rless_q true x y _ HVx.out.1 HVy.out.1 HVx.out.2 HVy.out.2 (decide_eq_true HLT.out)).mono ?_
        rintro e wt ⟨rfl, hbt⟩
        dsimp only
        refine hK _ _ (hbt) ?_; clear hK K
        try simp only [Act.put, List.getElem_toArray, List.getElem_cons_zero, List.getElem_cons_succ, List.setIfInBounds_toArray, List.set_cons_zero, List.set_cons_succ]
        have HBT := Lib.hid hbt
        clear hbt
        refine wpAnyH_take (i := 11) (v := ?_) rfl (by kernel_rfl) (by kernel_rfl) (by kernel_rfl) (fun _ _ _ h => h) (Or.inl ⟨by rfl, ?_⟩) (HBT.out) ?_
        rotate_left
        · intro w _; go_simp; with_reducible rfl
        try simp only [Act.put, List.getElem_toArray, List.getElem_cons_zero, List.getElem_cons_succ, List.setIfInBounds_toArray, List.set_cons_zero, List.set_cons_succ]
        refine wpAnyH_take (i := 12) (v := ?_) rfl (by kernel_rfl) (by kernel_rfl) (by kernel_rfl) (fun _ _ _ h => h) (Or.inl ⟨by rfl, ?_⟩) (HBT.out) ?_
        rotate_left
        · intro w _; go_simp; with_reducible rfl
        try simp only [Act.put, List.getElem_toArray, List.getElem_cons_zero, List.getElem_cons_succ, List.setIfInBounds_toArray, List.set_cons_zero, List.set_cons_succ]
        refine wpAnyH_done (by kernel_rfl) ?_ _
        go_wp2_with fail
        go_ret
        exact ⟨rfl, HBD.out.trans (HBT.out.mono HBD.out.size)⟩
    · have hq2 : q' = false := by cases q' <;> first | rfl | exact absurd ⟨rfl, rfl⟩ H1.out
      subst hq2
      go_wp2_with (first | (refine wpList_row_w (by rfl) 27 (.tmp 2) rfl (w.heap.size) rfl 27 _ _ HX2.out Tryd.underlying27 rfl (by rw [HLX.out]; exact oid_info) ?_) | (refine wpList_row_w (by rfl) 27 (.tmp 3) rfl (w.heap.size + 1) rfl 27 _ _ HY2.out Tryd.underlying27 rfl (by rw [HLY.out]; exact oid_info) ?_))
      refine (less_q true xs ys w2 HHX.out HHY.out hb hb' HQ.out).mono ?_
      rintro e w3 ⟨rfl, hbk⟩
      have HX3 := Lib.hid (HX2.out.below hbk HX2.out.lt)
      have HY3 := Lib.hid (HY2.out.below hbk HY2.out.lt)
      have HB3 := Lib.hid (HB2.out.trans (hbk.mono HB2.out.size))
      clear hbk HX2 HY2 HB2
      go_wp2_with (first | (refine wpList_row_w (by rfl) 27 (.tmp 2) rfl (w.heap.size) rfl 27 _ _ HX3.out Tryd.underlying27 rfl (by rw [HLX.out]; exact oid_info) ?_) | (refine wpList_row_w (by rfl) 27 (.tmp 3) rfl (w.heap.size + 1) rfl 27 _ _ HY3.out Tryd.underlying27 rfl (by rw [HLY.out]; exact oid_info) ?_))
      refine (less_q true xs ys w3 HHX.out HHY.out hb hb' HQ.out).mono ?_
      rintro e w4 ⟨rfl, hbk⟩
      have HX4 := Lib.hid (HX3.out.below hbk HX3.out.lt)
      have HY4 := Lib.hid (HY3.out.below hbk HY3.out.lt)
      have HB4 := Lib.hid (HB3.out.trans (hbk.mono HB3.out.size))
      clear hbk HX3 HY3 HB3
      go_wp2_with (first | (refine wpList_row_w (by rfl) 27 (.tmp 2) rfl (w.heap.size) rfl 27 _ _ HX4.out Tryd.underlying27 rfl (by rw [HLX.out]; exact oid_info) ?_) | (refine wpList_row_w (by rfl) 27 (.tmp 3) rfl (w.heap.size + 1) rfl 27 _ _ HY4.out Tryd.underlying27 rfl (by rw [HLY.out]; exact oid_info) ?_))
      refine (less_q false ys xs w4 HHY.out HHX.out hb' hb HQ2.out).mono ?_
      rintro e w5 ⟨rfl, hbk⟩
      have HX5 := Lib.hid (HX4.out.below hbk HX4.out.lt)
      have HY5 := Lib.hid (HY4.out.below hbk HY4.out.lt)
      have HB5 := Lib.hid (HB4.out.trans (hbk.mono HB4.out.size))
      clear hbk HX4 HY4 HB4
      go_wp2_with fail
      have hmn : (((m : Nat) : Int) != ((n : Nat) : Int)) = true := by rw [bne_iff_ne]; have := HMN.out; omega
      have hlt : ((m : Nat) : Int) < ((n : Nat) : Int) := by have := H2.out HMN.out; simp at this; omega
      have HX6 := Lib.hid HX5.out.drew
      have HY6 := Lib.hid HY5.out.drew
      have HB6 := Lib.hid (below_drewN HB5.out 1)
      clear HX5 HY5 HB5
      refine wp_region_held (S := (fun w' => Below w5.drew.heap.size w5.drew w')) (by kernel_rfl) ?_
      change wpAnyH _ _ _ _ _ _ _ _ w5.drew
      refine wpAnyH_take (i := 0) rfl (by kernel_rfl) (by kernel_rfl) (by kernel_rfl) (fun _ _ _ h => h) (takes_row 27 (.tmp 2) rfl (by rfl) (w.heap.size) rfl 27 (u8s xs) _ (fun w4 h => HX6.out.below h HX6.out.lt) Tryd.underlying27 rfl (by rw [HLX.out]; exact oid_info)) (Below.refl _ _) ?_
      try simp only [Act.put, List.getElem_toArray, List.getElem_cons_zero, List.getElem_cons_succ, List.setIfInBounds_toArray, List.set_cons_zero, List.set_cons_succ]
      refine wpAnyH_take (i := 2) rfl (by kernel_rfl) (by kernel_rfl) (by kernel_rfl) (fun _ _ _ h => h) (takes_row 27 (.tmp 3) rfl (by rfl) (w.heap.size + 1) rfl 27 (u8s ys) _ (fun w4 h => HY6.out.below h HY6.out.lt) Tryd.underlying27 rfl (by rw [HLY.out]; exact oid_info)) (Below.refl _ _) ?_
      try simp only [Act.put, List.getElem_toArray, List.getElem_cons_zero, List.getElem_cons_succ, List.setIfInBounds_toArray, List.set_cons_zero, List.set_cons_succ]
      refine all_one (i := 1) (by kernel_rfl) rfl (by rfl) (fun K hK => ?_)
      go_simp
      refine (short_q xs m _ HHX.out hb HM.out).mono ?_
      rintro e wa ⟨rfl, hba⟩
      dsimp only
      refine hK _ _ (hba) ?_; clear hK K
      try simp only [Act.put, List.getElem_toArray, List.getElem_cons_zero, List.getElem_cons_succ, List.setIfInBounds_toArray, List.set_cons_zero, List.set_cons_succ]
      refine all_one (i := 3) (by kernel_rfl) rfl (by rfl) (fun K hK => ?_)
      go_simp
      refine (short_q ys n _ HHY.out hb' HN.out).mono ?_
      rintro e wb ⟨rfl, hbb⟩
      have hbb := hba.trans (hbb.mono hba.size)
      dsimp only
      refine hK _ _ (hbb) ?_; clear hK K
      try simp only [Act.put, List.getElem_toArray, List.getElem_cons_zero, List.getElem_cons_succ, List.setIfInBounds_toArray, List.set_cons_zero, List.set_cons_succ]
      have HBB := Lib.hid hbb
      clear hba hbb
      refine wpAnyH_take (i := 4) (v := ?_) rfl (by kernel_rfl) (by kernel_rfl) (by kernel_rfl) (fun _ _ _ h => h) (Or.inl ⟨by rfl, ?_⟩) (HBB.out) ?_
      rotate_left
      · intro w _; go_simp; with_reducible rfl
      try simp only [Act.put, List.getElem_toArray, List.getElem_cons_zero, List.getElem_cons_succ, List.setIfInBounds_toArray, List.set_cons_zero, List.set_cons_succ]
      refine wpAnyH_take (i := 5) (v := ?_) rfl (by kernel_rfl) (by kernel_rfl) (by kernel_rfl) (fun _ _ _ h => h) (Or.inl ⟨by rfl, ?_⟩) (HBB.out) ?_
      rotate_left
      · intro w _; go_simp; with_reducible rfl
      try simp only [Act.put, List.getElem_toArray, List.getElem_cons_zero, List.getElem_cons_succ, List.setIfInBounds_toArray, List.set_cons_zero, List.set_cons_succ]
      refine wpAnyH_take (i := 6) rfl (by kernel_rfl) (by kernel_rfl) (by kernel_rfl) (fun _ _ _ h => h) (takes_row 27 (.tmp 2) rfl (by rfl) (w.heap.size) rfl 27 (u8s xs) _ (fun w4 h => HX6.out.below h HX6.out.lt) Tryd.underlying27 rfl (by rw [HLX.out]; exact oid_info)) (HBB.out) ?_
      try simp only [Act.put, List.getElem_toArray, List.getElem_cons_zero, List.getElem_cons_succ, List.setIfInBounds_toArray, List.set_cons_zero, List.set_cons_succ]
      refine wpAnyH_take (i := 7) rfl (by kernel_rfl) (by kernel_rfl) (by kernel_rfl) (fun _ _ _ h => h) (takes_row 27 (.tmp 3) rfl (by rfl) (w.heap.size + 1) rfl 27 (u8s ys) _ (fun w4 h => HY6.out.below h HY6.out.lt) Tryd.underlying27 rfl (by rw [HLY.out]; exact oid_info)) (HBB.out) ?_
      try simp only [Act.put, List.getElem_toArray, List.getElem_cons_zero, List.getElem_cons_succ, List.setIfInBounds_toArray, List.set_cons_zero, List.set_cons_succ]
      refine wpAnyH_take (i := 9) rfl (by kernel_rfl) (by kernel_rfl) (by kernel_rfl) (fun _ _ _ h => h) (takes_row 27 (.tmp 2) rfl (by rfl) (w.heap.size) rfl 27 (u8s xs) _ (fun w4 h => HX6.out.below h HX6.out.lt) Tryd.underlying27 rfl (by rw [HLX.out]; exact oid_info)) (HBB.out) ?_
      try simp only [Act.put, List.getElem_toArray, List.getElem_cons_zero, List.getElem_cons_succ, List.setIfInBounds_toArray, List.set_cons_zero, List.set_cons_succ]
      refine wpAnyH_take (i := 11) rfl (by kernel_rfl) (by kernel_rfl) (by kernel_rfl) (fun _ _ _ h => h) (takes_row 27 (.tmp 3) rfl (by rfl) (w.heap.size + 1) rfl 27 (u8s ys) _ (fun w4 h => HY6.out.below h HY6.out.lt) Tryd.underlying27 rfl (by rw [HLY.out]; exact oid_info)) (HBB.out) ?_
      try simp only [Act.put, List.getElem_toArray, List.getElem_cons_zero, List.getElem_cons_succ, List.setIfInBounds_toArray, List.set_cons_zero, List.set_cons_succ]
      refine all_one (i := 8) (by kernel_rfl) rfl (by rfl) (fun K hK => ?_)
      go_simp
      refine (less_q true xs ys _ HHX.out HHY.out hb hb' HQ.out).mono ?_
      rintro e wc ⟨rfl, hbc⟩
      have hbc := HBB.out.trans (hbc.mono HBB.out.size)
      dsimp only
      refine hK _ _ (hbc) ?_; clear hK K
      try simp only [Act.put, List.getElem_toArray, List.getElem_cons_zero, List.getElem_cons_succ, List.setIfInBounds_toArray, List.set_cons_zero, List.set_cons_succ]
      refine all_one (i := 10) (by kernel_rfl) rfl (by rfl) (fun K hK => ?_)
      go_simp
      refine (short_q xs m _ HHX.out hb HM.out).mono ?_
      rintro e wd ⟨rfl, hbd⟩
      have hbd := hbc.trans (hbd.mono hbc.size)
      dsimp only
      refine hK _ _ (hbd) ?_; clear hK K
      try simp only [Act.put, List.getElem_toArray, List.getElem_cons_zero, List.getElem_cons_succ, List.setIfInBounds_toArray, List.set_cons_zero, List.set_cons_succ]
      refine all_one (i := 12) (by kernel_rfl) rfl (by rfl) (fun K hK => ?_)
      go_simp
      refine (short_q ys n _ HHY.out hb' HN.out).mono ?_
      rintro e we ⟨rfl, hbe⟩
      have hbe := hbd.trans (hbe.mono hbd.size)
      dsimp only
      refine hK _ _ (hbe) ?_; clear hK K
      try simp only [Act.put, List.getElem_toArray, List.getElem_cons_zero, List.getElem_cons_succ, List.setIfInBounds_toArray, List.set_cons_zero, List.set_cons_succ]
      have HBE := Lib.hid hbe
      clear hbc hbd hbe
      refine wpAnyH_take (i := 13) (v := ?_) rfl (by kernel_rfl) (by kernel_rfl) (by kernel_rfl) (fun _ _ _ h => h) (Or.inl ⟨by rfl, ?_⟩) (HBE.out) ?_
      rotate_left
      · intro w _; go_simp; with_reducible rfl
      try simp only [Act.put, List.getElem_toArray, List.getElem_cons_zero, List.getElem_cons_succ, List.setIfInBounds_toArray, List.set_cons_zero, List.set_cons_succ]
      refine wpAnyH_take (i := 14) (v := ?_) rfl (by kernel_rfl) (by kernel_rfl) (by kernel_rfl) (fun _ _ _ h => h) (Or.inl ⟨by rfl, ?_⟩) (HBE.out) ?_
      rotate_left
      · intro w _; go_simp; with_reducible rfl
      try simp only [Act.put, List.getElem_toArray, List.getElem_cons_zero, List.getElem_cons_succ, List.setIfInBounds_toArray, List.set_cons_zero, List.set_cons_succ]
      refine wpAnyH_take (i := 15) (v := ?_) rfl (by kernel_rfl) (by kernel_rfl) (by kernel_rfl) (fun _ _ _ h => h) (Or.inl ⟨by rfl, ?_⟩) (HBE.out) ?_
      rotate_left
      · intro w _; go_simp; with_reducible rfl
      try simp only [Act.put, List.getElem_toArray, List.getElem_cons_zero, List.getElem_cons_succ, List.setIfInBounds_toArray, List.set_cons_zero, List.set_cons_succ]
      refine wpAnyH_done (by kernel_rfl) ?_ _
      have HX7 := Lib.hid (HX6.out.below HBE.out HX6.out.lt)
      have HY7 := Lib.hid (HY6.out.below HBE.out HY6.out.lt)
      have HB7 := Lib.hid (HB6.out.trans (HBE.out.mono HB6.out.size))
      clear HX6 HY6 HB6
      clear hmn hlt
      go_wp2_with (first | (refine wpList_row_w (by rfl) 27 (.tmp 2) rfl (w.heap.size) rfl 27 _ _ HX7.out Tryd.underlying27 rfl (by rw [HLX.out]; exact oid_info) ?_) | (refine wpList_row_w (by rfl) 27 (.tmp 3) rfl (w.heap.size + 1) rfl 27 _ _ HY7.out Tryd.underlying27 rfl (by rw [HLY.out]; exact oid_info) ?_) | (refine wpList_build3 rfl _ _ _ rfl ys xs ys rfl rfl rfl HHY.out HHX.out HHY.out ?_))
      have HR3 := Lib.hid (rd_three (w := we) xs ys ⟨HHX.out, hb⟩ ⟨HHY.out, hb'⟩)
      have HXS : Hid (Blk (we.alloc (.cells (u8s (flat3 ys xs ys)) 27)) w.heap.size 27 (u8s xs)) := Lib.hid (HX7.out.alloc _)
      have HYS : Hid (Blk (we.alloc (.cells (u8s (flat3 ys xs ys)) 27)) (w.heap.size + 1) 27 (u8s ys)) := Lib.hid (HY7.out.alloc _)
      have HBS : Hid (Below w.heap.size w (we.alloc (.cells (u8s (flat3 ys xs ys)) 27))) := Lib.hid (HB7.out.alloc HB7.out.size _)
      clear HX7 HY7 HB7
      refine (sort_any _ [ys, xs, ys] _ HR3.out.2 HR3.out.1 (by show 3 < 1073741824; omega)).mono ?_
      rintro e wz ⟨r, ⟨b, c, rfl, hc, hbl, hrow⟩, hol, hmem, hrise, hbs⟩
      have HXZ := Lib.hid (HXS.out.below hbs HXS.out.lt)
      have HYZ := Lib.hid (HYS.out.below hbs HYS.out.lt)
      have HBZ := Lib.hid (HBS.out.trans (hbs.mono HBS.out.size))
      have HROW := Lib.hid hrow
      have HMEM := Lib.hid hmem
      have HRISE := Lib.hid hrise
      have HOL := Lib.hid hol
      have HBL := Lib.hid hbl
      clear hbs HXS HYS HBS HR3 hrow hmem hrise hol hbl
      have heq0 := eq_oid xs ys ⟨HHX.out, hb⟩ ⟨HHY.out, hb'⟩
      by_cases hxy : xs = ys
      · have hr1 : r = [xs] := Sha.one_of HRISE.out (fun x => by rw [HMEM.out x, ← hxy]; simp)
        subst hr1
        have hbq : (xs == ys) = true := by rw [hxy]; exact beq_self_eq_true _
        rw [hbq] at heq0
        have HXY := Lib.hid hxy
        clear hbq hxy
        rw [show ([xs] : List (List Nat)).length = 1 from rfl]
        have hcc : 1 ≤ c := hc
        go_wp2_with (first | (refine wpList_row_w (by rfl) 27 (.tmp 2) rfl (w.heap.size) rfl 27 _ _ HXZ.out Tryd.underlying27 rfl (by rw [HLX.out]; exact oid_info) ?_) | (refine wpList_row_w (by rfl) 27 (.tmp 3) rfl (w.heap.size + 1) rfl 27 _ _ HYZ.out Tryd.underlying27 rfl (by rw [HLY.out]; exact oid_info) ?_))
        have heq1 := eq_oid xs xs ⟨HHX.out, hb⟩ ⟨HHX.out, hb⟩
        rw [beq_self_eq_true] at heq1
        have x0 := fun w' => run_index_k (P := Tryd.prog) Tryd.underlying46 oid_info' b 0 1 c 0 (by omega) (ii := (0 : Int)) rfl w'
        simp only [Nat.zero_add, Nat.mul_zero] at x0
        have HR0 : Hid (wz.drew.rangeAt b 0 (cellsN xs)) := Lib.hid (by have h := HROW.out 0 (by simp); exact h)
        have HBL2 : Hid (b < wz.drew.heap.size) := Lib.hid (HBL.out (by simp))
        have HXD := Lib.hid HXZ.out.drew
        have HBD := Lib.hid (below_drewN HBZ.out 1)
        refine wp_region_held (S := (fun w' => Below wz.drew.heap.size wz.drew w')) (by kernel_rfl) ?_
        change wpAnyH _ _ _ _ _ _ _ _ wz.drew
        refine wpAnyH_take (i := 0) (v := ?_) rfl (by kernel_rfl) (by kernel_rfl) (by kernel_rfl) (fun _ _ _ h => h) (Or.inl ⟨by rfl, ?_⟩) (Below.refl _ _) ?_
        rotate_left
        · intro w _; go_simp; with_reducible rfl
        try simp only [Act.put, List.getElem_toArray, List.getElem_cons_zero, List.getElem_cons_succ, List.setIfInBounds_toArray, List.set_cons_zero, List.set_cons_succ]
        refine wpAnyH_take (i := 1) (v := ?_) rfl (by kernel_rfl) (by kernel_rfl) (by kernel_rfl) (fun _ _ _ h => h) (Or.inl ⟨by rfl, ?_⟩) (Below.refl _ _) ?_
        rotate_left
        · intro w _; go_simp; with_reducible rfl
        try simp only [Act.put, List.getElem_toArray, List.getElem_cons_zero, List.getElem_cons_succ, List.setIfInBounds_toArray, List.set_cons_zero, List.set_cons_succ]
        refine wpAnyH_take (i := 2) (v := ?_) rfl (by kernel_rfl) (by kernel_rfl) (by kernel_rfl) (fun _ _ _ h => h) (Or.inl ⟨by rfl, ?_⟩) (Below.refl _ _) ?_
        rotate_left
        · intro w _; go_simp; with_reducible rfl
        try simp only [Act.put, List.getElem_toArray, List.getElem_cons_zero, List.getElem_cons_succ, List.setIfInBounds_toArray, List.set_cons_zero, List.set_cons_succ]
        refine wpAnyH_take (i := 3) (v := ?_) rfl (by kernel_rfl) (by kernel_rfl) (by kernel_rfl) (fun _ _ _ h => h) (Or.inl ⟨by rfl, ?_⟩) (Below.refl _ _) ?_
        rotate_left
        · intro w _; go_simp; with_reducible rfl
        try simp only [Act.put, List.getElem_toArray, List.getElem_cons_zero, List.getElem_cons_succ, List.setIfInBounds_toArray, List.set_cons_zero, List.set_cons_succ]
        refine wpAnyH_take (i := 4) (v := ?_) rfl (by kernel_rfl) (by kernel_rfl) (by kernel_rfl) (fun _ _ _ h => h) (Or.inl ⟨by rfl, ?_⟩) (Below.refl _ _) ?_
        rotate_left
        · intro w _; go_simp; with_reducible rfl
        try simp only [Act.put, List.getElem_toArray, List.getElem_cons_zero, List.getElem_cons_succ, List.setIfInBounds_toArray, List.set_cons_zero, List.set_cons_succ]
        refine wpAnyH_take (i := 5) (v := ?_) rfl (by kernel_rfl) (by kernel_rfl) (by kernel_rfl) (fun _ _ _ h => h) (Or.inl ⟨by rfl, ?_⟩) (Below.refl _ _) ?_
        rotate_left
        · intro w _; go_simp; with_reducible rfl
        try simp only [Act.put, List.getElem_toArray, List.getElem_cons_zero, List.getElem_cons_succ, List.setIfInBounds_toArray, List.set_cons_zero, List.set_cons_succ]
        refine wpAnyH_take (i := 6) rfl (by kernel_rfl) (by kernel_rfl) (by kernel_rfl) (fun _ _ _ h => h) (yieldsIf_load_mid (by rfl) 27 _ rfl b _ rfl (cellsN xs) _ (fun w4 h => range_below HR0.out h HBL2.out) Tryd.underlying27 rfl (by rw [cellsN_len, HHX.out]; exact oid_info')) (Below.refl _ _) ?_
        try simp only [Act.put, List.getElem_toArray, List.getElem_cons_zero, List.getElem_cons_succ, List.setIfInBounds_toArray, List.set_cons_zero, List.set_cons_succ]
        rw [cellsN_arr]
        refine wpAnyH_take (i := 7) rfl (by kernel_rfl) (by kernel_rfl) (by kernel_rfl) (fun _ _ _ h => h) (takes_row 27 (.tmp 2) rfl (by rfl) (w.heap.size) rfl 27 (u8s xs) _ (fun w4 h => HXD.out.below h HXD.out.lt) Tryd.underlying27 rfl (by rw [HLX.out]; exact oid_info)) (Below.refl _ _) ?_
        try simp only [Act.put, List.getElem_toArray, List.getElem_cons_zero, List.getElem_cons_succ, List.setIfInBounds_toArray, List.set_cons_zero, List.set_cons_succ]
        refine wpAnyH_take (i := 8) (v := ?_) rfl (by kernel_rfl) (by kernel_rfl) (by kernel_rfl) (fun _ _ _ h => h) (Or.inl ⟨by rfl, ?_⟩) (Below.refl _ _) ?_
        rotate_left
        · intro w _; go_simp; with_reducible rfl
        try simp only [Act.put, List.getElem_toArray, List.getElem_cons_zero, List.getElem_cons_succ, List.setIfInBounds_toArray, List.set_cons_zero, List.set_cons_succ]
        refine wpAnyH_take (i := 9) (v := ?_) rfl (by kernel_rfl) (by kernel_rfl) (by kernel_rfl) (fun _ _ _ h => h) (Or.inl ⟨by rfl, ?_⟩) (Below.refl _ _) ?_
        rotate_left
        · intro w _; go_simp; with_reducible rfl
        try simp only [Act.put, List.getElem_toArray, List.getElem_cons_zero, List.getElem_cons_succ, List.setIfInBounds_toArray, List.set_cons_zero, List.set_cons_succ]
        refine wpAnyH_take (i := 10) (v := ?_) rfl (by kernel_rfl) (by kernel_rfl) (by kernel_rfl) (fun _ _ _ h => h) (Or.inl ⟨by rfl, ?_⟩) (Below.refl _ _) ?_
        rotate_left
        · intro w _; go_simp; with_reducible rfl
        try simp only [Act.put, List.getElem_toArray, List.getElem_cons_zero, List.getElem_cons_succ, List.setIfInBounds_toArray, List.set_cons_zero, List.set_cons_succ]
        refine wpAnyH_done (by kernel_rfl) ?_ _
        go_wp2_with fail
        go_ret
        exact ⟨rfl, HBD.out⟩
      · obtain ⟨x, y, hr2, hlt2⟩ := Sha.two_of (a := xs) (b := ys) HRISE.out (fun x => (HMEM.out x).trans (mem_three x xs ys)) hxy
        subst hr2
        have hbq : (xs == ys) = false := by rw [beq_eq_false_iff_ne]; exact hxy
        rw [hbq] at heq0
        have HVx := Lib.hid (HOL.out x (by simp))
        have HVy := Lib.hid (HOL.out y (by simp))
        have HLT := Lib.hid hlt2
        clear hbq hxy hlt2
        rw [show ([x, y] : List (List Nat)).length = 2 from rfl]
        have hcc : 2 ≤ c := hc
        go_wp2_with (first | (refine wpList_row_w (by rfl) 27 (.tmp 2) rfl (w.heap.size) rfl 27 _ _ HXZ.out Tryd.underlying27 rfl (by rw [HLX.out]; exact oid_info) ?_) | (refine wpList_row_w (by rfl) 27 (.tmp 3) rfl (w.heap.size + 1) rfl 27 _ _ HYZ.out Tryd.underlying27 rfl (by rw [HLY.out]; exact oid_info) ?_))
        have x0 := fun w' => run_index_k (P := Tryd.prog) Tryd.underlying46 oid_info' b 0 2 c 0 (by omega) (ii := (0 : Int)) rfl w'
        have x1 := fun w' => run_index_k (P := Tryd.prog) Tryd.underlying46 oid_info' b 0 2 c 1 (by omega) (ii := (1 : Int)) rfl w'
        simp only [Nat.zero_add, Nat.mul_zero, Nat.mul_one] at x0 x1
        have HR0 : Hid (wz.drew.rangeAt b 0 (cellsN x)) := Lib.hid (by have h := HROW.out 0 (by simp); exact h)
        have HR1 : Hid (wz.drew.rangeAt b 32 (cellsN y)) := Lib.hid (by have h := HROW.out 1 (by simp); exact h)
        have HBL2 : Hid (b < wz.drew.heap.size) := Lib.hid (HBL.out (by simp))
        have HBD := Lib.hid (below_drewN HBZ.out 1)
        refine wp_region_held (S := (fun w' => Below wz.drew.heap.size wz.drew w')) (by kernel_rfl) ?_
        change wpAnyH _ _ _ _ _ _ _ _ wz.drew
        refine wpAnyH_take (i := 0) (v := ?_) rfl (by kernel_rfl) (by kernel_rfl) (by kernel_rfl) (fun _ _ _ h => h) (Or.inl ⟨by rfl, ?_⟩) (Below.refl _ _) ?_
        rotate_left
        · intro w _; go_simp; with_reducible rfl
        try simp only [Act.put, List.getElem_toArray, List.getElem_cons_zero, List.getElem_cons_succ, List.setIfInBounds_toArray, List.set_cons_zero, List.set_cons_succ]
        refine wpAnyH_take (i := 1) (v := ?_) rfl (by kernel_rfl) (by kernel_rfl) (by kernel_rfl) (fun _ _ _ h => h) (Or.inl ⟨by rfl, ?_⟩) (Below.refl _ _) ?_
        rotate_left
        · intro w _; go_simp; with_reducible rfl
        try simp only [Act.put, List.getElem_toArray, List.getElem_cons_zero, List.getElem_cons_succ, List.setIfInBounds_toArray, List.set_cons_zero, List.set_cons_succ]
        refine wpAnyH_take (i := 2) (v := ?_) rfl (by kernel_rfl) (by kernel_rfl) (by kernel_rfl) (fun _ _ _ h => h) (Or.inl ⟨by rfl, ?_⟩) (Below.refl _ _) ?_
        rotate_left
        · intro w _; go_simp; with_reducible rfl
        try simp only [Act.put, List.getElem_toArray, List.getElem_cons_zero, List.getElem_cons_succ, List.setIfInBounds_toArray, List.set_cons_zero, List.set_cons_succ]
        refine wpAnyH_take (i := 3) (v := ?_) rfl (by kernel_rfl) (by kernel_rfl) (by kernel_rfl) (fun _ _ _ h => h) (Or.inl ⟨by rfl, ?_⟩) (Below.refl _ _) ?_
        rotate_left
        · intro w _; go_simp; with_reducible rfl
        try simp only [Act.put, List.getElem_toArray, List.getElem_cons_zero, List.getElem_cons_succ, List.setIfInBounds_toArray, List.set_cons_zero, List.set_cons_succ]
        refine wpAnyH_take (i := 4) (v := ?_) rfl (by kernel_rfl) (by kernel_rfl) (by kernel_rfl) (fun _ _ _ h => h) (Or.inl ⟨by rfl, ?_⟩) (Below.refl _ _) ?_
        rotate_left
        · intro w _; go_simp; with_reducible rfl
        try simp only [Act.put, List.getElem_toArray, List.getElem_cons_zero, List.getElem_cons_succ, List.setIfInBounds_toArray, List.set_cons_zero, List.set_cons_succ]
        refine wpAnyH_take (i := 5) (v := ?_) rfl (by kernel_rfl) (by kernel_rfl) (by kernel_rfl) (fun _ _ _ h => h) (Or.inl ⟨by rfl, ?_⟩) (Below.refl _ _) ?_
        rotate_left
        · intro w _; go_simp; with_reducible rfl
        try simp only [Act.put, List.getElem_toArray, List.getElem_cons_zero, List.getElem_cons_succ, List.setIfInBounds_toArray, List.set_cons_zero, List.set_cons_succ]
        refine wpAnyH_take (i := 6) rfl (by kernel_rfl) (by kernel_rfl) (by kernel_rfl) (fun _ _ _ h => h) (yieldsIf_load_mid (by rfl) 27 _ rfl b _ rfl (cellsN x) _ (fun w4 h => range_below HR0.out h HBL2.out) Tryd.underlying27 rfl (by rw [cellsN_len, HVx.out.1]; exact oid_info')) (Below.refl _ _) ?_
        try simp only [Act.put, List.getElem_toArray, List.getElem_cons_zero, List.getElem_cons_succ, List.setIfInBounds_toArray, List.set_cons_zero, List.set_cons_succ]
        rw [cellsN_arr]
        refine wpAnyH_take (i := 7) (v := ?_) rfl (by kernel_rfl) (by kernel_rfl) (by kernel_rfl) (fun _ _ _ h => h) (Or.inl ⟨by rfl, ?_⟩) (Below.refl _ _) ?_
        rotate_left
        · intro w _; go_simp; with_reducible rfl
        try simp only [Act.put, List.getElem_toArray, List.getElem_cons_zero, List.getElem_cons_succ, List.setIfInBounds_toArray, List.set_cons_zero, List.set_cons_succ]
        refine wpAnyH_take (i := 8) (v := ?_) rfl (by kernel_rfl) (by kernel_rfl) (by kernel_rfl) (fun _ _ _ h => h) (Or.inl ⟨by rfl, ?_⟩) (Below.refl _ _) ?_
        rotate_left
        · intro w _; go_simp; with_reducible rfl
        try simp only [Act.put, List.getElem_toArray, List.getElem_cons_zero, List.getElem_cons_succ, List.setIfInBounds_toArray, List.set_cons_zero, List.set_cons_succ]
        refine wpAnyH_take (i := 9) rfl (by kernel_rfl) (by kernel_rfl) (by kernel_rfl) (fun _ _ _ h => h) (yieldsIf_load_mid (by rfl) 27 _ rfl b _ rfl (cellsN y) _ (fun w4 h => range_below HR1.out h HBL2.out) Tryd.underlying27 rfl (by rw [cellsN_len, HVy.out.1]; exact oid_info')) (Below.refl _ _) ?_
        try simp only [Act.put, List.getElem_toArray, List.getElem_cons_zero, List.getElem_cons_succ, List.setIfInBounds_toArray, List.set_cons_zero, List.set_cons_succ]
        rw [cellsN_arr]
        refine all_one (i := 10) (by kernel_rfl) rfl (by rfl) (fun K hK => ?_)
        go_simp
        refine (rless_q true x y _ HVx.out.1 HVy.out.1 HVx.out.2 HVy.out.2 (decide_eq_true HLT.out)).mono ?_
        rintro e wt ⟨rfl, hbt⟩
        dsimp only
        refine hK _ _ (hbt) ?_; clear hK K
        try simp only [Act.put, List.getElem_toArray, List.getElem_cons_zero, List.getElem_cons_succ, List.setIfInBounds_toArray, List.set_cons_zero, List.set_cons_succ]
        have HBT := Lib.hid hbt
        clear hbt
        refine wpAnyH_take (i := 11) (v := ?_) rfl (by kernel_rfl) (by kernel_rfl) (by kernel_rfl) (fun _ _ _ h => h) (Or.inl ⟨by rfl, ?_⟩) (HBT.out) ?_
        rotate_left
        · intro w _; go_simp; with_reducible rfl
        try simp only [Act.put, List.getElem_toArray, List.getElem_cons_zero, List.getElem_cons_succ, List.setIfInBounds_toArray, List.set_cons_zero, List.set_cons_succ]
        refine wpAnyH_take (i := 12) (v := ?_) rfl (by kernel_rfl) (by kernel_rfl) (by kernel_rfl) (fun _ _ _ h => h) (Or.inl ⟨by rfl, ?_⟩) (HBT.out) ?_
        rotate_left
        · intro w _; go_simp; with_reducible rfl
        try simp only [Act.put, List.getElem_toArray, List.getElem_cons_zero, List.getElem_cons_succ, List.setIfInBounds_toArray, List.set_cons_zero, List.set_cons_succ]
        refine wpAnyH_done (by kernel_rfl) ?_ _
        go_wp2_with fail
        go_ret
        exact ⟨rfl, HBD.out.trans (HBT.out.mono HBD.out.size)⟩
end Go.Proofs.YtmfdahigfnhidaaDoor.lawOrder
