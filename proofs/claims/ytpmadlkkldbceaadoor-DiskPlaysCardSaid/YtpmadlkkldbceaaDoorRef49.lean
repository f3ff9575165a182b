/- The law DiskPlays: what a disk answers, in every order. -/
import Derived.Test.YtpmadlkkldbceaaDoorRef48
import Derived.Test.YtpmadlkkldbceaaDoorLawOpenA
namespace Go.Proofs.YtpmadlkkldbceaaDoor
open Go Go.RowKit
def actCells0 : List Value := [.int .i64 0, .int .i64 0, .slice none 0 0, .slice none 0 0]
theorem act_size : (Tryd.prog.info? 35).map (·.size) = some 4 := by kernel_rfl
theorem act_one (x : ActD) : x.cells.toArray.all (·.oneCell') = true := by simp [ActD.cells, Value.oneCell']
namespace Dk
/-- what an act of DiskPlays makes of a disk -/
def actP (S : D) (x : ActD) : D := if x.kind = 0 then wst S x.n x.bs else if x.kind = 1 then syncs S else if x.kind = 2 then ast S x.n else if x.kind = 3 then cst S x.ts else S
def pst (n : Nat) (xs : List ActD) : Nat → D
  | 0 => fresh n
  | k + 1 => match xs[k]? with
    | some x => actP (pst n xs k) x
    | none => pst n xs k
end Dk
section
variable {B B' BB : Nat} {w w' : World} {d ms ml k r : Nat} {S : Dk.D} {v vS vA vB : Value} {us ub : List Value} {a : Nat → Addr}
theorem DkAt.offRow (hd : DkAt B w d S ms ml v k) (hf : Fr w w' d ms ml v) {b : Nat} {t : TypeId} {cs : Array Value} (hb : Blk w b t cs) (h1 : t ≠ 57) (h2 : t ≠ 68) : Blk w' b t cs := by
  have key : ∀ b', (b' = d ∨ b' = ms ∨ b' = ml ∨ v.ownBlock = some b') → b ≠ b' := fun b' hx e => by
    subst e
    rcases dk_rows hd hx with ⟨es, c, hm⟩ | ⟨cs', t', hc, ht⟩
    · rw [show w.heap[b]? = _ from hb] at hm; cases hm
    · exact own_ne hb hc (by rcases ht with rfl | rfl; exact h1; exact h2) rfl
  exact hb.stands (hf.block b hb.lt (key d (Or.inl rfl)) (key ms (Or.inr (Or.inl rfl))) (key ml (Or.inr (Or.inr (Or.inl rfl)))) (fun e => key b (Or.inr (Or.inr (Or.inr e.symm))) rfl))
theorem RefAt.offRow (hr : RefAt B BB w r S vS vA vB us ub) (hf : RFr w w' (RX r vS vA vB)) {b : Nat} {t : TypeId} {cs : Array Value} (hb : Blk w b t cs) (h1 : t ≠ 61) (h2 : t ≠ 32) (h3 : t ≠ 3) : Blk w' b t cs :=
  hb.stands (hf.block b hb.lt fun hx => by
    obtain ⟨cs', t', hc, ht⟩ := rx_rows hr hx
    exact own_ne hb hc (by rcases ht with rfl | rfl | rfl; exact h1; exact h2; exact h3) rfl)
theorem same_any (i : Int) (w : World) (hw : (Lit.int .i64 i).wf = true) (hd : DkAt B' w d S ms ml v k) (hr : RefAt B BB w r S vS vA vB us ub) (hS : Sents w a) :
    Calls Tryd.prog 21 #[.pointer (some ⟨d, 0, none⟩), .pointer (some ⟨r, 0, none⟩), .int .i64 i] w fun e w' => e = .returned (.bool true) ∧ Below w.heap.size w w' := by
  by_cases hi : 0 ≤ i ∧ i < (S.size : Int)
  · obtain ⟨j, rfl⟩ : ∃ j : Nat, i = j := ⟨i.toNat, by omega⟩
    cases ho : S.off with
    | true => exact same_off w hd hr hS ho (by omega)
    | false => exact same_on w hd hr hS ho (by omega)
  · cases ho : S.off with
    | true => exact same_noff w hd hr hS ho hi
    | false => exact same_non w hd hr hS ho hw hi
/-- what DiskPlays' loop keeps -/
def PI (w0 : World) (r : Nat) (wr : World) (d : Nat) (S : Dk.D) (k : Nat) : Prop :=
  ∃ B' ms ml v B BB vS vA vB us ub, DkAt B' wr d S ms ml v k ∧ w0.heap.size ≤ B' ∧ RefAt B BB wr r S vS vA vB us ub ∧ w0.heap.size ≤ B ∧ Below w0.heap.size w0 wr
theorem int_top {i : Int} (h : (Lit.int .i64 i).wf = true) : i ≤ 9223372036854775807 := by
  simp [Lit.wf, IntKind.min, IntKind.max, IntKind.signed, IntKind.bits] at h
  exact h.2
theorem sents_ne {w0 : World} (hS : Sents w0 a) (hd : DkAt B w d S ms ml v k) (hB : w0.heap.size ≤ B) : ∀ j, j < 22 → d ≠ sgs.getD j 0 := fun j hj e => by
  have h1 := (hS j hj).lt
  have h2 := (hd.lts d (Or.inl rfl)).1
  omega
end
set_option maxRecDepth 100000 in
theorem plays_big (n0 : Int) (A : Option Addr) (n c : Nat) (a : Nat → Addr) (w : World) (hS : Sents w a) (h : 60 < n) :
    Calls Tryd.prog 3 #[.int .i64 n0, .slice A n c] w fun e w' => e = .returned (.bool true) ∧ Below w.heap.size w w' := by
  have CA := alive_any a w hS
  have i1 : (60 : Int) < (n : Int) := by omega
  clear hS
  go_enter Tryd.func3, Tryd.ntmps3
  go_wp2_with (go_at_call 6; refine CA.mono ?_; rintro e w1 ⟨rfl, hb⟩; have HB := Lib.hid hb; clear hb)
  go_ret
  exact ⟨rfl, HB.out⟩
set_option maxRecDepth 100000 in
theorem plays_none (n0 : Int) (A : Option Addr) (n c : Nat) (a : Nat → Addr) (w : World) (hS : Sents w a) (h : n ≤ 60) (h0 : n0 < 2 ∨ 4096 < n0) :
    Calls Tryd.prog 3 #[.int .i64 n0, .slice A n c] w fun e w' => e = .returned (.bool true) ∧ Below w.heap.size w w' := by
  have CA := alive_any a w hS
  have i1 : ¬ (60 : Int) < (n : Int) := by omega
  have HS := Lib.hid hS
  have H0 := Lib.hid h0
  clear hS h0
  go_enter Tryd.func3, Tryd.ntmps3
  go_wp2_with (first
    | (go_at_call 6; refine CA.mono ?_; rintro e w1 ⟨rfl, hb⟩; have HB := Lib.hid hb; clear hb)
    | (go_at_call 7; refine (disk_none n0 (a 0) w1 H0.out (HS.out.below HB.out (Nat.le_refl _) 0 (by omega)).var).mono ?_; rintro e w2 ⟨rfl, m, rfl⟩; have HB2 : Hid (Below w.heap.size w (w1.drewN m)) := Lib.hid (below_drewN HB.out m); generalize w1.drewN m = w2 at HB2 ⊢)
    | (go_at_call 8; refine (refnew_none n0 w2 H0.out).mono ?_; rintro e w3 ⟨rfl, rfl⟩)
    | (go_at_call 9; refine (num_any 0 (by omega) a w2 (HS.out.below HB2.out (Nat.le_refl _))).mono ?_; rintro e w4 ⟨rfl, hb⟩; have HB4 := Lib.hid (HB2.out.trans (hb.mono HB2.out.size)); clear hb))
  go_ret
  exact ⟨rfl, HB4.out⟩
set_option maxRecDepth 100000 in
set_option maxHeartbeats 2000000 in
theorem plays_law (n0 : Nat) (A : Option Addr) (n c b o : Nat) (xs : List ActD) (a : Nat → Addr) (w : World) (hS : Sents w a) (hA : 0 < n → A = some ⟨b, o, none⟩) (hn : xs.length = n) (hx : ARow w b o xs) (h60 : n ≤ 60) (h2 : 2 ≤ n0) (h4 : n0 ≤ 4096) :
    Calls Tryd.prog 3 #[.int .i64 (n0 : Int), .slice A n c] w fun e w' => e = .returned (.bool true) ∧ Below w.heap.size w w' := by
  have CA := alive_any a w hS
  have i1 : ¬ (60 : Int) < (n : Int) := by omega
  have HS := Lib.hid hS
  have HA := Lib.hid hA
  have HN := Lib.hid hn
  have HX := Lib.hid hx
  clear hS hA hn hx
  go_enter Tryd.func3, Tryd.ntmps3
  go_wp2_with (first
    | (go_at_call 6; refine CA.mono ?_; rintro e w1 ⟨rfl, hb⟩; have HB1 := Lib.hid hb; clear hb)
    | (go_at_call 7; refine (dk_new n0 w1 h2 h4).mono ?_; rintro e w2 ⟨d0, ms, ml, rfl, hd, hb⟩
       have HD2 := Lib.hid hd
       have HB2 := Lib.hid (HB1.out.trans (hb.mono HB1.out.size))
       clear hd hb)
    | (go_at_call 8; refine (refnew_any n0 w2 h2 h4).mono ?_; rintro e w3 ⟨r, vS, us, BB, rfl, hr, hb⟩
       have HP0 : Hid (PI w r w3 d0 (Dk.pst n0 xs 0) 0) := Lib.hid ⟨_, _, _, _, _, _, _, _, _, _, _, HD2.out.below hb, HB1.out.size, hr, HB2.out.size, HB2.out.trans (hb.mono HB2.out.size)⟩
       clear hr hb))
  go_loopw [5, 42] (fun u5 j wr => ∃ k : Nat, k ≤ n ∧ j = .int .i64 k ∧ ∃ d, u5 = .pointer (some ⟨d, 0, none⟩) ∧ Hid (PI w r wr d (Dk.pst n0 xs k) k)) (fun _ j _ => n - (intOf j).toNat)
  case atStart => exact ⟨0, Nat.zero_le _, rfl, d0, rfl, HP0⟩
  case round =>
    obtain ⟨k, hk, rfl, d, rfl, HP⟩ := hrel
    obtain ⟨B', ms', ml', v, B, BBr, vSr, vA, vB, us', ub, hd, hBP, hr, hBR, hb⟩ := HP.out
    have HD := Lib.hid hd
    have HR := Lib.hid hr
    have HB := Lib.hid hb
    have HBR := Lib.hid hBR
    have HBP := hBP
    clear hd hr hb hBR hBP HP
    by_cases hlt : k < n
    · have i2 : ((k : Nat) : Int) < n := Int.ofNat_lt.2 hlt
      have i3 : (0 : Int) ≤ ((k : Nat) : Int) := Int.natCast_nonneg k
      obtain ⟨x, hxk⟩ : ∃ x, xs[k]? = some x := ⟨xs[k]'(by rw [HN.out]; exact hlt), List.getElem?_eq_getElem _⟩
      obtain rfl := HA.out (by omega)
      have HOK0 := Lib.hid (HX.out.ok x (List.mem_of_getElem? hxk))
      have HG : Hid (wr.rangeAt b (o + k * 4) x.cells) := Lib.hid (by have := (HX.out.below HB.out (Nat.le_refl _)).row k x hxk; rwa [Nat.mul_comm] at this)
      have HB1 : Hid (Blk (wr.alloc (.cells actCells0.toArray 35)) wr.heap.size 35 actCells0.toArray) := Lib.hid (Blk.new wr _ _)
      have HZ : Hid (Blk ((wr.alloc (.cells actCells0.toArray 35)).setRow wr.heap.size x.cells.toArray) wr.heap.size 35 x.cells.toArray) := Lib.hid (HB1.out.row _)
      have HBW : Hid (Below wr.heap.size wr ((wr.alloc (.cells actCells0.toArray 35)).setRow wr.heap.size x.cells.toArray)) := Lib.hid (below_row ((Below.refl _ _).alloc (Nat.le_refl _) _) (Nat.le_refl _) _)
      have HK : Hid (Dk.pst n0 xs (k + 1) = Dk.actP (Dk.pst n0 xs k) x) := Lib.hid (by show (match xs[k]? with | some x => Dk.actP (Dk.pst n0 xs k) x | none => Dk.pst n0 xs k) = _; rw [hxk])
      have HLT := Lib.hid hlt
      have HLM : Hid (k < 1000000) := Lib.hid (by omega)
      generalize hSS : Dk.pst n0 xs k = S at HD HR HK
      clear hxk hk hlt hSS
      by_cases h200 : 200 < x.l
      · have i4 : (200 : Int) < (x.l : Int) := by omega
        clear h200
        go_wp2_with (first
          | (refine wpList_load_mid rfl 35 (.tmp 44) rfl b (o + k * 4) rfl x.cells _ HG.out Tryd.underlying35 rfl act_size ?_)
          | (refine wpList_store_row rfl 35 (.tmp 9) (.tmp 45) rfl wr.heap.size x.cells.toArray rfl rfl 35 actCells0.toArray HB1.out act_size rfl (act_one x) ?_; change wpList _ _ _ _ _ ((wr.alloc (.cells actCells0.toArray 35)).setRow wr.heap.size x.cells.toArray); generalize ((wr.alloc (.cells actCells0.toArray 35)).setRow wr.heap.size x.cells.toArray) = wz at *
             have p0 : wz.cell? ⟨wr.heap.size, 0, none⟩ = some (.int .i64 x.kind) := HZ.out.cell 0
             have p1 : wz.cell? ⟨wr.heap.size, 1, none⟩ = some (.int .i64 x.n) := HZ.out.cell 1
             have p2 : wz.cell? ⟨wr.heap.size, 2, none⟩ = some (.slice x.A x.l x.c) := HZ.out.cell 2
             have p3 : wz.cell? ⟨wr.heap.size, 3, none⟩ = some (.slice x.K x.kl x.kc) := HZ.out.cell 3
             have HDZ := Lib.hid (HD.out.below HBW.out)
             have HRZ := Lib.hid (HR.out.below HBW.out)
             have HBF := Lib.hid (HB.out.trans (HBW.out.mono HB.out.size))))
        go_ret
        exact ⟨rfl, HBF.out⟩
      have i4 : ¬ (200 : Int) < (x.l : Int) := by omega
      by_cases hk0 : x.kind = 0
      · skip
        have HK2 : Hid (Dk.pst n0 xs (k + 1) = Dk.wst S x.n x.bs) := Lib.hid (by rw [HK.out, Dk.actP, if_pos hk0])
        have b0 : (x.kind == 0) = true := by rw [hk0]; rfl
        have HCD : Hid (Dk.wcode S x.n x.l ≤ 22) := Lib.hid (Dk.wcode_le _ _ _)
        clear hk0
        go_wp2_with (first
          | (refine wpList_load_mid rfl 35 (.tmp 44) rfl b (o + k * 4) rfl x.cells _ HG.out Tryd.underlying35 rfl act_size ?_)
          | (refine wpList_store_row rfl 35 (.tmp 9) (.tmp 45) rfl wr.heap.size x.cells.toArray rfl rfl 35 actCells0.toArray HB1.out act_size rfl (act_one x) ?_; change wpList _ _ _ _ _ ((wr.alloc (.cells actCells0.toArray 35)).setRow wr.heap.size x.cells.toArray); generalize ((wr.alloc (.cells actCells0.toArray 35)).setRow wr.heap.size x.cells.toArray) = wz at *
             have p0 : wz.cell? ⟨wr.heap.size, 0, none⟩ = some (.int .i64 x.kind) := HZ.out.cell 0
             have p1 : wz.cell? ⟨wr.heap.size, 1, none⟩ = some (.int .i64 x.n) := HZ.out.cell 1
             have p2 : wz.cell? ⟨wr.heap.size, 2, none⟩ = some (.slice x.A x.l x.c) := HZ.out.cell 2
             have p3 : wz.cell? ⟨wr.heap.size, 3, none⟩ = some (.slice x.K x.kl x.kc) := HZ.out.cell 3
             have HDZ := Lib.hid (HD.out.below HBW.out)
             have HRZ := Lib.hid (HR.out.below HBW.out)
             have HBF := Lib.hid (HB.out.trans (HBW.out.mono HB.out.size))))
        go_at_call 10
        refine (bytesU_any (.slice x.A x.l x.c) x.bs wz (HOK0.out.rd.below HBF.out (Nat.le_refl _)) HOK0.out.byte (by rw [HOK0.out.len]; omega)).mono ?_
        rintro e w5 ⟨v5, rfl, hm5, hb5⟩
        obtain ⟨A5, c5, rfl⟩ := hm5.len
        rw [HOK0.out.len] at hm5 ⊢
        have HM5 := Lib.hid hm5
        have HB5 := Lib.hid (HBF.out.trans (hb5.mono HBF.out.size))
        have HD5 := Lib.hid (HDZ.out.below hb5)
        have HR5 := Lib.hid (HRZ.out.below hb5)
        have HZ5 := Lib.hid (HZ.out.below hb5 HZ.out.lt)
        have HBd : Hid (Below w.heap.size w w5.drew) := Lib.hid (below_drewN HB5.out 1)
        have HDd : Hid (DkAt B' w5.drew d S ms' ml' v k) := Lib.hid (HD5.out.stands fun _ _ => rfl)
        have HRd : Hid (RefAt B BBr w5.drew r S vSr vA vB us' ub) := Lib.hid (HR5.out.stands (Nat.le_refl _) fun _ _ => rfl)
        have HMd : Hid (MarkU w5.drew (.slice A5 x.l c5) x.bs) := Lib.hid (HM5.out.stands (Nat.le_refl _) fun _ _ _ => rfl)
        have C1 := dkw_any x.n A5 x.l c5 x.bs a w5.drew HDd.out (HMd.out.rdB HDd.out) HOK0.out.byte HLM.out (HS.out.below HBd.out (Nat.le_refl _)) (sents_ne HS.out HDd.out HBP)
        clear hm5 hb5 p0 p1 p2 p3
        generalize hcd : Dk.wcode S x.n x.l = cd at HCD C1
        have HCDE := Lib.hid hcd
        clear hcd
        go_wp2_with fail
        refine wp_region_held (S := (fun w' => Blk w' wr.heap.size 35 x.cells.toArray)) (by kernel_rfl) ?_
        change wpAnyH _ _ _ _ _ _ _ _ w5.drew
        refine wpAnyH_take (i := 0) (v := ?_) rfl (by kernel_rfl) (by kernel_rfl) (by kernel_rfl) (fun _ _ _ h => h) (Or.inl ⟨by rfl, ?_⟩) (HZ5.out.drew) ?_
        rotate_left
        · intro w _; go_simp; with_reducible rfl
        try simp only [Act.put, List.getElem_toArray, List.getElem_cons_zero, List.getElem_cons_succ, List.setIfInBounds_toArray, List.set_cons_zero, List.set_cons_succ]
        refine wpAnyH_take (i := 1) (v := ?_) rfl (by kernel_rfl) (by kernel_rfl) (by kernel_rfl) (fun _ _ _ h => h) (Or.inl ⟨by rfl, ?_⟩) (HZ5.out.drew) ?_
        rotate_left
        · intro w _; go_simp; with_reducible rfl
        try simp only [Act.put, List.getElem_toArray, List.getElem_cons_zero, List.getElem_cons_succ, List.setIfInBounds_toArray, List.set_cons_zero, List.set_cons_succ]
        refine wpAnyH_take (i := 2) (v := .int .i64 x.n) rfl (by kernel_rfl) (by kernel_rfl) (by kernel_rfl) (fun _ _ _ h => h) (Or.inl ⟨by rfl, ?_⟩) (HZ5.out.drew) ?_
        · intro w' hw; have hc := Blk.cell hw 1; simp only [ActD.cells, List.getElem?_toArray, List.getElem?_cons_zero, List.getElem?_cons_succ] at hc; go_simp
        try simp only [Act.put, List.getElem_toArray, List.getElem_cons_zero, List.getElem_cons_succ, List.setIfInBounds_toArray, List.set_cons_zero, List.set_cons_succ]
        refine wpAnyH_take (i := 3) (v := ?_) rfl (by kernel_rfl) (by kernel_rfl) (by kernel_rfl) (fun _ _ _ h => h) (Or.inl ⟨by rfl, ?_⟩) (HZ5.out.drew) ?_
        rotate_left
        · intro w _; go_simp; with_reducible rfl
        try simp only [Act.put, List.getElem_toArray, List.getElem_cons_zero, List.getElem_cons_succ, List.setIfInBounds_toArray, List.set_cons_zero, List.set_cons_succ]
        refine wpAnyH_take (i := 6) (v := ?_) rfl (by kernel_rfl) (by kernel_rfl) (by kernel_rfl) (fun _ _ _ h => h) (Or.inl ⟨by rfl, ?_⟩) (HZ5.out.drew) ?_
        rotate_left
        · intro w _; go_simp; with_reducible rfl
        try simp only [Act.put, List.getElem_toArray, List.getElem_cons_zero, List.getElem_cons_succ, List.setIfInBounds_toArray, List.set_cons_zero, List.set_cons_succ]
        refine wpAnyH_take (i := 7) (v := ?_) rfl (by kernel_rfl) (by kernel_rfl) (by kernel_rfl) (fun _ _ _ h => h) (Or.inl ⟨by rfl, ?_⟩) (HZ5.out.drew) ?_
        rotate_left
        · intro w _; go_simp; with_reducible rfl
        try simp only [Act.put, List.getElem_toArray, List.getElem_cons_zero, List.getElem_cons_succ, List.setIfInBounds_toArray, List.set_cons_zero, List.set_cons_succ]
        refine wpAnyH_take (i := 8) (v := .int .i64 x.n) rfl (by kernel_rfl) (by kernel_rfl) (by kernel_rfl) (fun _ _ _ h => h) (Or.inl ⟨by rfl, ?_⟩) (HZ5.out.drew) ?_
        · intro w' hw; have hc := Blk.cell hw 1; simp only [ActD.cells, List.getElem?_toArray, List.getElem?_cons_zero, List.getElem?_cons_succ] at hc; go_simp
        try simp only [Act.put, List.getElem_toArray, List.getElem_cons_zero, List.getElem_cons_succ, List.setIfInBounds_toArray, List.set_cons_zero, List.set_cons_succ]
        refine wpAnyH_take (i := 9) (v := ?_) rfl (by kernel_rfl) (by kernel_rfl) (by kernel_rfl) (fun _ _ _ h => h) (Or.inl ⟨by rfl, ?_⟩) (HZ5.out.drew) ?_
        rotate_left
        · intro w _; go_simp; with_reducible rfl
        try simp only [Act.put, List.getElem_toArray, List.getElem_cons_zero, List.getElem_cons_succ, List.setIfInBounds_toArray, List.set_cons_zero, List.set_cons_succ]
        refine wpAnyH_take (i := 10) (v := .slice x.A x.l x.c) rfl (by kernel_rfl) (by kernel_rfl) (by kernel_rfl) (fun _ _ _ h => h) (Or.inl ⟨by rfl, ?_⟩) (HZ5.out.drew) ?_
        · intro w' hw; have hc := Blk.cell hw 2; simp only [ActD.cells, List.getElem?_toArray, List.getElem?_cons_zero, List.getElem?_cons_succ] at hc; go_simp
        try simp only [Act.put, List.getElem_toArray, List.getElem_cons_zero, List.getElem_cons_succ, List.setIfInBounds_toArray, List.set_cons_zero, List.set_cons_succ]
        refine all_one (i := 4) (by kernel_rfl) rfl (by rfl) (fun K hK => ?_)
        go_simp
        refine (C1).mono ?_
        rintro e w6 ⟨rfl, ⟨v6, hd6⟩, hf6⟩
        have HD6 := Lib.hid hd6
        have HR6 := Lib.hid (HRd.out.asideD HDd.out hf6)
        have HM6 := Lib.hid (HMd.out.asideD HDd.out hf6)
        have HZ6 := Lib.hid (HDd.out.offRow hf6 HZ5.out.drew (by decide) (by decide))
        have HB6 := Lib.hid (HDd.out.run HBP HBd.out hf6)
        clear hd6 hf6 C1
        dsimp only
        refine hK _ _ (HZ6.out) ?_; clear hK K
        try simp only [Act.put, List.getElem_toArray, List.getElem_cons_zero, List.getElem_cons_succ, List.setIfInBounds_toArray, List.set_cons_zero, List.set_cons_succ]
        refine all_one (i := 5) (by kernel_rfl) rfl (by rfl) (fun K hK => ?_)
        go_simp
        refine (num_errv cd HCD.out a w6 (HS.out.below HB6.out (Nat.le_refl _))).mono ?_
        rintro e w7 ⟨rfl, hb7⟩
        have HD7 := Lib.hid (HD6.out.below hb7)
        have HR7 := Lib.hid (HR6.out.below hb7)
        have HM7 : Hid (MarkU w7 (.slice A5 x.l c5) x.bs) := Lib.hid (HM6.out.stands hb7.size fun b' _ hx => hb7.block b' hx.lt)
        have HZ7 := Lib.hid (HZ6.out.below hb7 HZ6.out.lt)
        have HB7 := Lib.hid (HB6.out.trans (hb7.mono HB6.out.size))
        have C3 := refw_any x.n x.A x.l x.c x.bs w7 HR7.out (by have := HD5.out.deeds; have := HLM.out; omega) (by have := HD5.out.few; have := HLM.out; omega) (HOK0.out.rd.outB (Nat.le_trans HBR.out HR7.out.bd) HB7.out) HOK0.out.byte
        rw [HCDE.out] at C3
        clear hb7
        dsimp only
        refine hK _ _ (HZ7.out) ?_; clear hK K
        try simp only [Act.put, List.getElem_toArray, List.getElem_cons_zero, List.getElem_cons_succ, List.setIfInBounds_toArray, List.set_cons_zero, List.set_cons_succ]
        refine all_one (i := 11) (by kernel_rfl) rfl (by rfl) (fun K hK => ?_)
        go_simp
        refine (C3).mono ?_
        rintro e w8 ⟨rfl, ⟨vA8, vB8, ub8, hr8⟩, hf8⟩
        have HR8 := Lib.hid hr8
        have HD8 := Lib.hid (HD7.out.asideR HR7.out hf8)
        have HM8 := Lib.hid (HM7.out.asideR HR7.out hf8)
        have HZ8 := Lib.hid (HR7.out.offRow hf8 HZ7.out (by decide) (by decide) (by decide))
        have HB8 := Lib.hid (HR7.out.run HBR.out HB7.out hf8)
        clear hr8 hf8 C3
        dsimp only
        refine hK _ _ (HZ8.out) ?_; clear hK K
        try simp only [Act.put, List.getElem_toArray, List.getElem_cons_zero, List.getElem_cons_succ, List.setIfInBounds_toArray, List.set_cons_zero, List.set_cons_succ]
        refine wpAnyH_take (i := 12) (v := .bool true) rfl (by kernel_rfl) (by kernel_rfl) (by kernel_rfl) (fun _ _ _ h => h) (Or.inl ⟨by rfl, ?_⟩) (HZ8.out) ?_
        · intro w' hw; go_simp
        try simp only [Act.put, List.getElem_toArray, List.getElem_cons_zero, List.getElem_cons_succ, List.setIfInBounds_toArray, List.set_cons_zero, List.set_cons_succ]
        refine wpAnyH_take (i := 13) (v := ?_) rfl (by kernel_rfl) (by kernel_rfl) (by kernel_rfl) (fun _ _ _ h => h) (Or.inl ⟨by rfl, ?_⟩) (HZ8.out) ?_
        rotate_left
        · intro w _; go_simp; with_reducible rfl
        try simp only [Act.put, List.getElem_toArray, List.getElem_cons_zero, List.getElem_cons_succ, List.setIfInBounds_toArray, List.set_cons_zero, List.set_cons_succ]
        refine wpAnyH_take (i := 14) (v := ?_) rfl (by kernel_rfl) (by kernel_rfl) (by kernel_rfl) (fun _ _ _ h => h) (Or.inl ⟨by rfl, ?_⟩) (HZ8.out) ?_
        rotate_left
        · intro w _; go_simp; with_reducible rfl
        try simp only [Act.put, List.getElem_toArray, List.getElem_cons_zero, List.getElem_cons_succ, List.setIfInBounds_toArray, List.set_cons_zero, List.set_cons_succ]
        refine wpAnyH_take (i := 15) (v := ?_) rfl (by kernel_rfl) (by kernel_rfl) (by kernel_rfl) (fun _ _ _ h => h) (Or.inl ⟨by rfl, ?_⟩) (HZ8.out) ?_
        rotate_left
        · intro w _; go_simp; with_reducible rfl
        try simp only [Act.put, List.getElem_toArray, List.getElem_cons_zero, List.getElem_cons_succ, List.setIfInBounds_toArray, List.set_cons_zero, List.set_cons_succ]
        refine wpAnyH_take (i := 16) (v := .slice x.A x.l x.c) rfl (by kernel_rfl) (by kernel_rfl) (by kernel_rfl) (fun _ _ _ h => h) (Or.inl ⟨by rfl, ?_⟩) (HZ8.out) ?_
        · intro w' hw; have hc := Blk.cell hw 2; simp only [ActD.cells, List.getElem?_toArray, List.getElem?_cons_zero, List.getElem?_cons_succ] at hc; go_simp
        try simp only [Act.put, List.getElem_toArray, List.getElem_cons_zero, List.getElem_cons_succ, List.setIfInBounds_toArray, List.set_cons_zero, List.set_cons_succ]
        refine all_one (i := 17) (by kernel_rfl) rfl (by rfl) (fun K hK => ?_)
        go_simp
        refine (kept_any (.slice A5 x.l c5) (.slice x.A x.l x.c) x.bs w8 HM8.out.1 (HOK0.out.rd.below HB8.out (Nat.le_refl _)) (by rw [HOK0.out.len]; omega)).mono ?_
        rintro e w9 ⟨rfl, m9, rfl⟩
        have HZ9 : Hid (Blk (w8.drewN m9) wr.heap.size 35 x.cells.toArray) := Lib.hid (HZ8.out.drewN m9)
        have HD9 : Hid (DkAt B' (w8.drewN m9) d (Dk.wst S x.n x.bs) ms' ml' v6 (k + 1)) := Lib.hid (HD8.out.stands fun _ _ => rfl)
        have HR9 : Hid (RefAt B BBr (w8.drewN m9) r (Dk.wst S x.n x.bs) vSr vA8 vB8 us' ub8) := Lib.hid (HR8.out.stands (Nat.le_refl _) fun _ _ => rfl)
        have HB9 : Hid (Below w.heap.size w (w8.drewN m9)) := Lib.hid (below_drewN HB8.out m9)
        generalize w8.drewN m9 = w9 at HZ9 HD9 HR9 HB9 hK ⊢
        dsimp only
        refine hK _ _ (HZ9.out) ?_; clear hK K
        try simp only [Act.put, List.getElem_toArray, List.getElem_cons_zero, List.getElem_cons_succ, List.setIfInBounds_toArray, List.set_cons_zero, List.set_cons_succ]
        refine wpAnyH_take (i := 18) (v := ?_) rfl (by kernel_rfl) (by kernel_rfl) (by kernel_rfl) (fun _ _ _ h => h) (Or.inl ⟨by rfl, ?_⟩) (HZ9.out) ?_
        rotate_left
        · intro w _; go_simp; with_reducible rfl
        try simp only [Act.put, List.getElem_toArray, List.getElem_cons_zero, List.getElem_cons_succ, List.setIfInBounds_toArray, List.set_cons_zero, List.set_cons_succ]
        refine wpAnyH_take (i := 19) (v := ?_) rfl (by kernel_rfl) (by kernel_rfl) (by kernel_rfl) (fun _ _ _ h => h) (Or.inl ⟨by rfl, ?_⟩) (HZ9.out) ?_
        rotate_left
        · intro w _; go_simp; with_reducible rfl
        try simp only [Act.put, List.getElem_toArray, List.getElem_cons_zero, List.getElem_cons_succ, List.setIfInBounds_toArray, List.set_cons_zero, List.set_cons_succ]
        refine wpAnyH_done (by kernel_rfl) ?_ _
        have pT : w9.cell? ⟨wr.heap.size, 1, none⟩ = some (.int .i64 x.n) := HZ9.out.cell 1
        go_wp2_with fail
        go_at_call 21
        refine (same_any x.n w9 HOK0.out.nwf HD9.out HR9.out (HS.out.below HB9.out (Nat.le_refl _))).mono ?_
        rintro e w20 ⟨rfl, hb20⟩
        have HPI : Hid (PI w r w20 _ (Dk.pst n0 xs (k + 1)) (k + 1)) := Lib.hid ⟨_, _, _, _, _, _, _, _, _, _, _, by rw [HK2.out]; exact (HD9.out.below hb20).mono (Nat.le_refl _), HBP, by rw [HK2.out]; exact HR9.out.below hb20, HBR.out, HB9.out.trans (hb20.mono HB9.out.size)⟩
        clear hb20
        go_wp2_with fail
        exact ⟨⟨k + 1, HLT.out, by simp, _, rfl, HPI⟩, by have := HLT.out; simp [intOf]; omega⟩
      by_cases hk1 : x.kind = 1
      · skip
        have HK2 : Hid (Dk.pst n0 xs (k + 1) = Dk.syncs S) := Lib.hid (by rw [HK.out, Dk.actP, if_neg hk0, if_pos hk1])
        have b0 : (x.kind == 0) = false := beq_false_of_ne hk0
        have b1 : (x.kind == 1) = true := by rw [hk1]; rfl
        have HCD : Hid (Dk.scode S ≤ 22) := Lib.hid (Dk.scode_le _)
        clear hk0 hk1
        go_wp2_with (first
          | (refine wpList_load_mid rfl 35 (.tmp 44) rfl b (o + k * 4) rfl x.cells _ HG.out Tryd.underlying35 rfl act_size ?_)
          | (refine wpList_store_row rfl 35 (.tmp 9) (.tmp 45) rfl wr.heap.size x.cells.toArray rfl rfl 35 actCells0.toArray HB1.out act_size rfl (act_one x) ?_; change wpList _ _ _ _ _ ((wr.alloc (.cells actCells0.toArray 35)).setRow wr.heap.size x.cells.toArray); generalize ((wr.alloc (.cells actCells0.toArray 35)).setRow wr.heap.size x.cells.toArray) = wz at *
             have p0 : wz.cell? ⟨wr.heap.size, 0, none⟩ = some (.int .i64 x.kind) := HZ.out.cell 0
             have p1 : wz.cell? ⟨wr.heap.size, 1, none⟩ = some (.int .i64 x.n) := HZ.out.cell 1
             have p2 : wz.cell? ⟨wr.heap.size, 2, none⟩ = some (.slice x.A x.l x.c) := HZ.out.cell 2
             have p3 : wz.cell? ⟨wr.heap.size, 3, none⟩ = some (.slice x.K x.kl x.kc) := HZ.out.cell 3
             have HDZ := Lib.hid (HD.out.below HBW.out)
             have HRZ := Lib.hid (HR.out.below HBW.out)
             have HBF := Lib.hid (HB.out.trans (HBW.out.mono HB.out.size))))
        go_at_call 14
        have C1 := dks_any a wz HDZ.out HLM.out (HS.out.below HBF.out (Nat.le_refl _)) (sents_ne HS.out HDZ.out HBP)
        generalize hcd : Dk.scode S = cd at HCD C1
        have HCDE := Lib.hid hcd
        refine C1.mono ?_
        rintro e w6 ⟨rfl, ⟨v6, hd6⟩, hf6⟩
        have HD6 := Lib.hid hd6
        have HR6 := Lib.hid (HRZ.out.asideD HDZ.out (hf6 v))
        have HZ6 := Lib.hid (HDZ.out.offRow (hf6 v) HZ.out (by decide) (by decide))
        have HB6 := Lib.hid (HDZ.out.run HBP HBF.out (hf6 v))
        clear hd6 hf6 C1 hcd p0 p1 p2 p3
        go_wp2_with fail
        go_at_call 9
        refine (num_errv cd HCD.out a w6 (HS.out.below HB6.out (Nat.le_refl _))).mono ?_
        rintro e w7 ⟨rfl, hb7⟩
        have HD7 := Lib.hid (HD6.out.below hb7)
        have HR7 := Lib.hid (HR6.out.below hb7)
        have HZ7 := Lib.hid (HZ6.out.below hb7 HZ6.out.lt)
        have HB7 := Lib.hid (HB6.out.trans (hb7.mono HB6.out.size))
        have C3 := refs_any w7 HR7.out (by have := HDZ.out.deeds; have := HLM.out; omega)
        rw [HCDE.out] at C3
        clear hb7
        go_wp2_with fail
        go_at_call 15
        refine C3.mono ?_
        rintro e w8 ⟨rfl, ⟨vA8, vB8, us8, ub8, hr8⟩, hf8⟩
        have HR8 := Lib.hid hr8
        have HD8 := Lib.hid (HD7.out.asideR HR7.out hf8)
        have HZ8 := Lib.hid (HR7.out.offRow hf8 HZ7.out (by decide) (by decide) (by decide))
        have HB8 := Lib.hid (HR7.out.run HBR.out HB7.out hf8)
        clear hr8 hf8 C3
        have pT : w8.cell? ⟨wr.heap.size, 1, none⟩ = some (.int .i64 x.n) := HZ8.out.cell 1
        go_wp2_with fail
        go_at_call 21
        refine (same_any x.n w8 HOK0.out.nwf HD8.out HR8.out (HS.out.below HB8.out (Nat.le_refl _))).mono ?_
        rintro e w20 ⟨rfl, hb20⟩
        have HPI : Hid (PI w r w20 _ (Dk.pst n0 xs (k + 1)) (k + 1)) := Lib.hid ⟨_, _, _, _, _, _, _, _, _, _, _, by rw [HK2.out]; exact (HD8.out.below hb20).mono (Nat.le_refl _), HBP, by rw [HK2.out]; exact HR8.out.below hb20, HBR.out, HB8.out.trans (hb20.mono HB8.out.size)⟩
        clear hb20
        go_wp2_with fail
        exact ⟨⟨k + 1, HLT.out, by simp, _, rfl, HPI⟩, by have := HLT.out; simp [intOf]; omega⟩
      by_cases hk2 : x.kind = 2
      · skip
        have HK2 : Hid (Dk.pst n0 xs (k + 1) = Dk.ast S x.n) := Lib.hid (by rw [HK.out, Dk.actP, if_neg hk0, if_neg hk1, if_pos hk2])
        have b0 : (x.kind == 0) = false := beq_false_of_ne hk0
        have b1 : (x.kind == 1) = false := beq_false_of_ne hk1
        have b2 : (x.kind == 2) = true := by rw [hk2]; rfl
        have HCD : Hid (Dk.acode S x.n ≤ 22) := Lib.hid (Dk.acode_le _ _)
        have HNW : Hid (x.n ≤ 9223372036854775807) := Lib.hid (int_top HOK0.out.nwf)
        clear hk0 hk1 hk2
        go_wp2_with (first
          | (refine wpList_load_mid rfl 35 (.tmp 44) rfl b (o + k * 4) rfl x.cells _ HG.out Tryd.underlying35 rfl act_size ?_)
          | (refine wpList_store_row rfl 35 (.tmp 9) (.tmp 45) rfl wr.heap.size x.cells.toArray rfl rfl 35 actCells0.toArray HB1.out act_size rfl (act_one x) ?_; change wpList _ _ _ _ _ ((wr.alloc (.cells actCells0.toArray 35)).setRow wr.heap.size x.cells.toArray); generalize ((wr.alloc (.cells actCells0.toArray 35)).setRow wr.heap.size x.cells.toArray) = wz at *
             have p0 : wz.cell? ⟨wr.heap.size, 0, none⟩ = some (.int .i64 x.kind) := HZ.out.cell 0
             have p1 : wz.cell? ⟨wr.heap.size, 1, none⟩ = some (.int .i64 x.n) := HZ.out.cell 1
             have p2 : wz.cell? ⟨wr.heap.size, 2, none⟩ = some (.slice x.A x.l x.c) := HZ.out.cell 2
             have p3 : wz.cell? ⟨wr.heap.size, 3, none⟩ = some (.slice x.K x.kl x.kc) := HZ.out.cell 3
             have HDZ := Lib.hid (HD.out.below HBW.out)
             have HRZ := Lib.hid (HR.out.below HBW.out)
             have HBF := Lib.hid (HB.out.trans (HBW.out.mono HB.out.size))))
        have HBd : Hid (Below w.heap.size w wz.drew) := Lib.hid (below_drewN HBF.out 1)
        have HDd : Hid (DkAt B' wz.drew d S ms' ml' v k) := Lib.hid (HDZ.out.stands fun _ _ => rfl)
        have HRd : Hid (RefAt B BBr wz.drew r S vSr vA vB us' ub) := Lib.hid (HRZ.out.stands (Nat.le_refl _) fun _ _ => rfl)
        have C1 := dka_any x.n a wz.drew HDd.out HNW.out (HS.out.below HBd.out (Nat.le_refl _))
        generalize hcd : Dk.acode S x.n = cd at HCD C1
        have HCDE := Lib.hid hcd
        clear hcd p0 p1 p2 p3
        refine wp_region_held (S := (fun w' => Blk w' wr.heap.size 35 x.cells.toArray)) (by kernel_rfl) ?_
        change wpAnyH _ _ _ _ _ _ _ _ wz.drew
        refine wpAnyH_take (i := 0) (v := ?_) rfl (by kernel_rfl) (by kernel_rfl) (by kernel_rfl) (fun _ _ _ h => h) (Or.inl ⟨by rfl, ?_⟩) (HZ.out.drew) ?_
        rotate_left
        · intro w _; go_simp; with_reducible rfl
        try simp only [Act.put, List.getElem_toArray, List.getElem_cons_zero, List.getElem_cons_succ, List.setIfInBounds_toArray, List.set_cons_zero, List.set_cons_succ]
        refine wpAnyH_take (i := 1) (v := ?_) rfl (by kernel_rfl) (by kernel_rfl) (by kernel_rfl) (fun _ _ _ h => h) (Or.inl ⟨by rfl, ?_⟩) (HZ.out.drew) ?_
        rotate_left
        · intro w _; go_simp; with_reducible rfl
        try simp only [Act.put, List.getElem_toArray, List.getElem_cons_zero, List.getElem_cons_succ, List.setIfInBounds_toArray, List.set_cons_zero, List.set_cons_succ]
        refine wpAnyH_take (i := 2) (v := .int .i64 x.n) rfl (by kernel_rfl) (by kernel_rfl) (by kernel_rfl) (fun _ _ _ h => h) (Or.inl ⟨by rfl, ?_⟩) (HZ.out.drew) ?_
        · intro w' hw; have hc := Blk.cell hw 1; simp only [ActD.cells, List.getElem?_toArray, List.getElem?_cons_zero, List.getElem?_cons_succ] at hc; go_simp
        try simp only [Act.put, List.getElem_toArray, List.getElem_cons_zero, List.getElem_cons_succ, List.setIfInBounds_toArray, List.set_cons_zero, List.set_cons_succ]
        refine wpAnyH_take (i := 5) (v := ?_) rfl (by kernel_rfl) (by kernel_rfl) (by kernel_rfl) (fun _ _ _ h => h) (Or.inl ⟨by rfl, ?_⟩) (HZ.out.drew) ?_
        rotate_left
        · intro w _; go_simp; with_reducible rfl
        try simp only [Act.put, List.getElem_toArray, List.getElem_cons_zero, List.getElem_cons_succ, List.setIfInBounds_toArray, List.set_cons_zero, List.set_cons_succ]
        refine wpAnyH_take (i := 6) (v := ?_) rfl (by kernel_rfl) (by kernel_rfl) (by kernel_rfl) (fun _ _ _ h => h) (Or.inl ⟨by rfl, ?_⟩) (HZ.out.drew) ?_
        rotate_left
        · intro w _; go_simp; with_reducible rfl
        try simp only [Act.put, List.getElem_toArray, List.getElem_cons_zero, List.getElem_cons_succ, List.setIfInBounds_toArray, List.set_cons_zero, List.set_cons_succ]
        refine wpAnyH_take (i := 7) (v := .int .i64 x.n) rfl (by kernel_rfl) (by kernel_rfl) (by kernel_rfl) (fun _ _ _ h => h) (Or.inl ⟨by rfl, ?_⟩) (HZ.out.drew) ?_
        · intro w' hw; have hc := Blk.cell hw 1; simp only [ActD.cells, List.getElem?_toArray, List.getElem?_cons_zero, List.getElem?_cons_succ] at hc; go_simp
        try simp only [Act.put, List.getElem_toArray, List.getElem_cons_zero, List.getElem_cons_succ, List.setIfInBounds_toArray, List.set_cons_zero, List.set_cons_succ]
        refine all_one (i := 3) (by kernel_rfl) rfl (by rfl) (fun K hK => ?_)
        go_simp
        refine (C1).mono ?_
        rintro e w6 ⟨rfl, hd6, hf6⟩
        have HD6 := Lib.hid hd6
        have HR6 := Lib.hid (HRd.out.asideD HDd.out (hf6 v))
        have HZ6 := Lib.hid (HDd.out.offRow (hf6 v) HZ.out.drew (by decide) (by decide))
        have HB6 := Lib.hid (HDd.out.run HBP HBd.out (hf6 v))
        clear hd6 hf6 C1
        dsimp only
        refine hK _ _ (HZ6.out) ?_; clear hK K
        try simp only [Act.put, List.getElem_toArray, List.getElem_cons_zero, List.getElem_cons_succ, List.setIfInBounds_toArray, List.set_cons_zero, List.set_cons_succ]
        refine all_one (i := 4) (by kernel_rfl) rfl (by rfl) (fun K hK => ?_)
        go_simp
        refine (num_errv cd HCD.out a w6 (HS.out.below HB6.out (Nat.le_refl _))).mono ?_
        rintro e w7 ⟨rfl, hb7⟩
        have HD7 := Lib.hid (HD6.out.below hb7)
        have HR7 := Lib.hid (HR6.out.below hb7)
        have HZ7 := Lib.hid (HZ6.out.below hb7 HZ6.out.lt)
        have HB7 := Lib.hid (HB6.out.trans (hb7.mono HB6.out.size))
        have C3 := refa_any x.n w7 HR7.out HNW.out
        rw [HCDE.out] at C3
        clear hb7
        dsimp only
        refine hK _ _ (HZ7.out) ?_; clear hK K
        try simp only [Act.put, List.getElem_toArray, List.getElem_cons_zero, List.getElem_cons_succ, List.setIfInBounds_toArray, List.set_cons_zero, List.set_cons_succ]
        refine all_one (i := 8) (by kernel_rfl) rfl (by rfl) (fun K hK => ?_)
        go_simp
        refine (C3).mono ?_
        rintro e w8 ⟨rfl, hr8, hf8⟩
        have HR8 := Lib.hid hr8
        have HD8 := Lib.hid (HD7.out.asideR HR7.out hf8)
        have HZ8 := Lib.hid (HR7.out.offRow hf8 HZ7.out (by decide) (by decide) (by decide))
        have HB8 := Lib.hid (HR7.out.run HBR.out HB7.out hf8)
        clear hr8 hf8 C3
        dsimp only
        refine hK _ _ (HZ8.out) ?_; clear hK K
        try simp only [Act.put, List.getElem_toArray, List.getElem_cons_zero, List.getElem_cons_succ, List.setIfInBounds_toArray, List.set_cons_zero, List.set_cons_succ]
        refine wpAnyH_take (i := 9) (v := .bool true) rfl (by kernel_rfl) (by kernel_rfl) (by kernel_rfl) (fun _ _ _ h => h) (Or.inl ⟨by rfl, ?_⟩) (HZ8.out) ?_
        · intro w' hw; go_simp
        try simp only [Act.put, List.getElem_toArray, List.getElem_cons_zero, List.getElem_cons_succ, List.setIfInBounds_toArray, List.set_cons_zero, List.set_cons_succ]
        refine wpAnyH_take (i := 10) (v := ?_) rfl (by kernel_rfl) (by kernel_rfl) (by kernel_rfl) (fun _ _ _ h => h) (Or.inl ⟨by rfl, ?_⟩) (HZ8.out) ?_
        rotate_left
        · intro w _; go_simp; with_reducible rfl
        try simp only [Act.put, List.getElem_toArray, List.getElem_cons_zero, List.getElem_cons_succ, List.setIfInBounds_toArray, List.set_cons_zero, List.set_cons_succ]
        refine wpAnyH_done (by kernel_rfl) ?_ _
        have pT : w8.cell? ⟨wr.heap.size, 1, none⟩ = some (.int .i64 x.n) := HZ8.out.cell 1
        go_wp2_with fail
        go_at_call 21
        refine (same_any x.n w8 HOK0.out.nwf HD8.out HR8.out (HS.out.below HB8.out (Nat.le_refl _))).mono ?_
        rintro e w20 ⟨rfl, hb20⟩
        have HPI : Hid (PI w r w20 _ (Dk.pst n0 xs (k + 1)) (k + 1)) := Lib.hid ⟨_, _, _, _, _, _, _, _, _, _, _, by rw [HK2.out]; exact (HD8.out.below hb20).mono (Nat.le_succ k), HBP, by rw [HK2.out]; exact HR8.out.below hb20, HBR.out, HB8.out.trans (hb20.mono HB8.out.size)⟩
        clear hb20
        go_wp2_with fail
        exact ⟨⟨k + 1, HLT.out, by simp, _, rfl, HPI⟩, by have := HLT.out; simp [intOf]; omega⟩
      by_cases hk3 : x.kind = 3
      · skip
        have HK2 : Hid (Dk.pst n0 xs (k + 1) = Dk.cst S x.ts) := Lib.hid (by rw [HK.out, Dk.actP, if_neg hk0, if_neg hk1, if_neg hk2, if_pos hk3])
        have b0 : (x.kind == 0) = false := beq_false_of_ne hk0
        have b1 : (x.kind == 1) = false := beq_false_of_ne hk1
        have b2 : (x.kind == 2) = false := beq_false_of_ne hk2
        have b3 : (x.kind == 3) = true := by rw [hk3]; rfl
        clear hk0 hk1 hk2 hk3
        go_wp2_with (first
          | (refine wpList_load_mid rfl 35 (.tmp 44) rfl b (o + k * 4) rfl x.cells _ HG.out Tryd.underlying35 rfl act_size ?_)
          | (refine wpList_store_row rfl 35 (.tmp 9) (.tmp 45) rfl wr.heap.size x.cells.toArray rfl rfl 35 actCells0.toArray HB1.out act_size rfl (act_one x) ?_; change wpList _ _ _ _ _ ((wr.alloc (.cells actCells0.toArray 35)).setRow wr.heap.size x.cells.toArray); generalize ((wr.alloc (.cells actCells0.toArray 35)).setRow wr.heap.size x.cells.toArray) = wz at *
             have p0 : wz.cell? ⟨wr.heap.size, 0, none⟩ = some (.int .i64 x.kind) := HZ.out.cell 0
             have p1 : wz.cell? ⟨wr.heap.size, 1, none⟩ = some (.int .i64 x.n) := HZ.out.cell 1
             have p2 : wz.cell? ⟨wr.heap.size, 2, none⟩ = some (.slice x.A x.l x.c) := HZ.out.cell 2
             have p3 : wz.cell? ⟨wr.heap.size, 3, none⟩ = some (.slice x.K x.kl x.kc) := HZ.out.cell 3
             have HDZ := Lib.hid (HD.out.below HBW.out)
             have HRZ := Lib.hid (HR.out.below HBW.out)
             have HBF := Lib.hid (HB.out.trans (HBW.out.mono HB.out.size))))
        have HBd : Hid (Below w.heap.size w wz.drew) := Lib.hid (below_drewN HBF.out 1)
        have HDd : Hid (DkAt B' wz.drew d S ms' ml' v k) := Lib.hid (HDZ.out.stands fun _ _ => rfl)
        have HRd : Hid (RefAt B BBr wz.drew r S vSr vA vB us' ub) := Lib.hid (HRZ.out.stands (Nat.le_refl _) fun _ _ => rfl)
        have C1 := dkc_any x.K x.kl x.kc x.ts wz.drew HDd.out HOK0.out.tlen (rdT_below HOK0.out.ts HBd.out (Nat.le_refl _)) (by have := HLM.out; omega)
        generalize hcd : ((keptTo S.pend x.ts S.pend.length).length : Int) = cd at C1
        have HCDE := Lib.hid hcd
        clear hcd p0 p1 p2 p3
        refine wp_region_held (S := (fun w' => Blk w' wr.heap.size 35 x.cells.toArray)) (by kernel_rfl) ?_
        change wpAnyH _ _ _ _ _ _ _ _ wz.drew
        refine wpAnyH_take (i := 0) (v := ?_) rfl (by kernel_rfl) (by kernel_rfl) (by kernel_rfl) (fun _ _ _ h => h) (Or.inl ⟨by rfl, ?_⟩) (HZ.out.drew) ?_
        rotate_left
        · intro w _; go_simp; with_reducible rfl
        try simp only [Act.put, List.getElem_toArray, List.getElem_cons_zero, List.getElem_cons_succ, List.setIfInBounds_toArray, List.set_cons_zero, List.set_cons_succ]
        refine wpAnyH_take (i := 1) (v := ?_) rfl (by kernel_rfl) (by kernel_rfl) (by kernel_rfl) (fun _ _ _ h => h) (Or.inl ⟨by rfl, ?_⟩) (HZ.out.drew) ?_
        rotate_left
        · intro w _; go_simp; with_reducible rfl
        try simp only [Act.put, List.getElem_toArray, List.getElem_cons_zero, List.getElem_cons_succ, List.setIfInBounds_toArray, List.set_cons_zero, List.set_cons_succ]
        refine wpAnyH_take (i := 2) (v := .slice x.K x.kl x.kc) rfl (by kernel_rfl) (by kernel_rfl) (by kernel_rfl) (fun _ _ _ h => h) (Or.inl ⟨by rfl, ?_⟩) (HZ.out.drew) ?_
        · intro w' hw; have hc := Blk.cell hw 3; simp only [ActD.cells, List.getElem?_toArray, List.getElem?_cons_zero, List.getElem?_cons_succ] at hc; go_simp
        try simp only [Act.put, List.getElem_toArray, List.getElem_cons_zero, List.getElem_cons_succ, List.setIfInBounds_toArray, List.set_cons_zero, List.set_cons_succ]
        refine wpAnyH_take (i := 4) (v := ?_) rfl (by kernel_rfl) (by kernel_rfl) (by kernel_rfl) (fun _ _ _ h => h) (Or.inl ⟨by rfl, ?_⟩) (HZ.out.drew) ?_
        rotate_left
        · intro w _; go_simp; with_reducible rfl
        try simp only [Act.put, List.getElem_toArray, List.getElem_cons_zero, List.getElem_cons_succ, List.setIfInBounds_toArray, List.set_cons_zero, List.set_cons_succ]
        refine wpAnyH_take (i := 5) (v := ?_) rfl (by kernel_rfl) (by kernel_rfl) (by kernel_rfl) (fun _ _ _ h => h) (Or.inl ⟨by rfl, ?_⟩) (HZ.out.drew) ?_
        rotate_left
        · intro w _; go_simp; with_reducible rfl
        try simp only [Act.put, List.getElem_toArray, List.getElem_cons_zero, List.getElem_cons_succ, List.setIfInBounds_toArray, List.set_cons_zero, List.set_cons_succ]
        refine wpAnyH_take (i := 6) (v := .slice x.K x.kl x.kc) rfl (by kernel_rfl) (by kernel_rfl) (by kernel_rfl) (fun _ _ _ h => h) (Or.inl ⟨by rfl, ?_⟩) (HZ.out.drew) ?_
        · intro w' hw; have hc := Blk.cell hw 3; simp only [ActD.cells, List.getElem?_toArray, List.getElem?_cons_zero, List.getElem?_cons_succ] at hc; go_simp
        try simp only [Act.put, List.getElem_toArray, List.getElem_cons_zero, List.getElem_cons_succ, List.setIfInBounds_toArray, List.set_cons_zero, List.set_cons_succ]
        refine all_one (i := 3) (by kernel_rfl) rfl (by rfl) (fun K hK => ?_)
        go_simp
        refine (C1).mono ?_
        rintro e w6 ⟨rfl, ⟨v6, hd6⟩, hf6⟩
        have HD6 := Lib.hid hd6
        have HR6 := Lib.hid (HRd.out.asideD HDd.out (hf6 v))
        have HZ6 := Lib.hid (HDd.out.offRow (hf6 v) HZ.out.drew (by decide) (by decide))
        have HB6 := Lib.hid (HDd.out.run HBP HBd.out (hf6 v))
        have C3 := refc_any x.K x.kl x.kc x.ts w6 HR6.out HOK0.out.tlen (rdT_below HOK0.out.ts HB6.out (Nat.le_refl _)) (fun h0 ad e => by obtain ⟨b2, o2, e2, hl2, _⟩ := HOK0.out.ts h0; rw [e2] at e; injection e with e; subst e; exact Nat.lt_of_lt_of_le hl2 HBR.out)
        rw [HCDE.out] at C3
        clear hd6 hf6 C1
        dsimp only
        refine hK _ _ (HZ6.out) ?_; clear hK K
        try simp only [Act.put, List.getElem_toArray, List.getElem_cons_zero, List.getElem_cons_succ, List.setIfInBounds_toArray, List.set_cons_zero, List.set_cons_succ]
        refine all_one (i := 7) (by kernel_rfl) rfl (by rfl) (fun K hK => ?_)
        go_simp
        refine (C3).mono ?_
        rintro e w8 ⟨rfl, ⟨vA8, vB8, us8, ub8, hr8⟩, hf8⟩
        have HR8 := Lib.hid hr8
        have HD8 := Lib.hid (HD6.out.asideR HR6.out hf8)
        have HZ8 := Lib.hid (HR6.out.offRow hf8 HZ6.out (by decide) (by decide) (by decide))
        have HB8 := Lib.hid (HR6.out.run HBR.out HB6.out hf8)
        clear hr8 hf8 C3
        dsimp only
        refine hK _ _ (HZ8.out) ?_; clear hK K
        try simp only [Act.put, List.getElem_toArray, List.getElem_cons_zero, List.getElem_cons_succ, List.setIfInBounds_toArray, List.set_cons_zero, List.set_cons_succ]
        refine wpAnyH_take (i := 8) (v := .bool true) rfl (by kernel_rfl) (by kernel_rfl) (by kernel_rfl) (fun _ _ _ h => h) (Or.inl ⟨by rfl, ?_⟩) (HZ8.out) ?_
        · intro w' hw; go_simp
        try simp only [Act.put, List.getElem_toArray, List.getElem_cons_zero, List.getElem_cons_succ, List.setIfInBounds_toArray, List.set_cons_zero, List.set_cons_succ]
        refine wpAnyH_take (i := 9) (v := ?_) rfl (by kernel_rfl) (by kernel_rfl) (by kernel_rfl) (fun _ _ _ h => h) (Or.inl ⟨by rfl, ?_⟩) (HZ8.out) ?_
        rotate_left
        · intro w _; go_simp; with_reducible rfl
        try simp only [Act.put, List.getElem_toArray, List.getElem_cons_zero, List.getElem_cons_succ, List.setIfInBounds_toArray, List.set_cons_zero, List.set_cons_succ]
        refine wpAnyH_done (by kernel_rfl) ?_ _
        have pT : w8.cell? ⟨wr.heap.size, 1, none⟩ = some (.int .i64 x.n) := HZ8.out.cell 1
        go_wp2_with fail
        go_at_call 21
        refine (same_any x.n w8 HOK0.out.nwf HD8.out HR8.out (HS.out.below HB8.out (Nat.le_refl _))).mono ?_
        rintro e w20 ⟨rfl, hb20⟩
        have HPI : Hid (PI w r w20 _ (Dk.pst n0 xs (k + 1)) (k + 1)) := Lib.hid ⟨_, _, _, _, _, _, _, _, _, _, _, by rw [HK2.out]; exact (HD8.out.below hb20).mono (Nat.le_succ k), HBP, by rw [HK2.out]; exact HR8.out.below hb20, HBR.out, HB8.out.trans (hb20.mono HB8.out.size)⟩
        clear hb20
        go_wp2_with fail
        exact ⟨⟨k + 1, HLT.out, by simp, _, rfl, HPI⟩, by have := HLT.out; simp [intOf]; omega⟩
      · skip
        have HK2 : Hid (Dk.pst n0 xs (k + 1) = S) := Lib.hid (by rw [HK.out, Dk.actP, if_neg hk0, if_neg hk1, if_neg hk2, if_neg hk3])
        have b0 : (x.kind == 0) = false := beq_false_of_ne hk0
        have b1 : (x.kind == 1) = false := beq_false_of_ne hk1
        have b2 : (x.kind == 2) = false := beq_false_of_ne hk2
        have b3 : (x.kind == 3) = false := beq_false_of_ne hk3
        have q2 := conv_const
        clear hk0 hk1 hk2 hk3
        go_wp2_with (first
          | (refine wpList_load_mid rfl 35 (.tmp 44) rfl b (o + k * 4) rfl x.cells _ HG.out Tryd.underlying35 rfl act_size ?_)
          | (refine wpList_store_row rfl 35 (.tmp 9) (.tmp 45) rfl wr.heap.size x.cells.toArray rfl rfl 35 actCells0.toArray HB1.out act_size rfl (act_one x) ?_; change wpList _ _ _ _ _ ((wr.alloc (.cells actCells0.toArray 35)).setRow wr.heap.size x.cells.toArray); generalize ((wr.alloc (.cells actCells0.toArray 35)).setRow wr.heap.size x.cells.toArray) = wz at *
             have p0 : wz.cell? ⟨wr.heap.size, 0, none⟩ = some (.int .i64 x.kind) := HZ.out.cell 0
             have p1 : wz.cell? ⟨wr.heap.size, 1, none⟩ = some (.int .i64 x.n) := HZ.out.cell 1
             have p2 : wz.cell? ⟨wr.heap.size, 2, none⟩ = some (.slice x.A x.l x.c) := HZ.out.cell 2
             have p3 : wz.cell? ⟨wr.heap.size, 3, none⟩ = some (.slice x.K x.kl x.kc) := HZ.out.cell 3
             have HDZ := Lib.hid (HD.out.below HBW.out)
             have HRZ := Lib.hid (HR.out.below HBW.out)
             have HBF := Lib.hid (HB.out.trans (HBW.out.mono HB.out.size))))
        go_at_call 20
        refine (dk_copy wz HDZ.out).mono ?_
        rintro e w5 ⟨cp, m2, l2, v2, rfl, hc5, hb5⟩
        have HC5 := Lib.hid hc5
        have HD5 := Lib.hid (HDZ.out.below hb5)
        have HR5 := Lib.hid (HRZ.out.below hb5)
        have HZ5 := Lib.hid (HZ.out.below hb5 HZ.out.lt)
        have HB5 := Lib.hid (HBF.out.trans (hb5.mono HBF.out.size))
        have HLO : Hid (∀ b, (b = d ∨ b = ms' ∨ b = ml' ∨ v.ownBlock = some b) → b < wz.heap.size) := Lib.hid fun b hb => (HDZ.out.lts b hb).2
        clear hc5 hb5 p0 p1 p2 p3
        go_wp2_with fail
        go_at_call 11
        have hbl : Below w5.heap.size w5 (w5.alloc (.cells (u8s [111, 108, 100]) 5 (3, 4))) := (Below.refl _ _).alloc (Nat.le_refl _) _
        have HB6 : Hid (Below w.heap.size w (w5.alloc (.cells (u8s [111, 108, 100]) 5 (3, 4)))) := Lib.hid (HB5.out.trans (hbl.mono HB5.out.size))
        have HC6 := Lib.hid (HC5.out.below hbl)
        have HD6 := Lib.hid (HD5.out.below hbl)
        have HR6 := Lib.hid (HR5.out.below hbl)
        have HZ6 := Lib.hid (HZ5.out.below hbl HZ5.out.lt)
        have C1 := dkw_any 0 (some ⟨w5.heap.size, 0, none⟩) 3 3 [111, 108, 100] a (w5.alloc (.cells (u8s [111, 108, 100]) 5 (3, 4))) HD6.out (rdB_marked w5 [111, 108, 100] 5 (3, 4) d 3 (HD5.out.lts d (Or.inl rfl)).2 (by simp)) (fun i => by rcases i with _ | _ | _ | i <;> simp <;> omega) HLM.out (HS.out.below HB6.out (Nat.le_refl _)) (sents_ne HS.out HD6.out HBP)
        generalize Dk.wcode S 0 3 = cd at C1
        refine C1.mono ?_
        rintro e w7 ⟨rfl, ⟨v7, hd7⟩, hf7⟩
        have HD7 := Lib.hid hd7
        have HR7 := Lib.hid (HR6.out.asideD HD6.out hf7)
        have HZ7 := Lib.hid (HD6.out.offRow hf7 HZ6.out (by decide) (by decide))
        have HB7 := Lib.hid (HD6.out.run HBP HB6.out hf7)
        have HC7 := Lib.hid (HD6.out.aside HC6.out hf7 ⟨HLO.out d (Or.inl rfl), HLO.out ms' (Or.inr (Or.inl rfl)), HLO.out ml' (Or.inr (Or.inr (Or.inl rfl)))⟩ (by
          cases hv2 : v2.ownBlock with
          | none => exact Or.inl rfl
          | some g =>
            refine Or.inr fun e2 => ?_
            have h3 := HLO.out g (Or.inr (Or.inr (Or.inr e2.symm)))
            have h4 := (HC5.out.lts g (Or.inr (Or.inr (Or.inr hv2)))).1
            omega))
        clear hd7 hf7 C1 hbl
        go_wp2_with fail
        go_at_call 14
        have C2 := dks_any a w7 HD7.out (by omega) (HS.out.below HB7.out (Nat.le_refl _)) (sents_ne HS.out HD7.out HBP)
        generalize Dk.scode (Dk.wst S 0 [111, 108, 100]) = cd2 at C2
        refine C2.mono ?_
        rintro e w8 ⟨rfl, ⟨v8, hd8⟩, hf8⟩
        have HR8 := Lib.hid (HR7.out.asideD HD7.out (hf8 v7))
        have HZ8 := Lib.hid (HD7.out.offRow (hf8 v7) HZ7.out (by decide) (by decide))
        have HB8 := Lib.hid (HD7.out.run HBP HB7.out (hf8 v7))
        have HC8 : Hid (DkAt wz.heap.size w8 cp S m2 l2 v2 k) := Lib.hid (HC7.out.stands fun b hb => by
          have l1 := HC7.out.lts b hb
          have a1 := HLO.out d (Or.inl rfl)
          have a2 := HLO.out ms' (Or.inr (Or.inl rfl))
          have a3 := HLO.out ml' (Or.inr (Or.inr (Or.inl rfl)))
          exact (hf8 (.slice none 0 0)).block b l1.2 (by omega) (by omega) (by omega) (by simp [Value.ownBlock]))
        clear hd8 hf8 C2
        have pT : w8.cell? ⟨wr.heap.size, 1, none⟩ = some (.int .i64 x.n) := HZ8.out.cell 1
        go_wp2_with fail
        go_at_call 21
        refine (same_any x.n w8 HOK0.out.nwf HC8.out HR8.out (HS.out.below HB8.out (Nat.le_refl _))).mono ?_
        rintro e w20 ⟨rfl, hb20⟩
        have HPI : Hid (PI w r w20 _ (Dk.pst n0 xs (k + 1)) (k + 1)) := Lib.hid ⟨_, _, _, _, _, _, _, _, _, _, _, by rw [HK2.out]; exact (HC8.out.below hb20).mono (Nat.le_succ k), HBF.out.size, by rw [HK2.out]; exact HR8.out.below hb20, HBR.out, HB8.out.trans (hb20.mono HB8.out.size)⟩
        clear hb20
        go_wp2_with fail
        exact ⟨⟨k + 1, HLT.out, by simp, _, rfl, HPI⟩, by have := HLT.out; simp [intOf]; omega⟩
    · obtain rfl : n = k := by omega
      have i5 : ¬ ((n : Nat) : Int) < n := by omega
      have HBX := HB.out
      clear hk hlt
      go_wp2
      go_ret
      exact ⟨rfl, HBX⟩
theorem plays_all (n0 : Int) (A : Option Addr) (n c b o : Nat) (xs : List ActD) (a : Nat → Addr) (w : World) (hS : Sents w a) (hA : 0 < n → A = some ⟨b, o, none⟩) (hn : xs.length = n) (hx : ARow w b o xs) :
    Calls Tryd.prog 3 #[.int .i64 n0, .slice A n c] w fun e w' => e = .returned (.bool true) ∧ Below w.heap.size w w' := by
  by_cases h60 : 60 < n
  · exact plays_big n0 A n c a w hS h60
  by_cases h0 : n0 < 2 ∨ 4096 < n0
  · exact plays_none n0 A n c a w hS (by omega) h0
  obtain ⟨m, rfl⟩ : ∃ m : Nat, n0 = m := ⟨n0.toNat, by omega⟩
  exact plays_law m A n c b o xs a w hS hA hn hx (by omega) (by omega) (by omega)
end Go.Proofs.YtpmadlkkldbceaaDoor
