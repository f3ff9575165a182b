/- The document's own disk is written: what is done. -/
import Derived.Test.YtpmadlkkldbceaaDoorRef42
namespace Go.Proofs.YtpmadlkkldbceaaDoor
open Go Go.RowKit
theorem splice0 {bs : List Nat} (_h : bs.length ≤ 32) : splice (cellsB (List.replicate 32 0)) 0 (cellsB bs) = cellsB (padB bs) := by
  unfold splice padB
  rw [cellsB_len, Nat.zero_add, drop_zeros]
  simp [cellsB]
theorem lf_did (S : Dk.D) (i : Nat) (bs : List Nat) : Dk.lf (Dk.wr S i bs) = Dk.lf S := rfl
theorem atCells_snoc (ps : List (Nat × List Nat)) (p : Nat × List Nat) : atCells (ps ++ [p]) = atCells ps ++ [.int .i64 (p.1 : Int)] := by simp [atCells]
theorem padB_byte' {bs : List Nat} (h : Sha.Byte bs) : Sha.Byte (padB bs) := fun i => by
  unfold padB
  rw [List.getD_eq_getElem?_getD]
  by_cases hi : i < bs.length
  · rw [List.getElem?_append_left hi, ← List.getD_eq_getElem?_getD]; exact h i
  · rw [List.getElem?_append_right (by omega)]
    rcases Nat.lt_or_ge (i - bs.length) (32 - bs.length) with h1 | h1
    · rw [List.getElem?_replicate, if_pos h1]; decide
    · rw [List.getElem?_eq_none (by simp; omega)]; decide
theorem rdB_src {wa : World} {p n c : Nat} {A : Option Addr} {bs : List Nat} (hr : RdB wa p (.slice A n c) bs) (h0 : 0 < (cellsB bs).length) : ∃ ad, A = some ad ∧ ∀ j u, (cellsB bs)[j]? = some u → wa.cell? (ad.add j) = some u := by
  obtain ⟨A', c', e, hc, hx⟩ := hr
  injection e with e1 e2 e3
  subst e1
  rw [cellsB_len] at h0
  obtain ⟨b, o, rfl, _, _, hcell⟩ := hx h0
  refine ⟨_, rfl, fun j u hj => ?_⟩
  have hjl : j < bs.length := by have := (List.getElem?_eq_some_iff.1 hj).1; rwa [cellsB_len] at this
  rw [cellsB_get hjl] at hj
  rw [Addr.add_mid, hcell j hjl, hj]
/-- the box, with what stands behind it -/
structure RP (B BB : Nat) (w : World) (r : Nat) (S : Dk.D) (ps : List (Nat × List Nat)) (vS vB : Value) (us ub : List Value) (cs : Array Value) : Prop where
  blk : Blk w r 61 cs
  rs : RS B w vS us S
  rb : RB B BB w vB ub ps
section
variable {B BB : Nat} {w w' : World} {r : Nat} {S : Dk.D} {ps : List (Nat × List Nat)} {vS vA vB : Value} {us ub : List Value} {cs : Array Value} {row : Option Nat}
theorem RP.ty (h : RP B BB w r S ps vS vB us ub cs) (hg : w.grownBy w' row) {t : TypeId} (hrow : ∀ g, row = some g → ∃ c, w.heap[g]? = some (.cells c t (0, 0))) (h1 : t ≠ 32) (h2 : t ≠ 5) (h3 : t ≠ 61) : RP B BB w' r S ps vS vB us ub cs :=
  ⟨h.blk.grown hg (fun e => by obtain ⟨c, hc⟩ := hrow r e.symm; exact own_ne hc h.blk h3 rfl),
   h.rs.kept hg (fun g e => by obtain ⟨c, hc⟩ := hrow g e; exact ty_ne hc h.rs.1 h1) (fun g cs e => by obtain ⟨c, hc⟩ := hrow g e; exact no_u8 hc h2 cs),
   h.rb.kept hg (fun g e => by obtain ⟨c, hc⟩ := hrow g e; exact ty_ne hc h.rb.1 h1) (fun g cs e => by obtain ⟨c, hc⟩ := hrow g e; exact no_u8 hc h2 cs)⟩
theorem RP.alloc (h : RP B BB w r S ps vS vB us ub cs) (o : Obj) : RP B BB (w.alloc o) r S ps vS vB us ub cs :=
  h.ty (t := 0) (row := none) (World.grownBy_alloc w o none) (fun g e => by cases e) (by decide) (by decide) (by decide)
theorem RP.set (h : RP B BB w r S ps vS vB us ub cs) (k : Nat) (u : Value) : RP B BB (w.setCell ⟨r, k, none⟩ u) r S ps vS vB us ub (cs.setIfInBounds k u) := by
  have hg : w.grownBy (w.setCell ⟨r, k, none⟩ u) (some r) := set_own k u
  exact ⟨h.blk.set_ k u, h.rs.kept hg (fun g e => by injection e with e; subst e; exact ty_ne h.blk h.rs.1 (by decide)) (fun g cs e => by injection e with e; subst e; exact no_u8 h.blk (by decide) cs), h.rb.kept hg (fun g e => by injection e with e; subst e; exact ty_ne h.blk h.rb.1 (by decide)) (fun g cs e => by injection e with e; subst e; exact no_u8 h.blk (by decide) cs)⟩
theorem RefAt.rp (h : RefAt B BB w r S vS vA vB us ub) : RP B BB w r S S.pend vS vB us ub #[vS, vA, vB, .int .i64 (Dk.lf S), .bool S.off, .int .i64 (S.deeds : Int)] := ⟨h.blk, h.rs, h.rb⟩
end
section
variable {B BB : Nat} {r : Nat} {S : Dk.D} {vS vA vB : Value} {us ub : List Value}
set_option maxRecDepth 100000 in
set_option maxHeartbeats 1000000 in
theorem refwrite_ok (i : Nat) (A : Option Addr) (n c : Nat) (bs : List Nat) (w : World) (h : RefAt B BB w r S vS vA vB us ub) (hB : B ≤ w.heap.size) (ho : S.off = false) (hi : i < S.size) (hn : n ≤ 32) (hd : Dk.dead S = false) (hk : S.deeds + 1 ≤ 1000000) (hfew : S.pend.length < 1000000) (hv : RdB w r (.slice A n c) bs) (hb : Sha.Byte bs) :
    Calls Tryd.prog 12 #[.pointer (some ⟨r, 0, none⟩), .int .i64 (i : Int), .slice A n c] w fun e w' => e = .returned (.int .i64 0) ∧ (∃ vA' vB' ub', RefAt B BB w' r (Dk.wr (Dk.did S) i bs) vS vA' vB' us ub') ∧ RFr w w' (RX r vS vA vB) := by
  have p4 : w.cell? ⟨r, 4, none⟩ = some (.bool false) := by have := h.blk.cell 4; rw [ho] at this; exact this
  have CH := refhas_yes i w h hi
  have CD := refdeed_did w h hd hk
  have i0 : ¬ (32 : Int) < (n : Int) := by omega
  have HNL : Hid (bs.length = n) := Lib.hid (by obtain ⟨A', c', e, _⟩ := hv; injection e with _ e _; exact e.symm)
  have hsz : (Dk.did S).pend = S.pend := rfl
  have HV := Lib.hid hv
  have HBS := Lib.hid hB
  have HN := Lib.hid hn
  have HFEW := Lib.hid hfew
  have HBY := Lib.hid hb
  have HI := Lib.hid hi
  clear h ho hv hB hfew hb hi hn
  go_enter Tryd.func12, Tryd.ntmps12
  go_wp2_with (first
    | (go_at_call 30; refine CH.mono ?_; rintro e w' ⟨rfl, rfl⟩)
    | (go_at_call 31; refine CD.mono ?_; rintro e w1 ⟨rfl, h1, h2⟩
       have H1 := Lib.hid h1
       have H2 := Lib.hid h2
       have HZ : Hid (Blk (w1.alloc (.cells (u8s (List.replicate 32 0)) 5)) w1.heap.size 5 (u8s (List.replicate 32 0))) := Lib.hid (Blk.new w1 _ _)
       have hmk : (Instr.makeSlice 32 (.int .i64 32) (.int .i64 32)).run Tryd.prog w1 = .ok (.slice (some ⟨w1.heap.size, 0, none⟩) 32 32) (w1.alloc (.cells (u8s (List.replicate 32 0)) 5)) := run_makeOne Tryd.underlying32 byte_info rfl 32 (by omega) (by omega) rfl w1
       have HVA : Hid (RdB (w1.alloc (.cells (u8s (List.replicate 32 0)) 5)) r (.slice A n c) bs) := Lib.hid ((HV.out.only h2).only (only_alloc (World.grownBy.refl w1 _) _))
       have HBA : Hid (Below w1.heap.size w1 (w1.alloc (.cells (u8s (List.replicate 32 0)) 5))) := Lib.hid ((Below.refl _ _).alloc (Nat.le_refl _) _)
       clear h1 h2)
    | (refine wpList_copy_splice rfl (.tmp 23) (.tmp 24) 32 32 rfl 5 Tryd.underlying32 (by kernel_rfl) (some ⟨w1.heap.size, 0, none⟩) A 32 32 n c rfl rfl w1.heap.size 0 (cellsB (List.replicate 32 0)) 5 HZ.out (cellsB bs) (by rw [cellsB_len, HNL.out]; exact (Nat.min_eq_left HN.out).symm) (fun h0 => ⟨rfl, rdB_src HVA.out h0⟩) (by have := HN.out; rw [cellsB_len, HNL.out, cellsB_len]; simp; omega) (cellsB_one bs) w1.heap.size w1 HBA.out (Nat.le_refl _) ?_
       intro w3 hg3 hb3
       rw [splice0 (by rw [HNL.out]; exact HN.out)] at hg3
       have HB3 := Lib.hid hb3
       have HSZ : Hid (Blk w3 w1.heap.size 5 (u8s (padB bs))) := Lib.hid hg3.out
       have h3 := H1.out.below hb3
       have H3 := Lib.hid h3
       obtain ⟨A3, c3, eA⟩ := row_slice h3.rowA
       obtain ⟨A5, c5, eB⟩ := row_slice h3.rowB
       rw [hsz] at eA eB
       subst eA eB
       have p1 : w3.cell? ⟨r, 1, none⟩ = some (.slice A3 S.pend.length c3) := h3.blk.cell 1
       have HP3 := Lib.hid h3.rp
       have HRA : Hid ((w3.alloc (.cells #[.int .i64 (i : Int)] 3)).ownsRow B 3 1 (.slice A3 S.pend.length c3) S.pend.length (atCells S.pend)) := Lib.hid (h3.rowA.alloc _)
       have HBB : Hid (B ≤ w3.heap.size) := Lib.hid (Nat.le_trans HBS.out (Nat.le_trans H2.out.size hb3.size))
       obtain ⟨i0', hi0, hiz, his, hib⟩ := info_parts int_info
       clear hb3 hg3 h3)
    | (refine wpList_append_own _ rfl (.tmp 30) (.tmp 32) 59 rfl B 3 i0' _ 1 8 Tryd.underlying59 hi0 hiz his hib rfl (by decide) (.slice A3 S.pend.length c3) S.pend.length (atCells S.pend) rfl HRA.out ⟨w3.heap.size, 0, none⟩ 1 1 [.int .i64 (i : Int)] rfl rfl (cell_one (Blk.new w3 3 #[.int .i64 (i : Int)])) (by simp [Value.oneCell']) (by have := HFEW.out; unfold maxLen; omega) (by have := HFEW.out; omega) (Nat.le_trans HBB.out (by simp)) ?_
       intro vA' w5 hoA hgA _
       obtain ⟨A6, c6, rfl⟩ := row_slice hoA
       have hp5 : RP B BB w5 r (Dk.did S) S.pend vS (.slice A5 S.pend.length c5) us ub _ := (HP3.out.alloc (.cells #[.int .i64 (i : Int)] 3)).ty hgA (t := 3) (fun g e => own_row HRA.out e) (by decide) (by decide) (by decide)
       have HP5 := Lib.hid hp5
       have p2 : w5.cell? ⟨r, 1, none⟩ = some (.slice A3 S.pend.length c3) := hp5.blk.cell 1
       have z2 := hp5.blk.frozen 1
       have hp6 := hp5.set 1 (.slice A6 (S.pend.length + 1) c6)
       have HP6 := Lib.hid hp6
       have p3 : (w5.setCell ⟨r, 1, none⟩ (.slice A6 (S.pend.length + 1) c6)).cell? ⟨r, 2, none⟩ = some (.slice A5 S.pend.length c5) := hp6.blk.cell 2
       have HOA := Lib.hid hoA
       have HGA := Lib.hid hgA
       have HRB : Hid (((w5.setCell ⟨r, 1, none⟩ (.slice A6 (S.pend.length + 1) c6)).alloc (.cells #[.slice (some ⟨w1.heap.size, 0, none⟩) 32 32] 32)).ownsRow BB 32 1 (.slice A5 S.pend.length c5) S.pend.length ub) := Lib.hid (hp6.rb.1.alloc _)
       have hz6 : (w5.setCell ⟨r, 1, none⟩ (.slice A6 (S.pend.length + 1) c6)).heap.size = w5.heap.size := by simp [World.setCell]
       have HC1 : Hid (∀ j v, ([.slice (some ⟨w1.heap.size, 0, none⟩) 32 32] : List Value)[j]? = some v → ((w5.setCell ⟨r, 1, none⟩ (.slice A6 (S.pend.length + 1) c6)).alloc (.cells #[.slice (some ⟨w1.heap.size, 0, none⟩) 32 32] 32)).cell? ((⟨w5.heap.size, 0, none⟩ : Addr).add j) = some v) := Lib.hid (by rw [← hz6]; exact cell_one (Blk.new (w5.setCell ⟨r, 1, none⟩ (.slice A6 (S.pend.length + 1) c6)) 32 #[.slice (some ⟨w1.heap.size, 0, none⟩) 32 32]))
       have HBB2 : Hid (BB ≤ ((w5.setCell ⟨r, 1, none⟩ (.slice A6 (S.pend.length + 1) c6)).alloc (.cells #[.slice (some ⟨w1.heap.size, 0, none⟩) 32 32] 32)).heap.size) := Lib.hid (by have h1 := H3.out.bb.2; have h2 := hgA.size; simp at h2; simp [World.setCell]; omega)
       obtain ⟨i1', hi1, hiz1, his1, hib1⟩ := info_parts bsl_info
       have HZ6 := Lib.hid hz6
       clear hp5 hp6 hoA hgA hz6)
    | (refine wpList_append_own _ rfl (.tmp 40) (.tmp 42) 58 rfl BB 32 i1' _ 1 24 Tryd.underlying58 hi1 hiz1 his1 hib1 rfl (by decide) (.slice A5 S.pend.length c5) S.pend.length ub rfl HRB.out ⟨w5.heap.size, 0, none⟩ 1 1 [.slice (some ⟨w1.heap.size, 0, none⟩) 32 32] rfl rfl HC1.out (by simp [Value.oneCell']) (by have := HFEW.out; unfold maxLen; omega) (by have := HFEW.out; omega) HBB2.out ?_
       intro vB' w8 hoB hgB _
       obtain ⟨A8, c8, rfl⟩ := row_slice hoB
       have HP7 := Lib.hid (HP6.out.alloc (.cells #[.slice (some ⟨w1.heap.size, 0, none⟩) 32 32] 32))
       have hbk8 : Blk w8 r 61 _ := HP7.out.blk.grown hgB (fun e => by obtain ⟨c, hc⟩ := own_row HRB.out e.symm; exact own_ne hc HP7.out.blk (by decide) rfl)
       have HBK8 := Lib.hid hbk8
       have p5 : w8.cell? ⟨r, 2, none⟩ = some (.slice A5 S.pend.length c5) := hbk8.cell 2
       have z5 := hbk8.frozen 2
       have HOB := Lib.hid hoB
       have HGB := Lib.hid hgB
       clear hoB hgB hbk8))
  go_ret
  have g34 : w3.grownBy (w3.alloc (.cells #[.int .i64 (i : Int)] 3)) none := World.grownBy_alloc w3 _ none
  have g56 : w5.grownBy (w5.setCell ⟨r, 1, none⟩ (.slice A6 (S.pend.length + 1) c6)) (some r) := set_own 1 _
  have g67 : (w5.setCell ⟨r, 1, none⟩ (.slice A6 (S.pend.length + 1) c6)).grownBy ((w5.setCell ⟨r, 1, none⟩ (.slice A6 (S.pend.length + 1) c6)).alloc (.cells #[.slice (some ⟨w1.heap.size, 0, none⟩) 32 32] 32)) none := World.grownBy_alloc _ _ none
  have g89 : w8.grownBy (w8.setCell ⟨r, 2, none⟩ (.slice A8 (S.pend.length + 1) c8)) (some r) := set_own 2 _
  have tA : ∀ g, (Value.slice A3 S.pend.length c3).ownBlock = some g → ∃ c, (w3.alloc (.cells #[.int .i64 (i : Int)] 3)).heap[g]? = some (.cells c 3 (0, 0)) := fun g e => own_row HRA.out e
  have tB : ∀ g, (Value.slice A5 S.pend.length c5).ownBlock = some g → ∃ c, ((w5.setCell ⟨r, 1, none⟩ (.slice A6 (S.pend.length + 1) c6)).alloc (.cells #[.slice (some ⟨w1.heap.size, 0, none⟩) 32 32] 32)).heap[g]? = some (.cells c 32 (0, 0)) := fun g e => own_row HRB.out e
  have sec9 : ∀ u bs, Sec B w3 u bs → Sec B (w8.setCell ⟨r, 2, none⟩ (.slice A8 (S.pend.length + 1) c8)) u bs := fun u bs hs => by
    have h4 := hs.kept g34 (fun g cs e => by cases e)
    have h5 := h4.kept HGA.out (fun g cs e => by obtain ⟨c, hc⟩ := tA g e; exact no_u8 hc (by decide) cs)
    have h6 := h5.kept g56 (fun g cs e => by injection e with e; subst e; exact no_u8 HP5.out.blk (by decide) cs)
    have h7 := h6.kept g67 (fun g cs e => by cases e)
    have h8 := h7.kept HGB.out (fun g cs e => by obtain ⟨c, hc⟩ := tB g e; exact no_u8 hc (by decide) cs)
    exact h8.kept g89 (fun g cs e => by injection e with e; subst e; exact no_u8 HBK8.out (by decide) cs)
  have hS9 : RS B (w8.setCell ⟨r, 2, none⟩ (.slice A8 (S.pend.length + 1) c8)) vS us (Dk.did S) := by
    have h7 := HP7.out.rs
    have h8 := h7.kept HGB.out (fun g e hv => by
      have l1 := H3.out.ne g hv
      have l2 := (HRB.out.lt g e).1
      omega) (fun g cs e => by obtain ⟨c, hc⟩ := tB g e; exact no_u8 hc (by decide) cs)
    exact h8.kept g89 (fun g e => by injection e with e; subst e; exact ty_ne HBK8.out h8.1 (by decide)) (fun g cs e => by injection e with e; subst e; exact no_u8 HBK8.out (by decide) cs)
  have hA9 : (w8.setCell ⟨r, 2, none⟩ (.slice A8 (S.pend.length + 1) c8)).ownsRow B 3 1 (.slice A6 (S.pend.length + 1) c6) (S.pend.length + 1) (atCells S.pend ++ [.int .i64 (i : Int)]) := by
    have h6 := ownR_kept HOA.out g56 (fun g e => by injection e with e; subst e; exact ty_ne HP5.out.blk HOA.out (by decide))
    have h7 := ownR_kept h6 g67 (fun g e => by cases e)
    have h8 := ownR_kept h7 HGB.out (fun g e => by obtain ⟨c, hc⟩ := tB g e; exact ty_ne hc h7 (by decide))
    exact ownR_kept h8 g89 (fun g e => by injection e with e; subst e; exact ty_ne HBK8.out h8 (by decide))
  have hB9 : (w8.setCell ⟨r, 2, none⟩ (.slice A8 (S.pend.length + 1) c8)).ownsRow BB 32 1 (.slice A8 (S.pend.length + 1) c8) (S.pend.length + 1) (ub ++ [.slice (some ⟨w1.heap.size, 0, none⟩) 32 32]) := ownR_kept HOB.out g89 (fun g e => by injection e with e; subst e; exact ty_ne HBK8.out HOB.out (by decide))
  have hlen : ub.length = S.pend.length := by have := HRB.out.1; rwa [Nat.mul_one] at this
  have hnew : Sec B w3 (.slice (some ⟨w1.heap.size, 0, none⟩) 32 32) (padB bs) := ⟨w1.heap.size, rfl, Nat.le_trans HBS.out H2.out.size, HSZ.out, padB_len (by rw [HNL.out]; exact HN.out)⟩
  have hok := H1.out.ok
  refine ⟨rfl, ⟨.slice A6 (S.pend.length + 1) c6, .slice A8 (S.pend.length + 1) c8, ub ++ [.slice (some ⟨w1.heap.size, 0, none⟩) 32 32], ⟨?_, hS9.1, hS9.2, ?_, ?_, fun k p hp => ?_, H3.out.ne, ⟨H3.out.bb.1, ?_⟩, H3.out.bd, ?_⟩⟩, ?_⟩
  · have h := HBK8.out.set_ 2 (.slice A8 (S.pend.length + 1) c8)
    simp only [List.setIfInBounds_toArray, List.set_cons_zero, List.set_cons_succ] at h
    exact h
  · show (w8.setCell ⟨r, 2, none⟩ (.slice A8 (S.pend.length + 1) c8)).ownsRow B 3 1 _ (S.pend ++ [(i, padB bs)]).length (atCells (S.pend ++ [(i, padB bs)]))
    rw [List.length_append, atCells_snoc]
    exact hA9
  · show (w8.setCell ⟨r, 2, none⟩ (.slice A8 (S.pend.length + 1) c8)).ownsRow BB 32 1 _ (S.pend ++ [(i, padB bs)]).length _
    rw [List.length_append]
    exact hB9
  · have hp' : (S.pend ++ [(i, padB bs)])[k]? = some p := hp
    rcases Nat.lt_or_ge k S.pend.length with hlt | hge
    · rw [List.getElem?_append_left hlt] at hp'
      obtain ⟨u, h1, h2⟩ := H3.out.secB k p hp'
      exact ⟨u, by rw [List.getElem?_append_left (by omega)]; exact h1, sec9 _ _ h2⟩
    · rw [List.getElem?_append_right hge] at hp'
      have hk0 : k - S.pend.length = 0 := by have := (List.getElem?_eq_some_iff.1 hp').1; simp at this; omega
      rw [hk0] at hp'
      obtain rfl : (i, padB bs) = p := by simpa using hp'
      exact ⟨_, by rw [List.getElem?_append_right (by omega), show k - ub.length = 0 by omega]; rfl, sec9 _ _ hnew⟩
  · have h1 := H3.out.bb.2
    have h2 := g34.size
    have h3 := HGA.out.size
    have h4 := g56.size
    have h5 := g67.size
    have h6 := HGB.out.size
    have h7 := g89.size
    omega
  · exact ⟨hok.size, hok.len, hok.byte, fun p hp => by
      rcases List.mem_append.1 hp with hp | hp
      · exact hok.plen p hp
      · obtain rfl := List.mem_singleton.1 hp
        exact ⟨HI.out, padB_len (by rw [HNL.out]; exact HN.out), padB_byte' HBY.out⟩, by show (S.pend ++ [(i, padB bs)]).length ≤ 1000000; rw [List.length_append, List.length_singleton]; have := HFEW.out; omega, hok.left, hok.deeds⟩
  · have f1 : RFr w w1 (RX r vS (.slice A3 S.pend.length c3) (.slice A5 S.pend.length c5)) := RFr.of H2.out fun g e => Or.inl (by injection e with e; exact e.symm)
    have f2 : RFr w1 w3 (RX r vS (.slice A3 S.pend.length c3) (.slice A5 S.pend.length c5)) := RFr.of (only_of_below HB3.out none) fun g e => by cases e
    have f3 : RFr w3 (w3.alloc (.cells #[.int .i64 (i : Int)] 3)) (RX r vS (.slice A3 S.pend.length c3) (.slice A5 S.pend.length c5)) := RFr.of g34 fun g e => by cases e
    have f4 : RFr (w3.alloc (.cells #[.int .i64 (i : Int)] 3)) w5 (RX r vS (.slice A3 S.pend.length c3) (.slice A5 S.pend.length c5)) := RFr.of HGA.out fun g e => Or.inr (Or.inr (Or.inl e))
    have f5 : RFr w5 (w5.setCell ⟨r, 1, none⟩ (.slice A6 (S.pend.length + 1) c6)) (RX r vS (.slice A3 S.pend.length c3) (.slice A5 S.pend.length c5)) := RFr.of g56 fun g e => Or.inl (by injection e with e; exact e.symm)
    have f6 : RFr (w5.setCell ⟨r, 1, none⟩ (.slice A6 (S.pend.length + 1) c6)) ((w5.setCell ⟨r, 1, none⟩ (.slice A6 (S.pend.length + 1) c6)).alloc (.cells #[.slice (some ⟨w1.heap.size, 0, none⟩) 32 32] 32)) (RX r vS (.slice A3 S.pend.length c3) (.slice A5 S.pend.length c5)) := RFr.of g67 fun g e => by cases e
    have f7 : RFr ((w5.setCell ⟨r, 1, none⟩ (.slice A6 (S.pend.length + 1) c6)).alloc (.cells #[.slice (some ⟨w1.heap.size, 0, none⟩) 32 32] 32)) w8 (RX r vS (.slice A3 S.pend.length c3) (.slice A5 S.pend.length c5)) := RFr.of HGB.out fun g e => Or.inr (Or.inr (Or.inr e))
    have f8 : RFr w8 (w8.setCell ⟨r, 2, none⟩ (.slice A8 (S.pend.length + 1) c8)) (RX r vS (.slice A3 S.pend.length c3) (.slice A5 S.pend.length c5)) := RFr.of g89 fun g e => Or.inl (by injection e with e; exact e.symm)
    exact ((((((f1.trans f2 (fun _ _ h => h)).trans f3 (fun _ _ h => h)).trans f4 (fun _ _ h => h)).trans f5 (fun _ _ h => h)).trans f6 (fun _ _ h => h)).trans f7 (fun _ _ h => h)).trans f8 (fun _ _ h => h)
end
end Go.Proofs.YtpmadlkkldbceaaDoor
