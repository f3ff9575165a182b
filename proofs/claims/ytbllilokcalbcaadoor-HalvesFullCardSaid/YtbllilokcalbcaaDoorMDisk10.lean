/- The power fails and comes again ((*Disk).Crash). -/
import Derived.Test.YtbllilokcalbcaaDoorMDisk9
namespace Go.Proofs.YtbllilokcalbcaaDoor
open Go Go.RowKit
/-- a slice of bools that the caller holds -/
def RdT (w : World) (A : Option Addr) (ts : List Bool) : Prop := 0 < ts.length → ∃ b o, A = some ⟨b, o, none⟩ ∧ b < w.heap.size ∧ ∀ (j : Nat) (t : Bool), ts[j]? = some t → w.cell? ⟨b, o + j, none⟩ = some (.bool t)
/-- the first k writes that are kept -/
def keptTo (ps : List (Nat × List Nat)) (ts : List Bool) : Nat → List (Nat × List Nat)
  | 0 => []
  | k + 1 => keptTo ps ts k ++ (match ps[k]? with | some p => if ts.getD k false then [p] else [] | none => [])
theorem keptTo_no {ps : List (Nat × List Nat)} {ts : List Bool} {k : Nat} {p : Nat × List Nat} (hp : ps[k]? = some p) (ht : ts.getD k false = false) : keptTo ps ts (k + 1) = keptTo ps ts k := by
  simp only [keptTo, hp, ht]; simp
theorem keptTo_yes {ps : List (Nat × List Nat)} {ts : List Bool} {k : Nat} {p : Nat × List Nat} (hp : ps[k]? = some p) (ht : ts.getD k false = true) : keptTo ps ts (k + 1) = keptTo ps ts k ++ [p] := by
  simp only [keptTo, hp, ht]; simp
theorem keptTo_mem {ps : List (Nat × List Nat)} {ts : List Bool} : ∀ (k : Nat), ∀ p ∈ keptTo ps ts k, p ∈ ps
  | 0, p, h => by cases h
  | k + 1, p, h => by
    unfold keptTo at h
    rcases List.mem_append.1 h with h | h
    · exact keptTo_mem k p h
    · split at h
      · rename_i q hq
        split at h
        · obtain rfl := List.mem_singleton.1 h; exact List.mem_of_getElem? hq
        · cases h
      · cases h
theorem keptTo_len {ps : List (Nat × List Nat)} {ts : List Bool} : ∀ (k : Nat), (keptTo ps ts k).length ≤ k
  | 0 => Nat.le_refl _
  | k + 1 => by
    have := @keptTo_len ps ts k
    unfold keptTo
    rw [List.length_append]
    have h2 : (match ps[k]? with | some p => if ts.getD k false then [p] else [] | none => []).length ≤ 1 := by split; split <;> simp; simp
    omega
theorem cellsW_snoc (ps : List (Nat × List Nat)) (p : Nat × List Nat) : cellsW (ps ++ [p]) = cellsW ps ++ wcells p.1 p.2 := by simp [cellsW, wcells]
section
variable {B : Nat} {d ms ml c1 c2 : Nat} {S : Dk.D} {v : Value} {fS : Int → Option Value}
/-- the disk behind a crash -/
def Dk.crashed (S : Dk.D) (ks : List (Nat × List Nat)) : Dk.D := { Dk.puts S ks with pend := [], off := false, armed := false, left := 0 }
theorem crash_end {w : World} {ks : List (Nat × List Nat)} (h : DiskAt B w d { Dk.puts S ks with pend := [] } ms ml v c1 c2 fS) :
    DiskAt B (((w.setCell ⟨d, 4, none⟩ (.bool false)).setCell ⟨d, 5, none⟩ (.bool false)).setCell ⟨d, 6, none⟩ (.int .i64 0)) d (Dk.crashed S ks) ms ml v c1 c2 fS ∧ w.grownBy (((w.setCell ⟨d, 4, none⟩ (.bool false)).setCell ⟨d, 5, none⟩ (.bool false)).setCell ⟨d, 6, none⟩ (.int .i64 0)) (some d) := by
  have hg : w.grownBy (((w.setCell ⟨d, 4, none⟩ (.bool false)).setCell ⟨d, 5, none⟩ (.bool false)).setCell ⟨d, 6, none⟩ (.int .i64 0)) (some d) := only_trans (only_trans (set_own 4 _) (set_own 5 _)) (set_own 6 _)
  have hb := ((h.blk.set_ 4 (.bool false)).set_ 5 (.bool false)).set_ 6 (.int .i64 0)
  simp only [List.setIfInBounds_toArray, List.set_cons_zero, List.set_cons_succ] at hb
  exact ⟨h.sw rfl rfl rfl (Nat.zero_le _) h.ok.deeds hb hg, hg⟩
set_option maxRecDepth 100000 in
set_option maxHeartbeats 1000000 in
theorem crash_any (A : Option Addr) (n c : Nat) (ts : List Bool) (w : World) (h : DiskAt B w d S ms ml v c1 c2 fS) (hn : ts.length = n) (hr : RdT w A ts) (hc : c1 + S.pend.length < 1000000000) :
    Calls Tryd.prog 17 #[.pointer (some ⟨d, 0, none⟩), .slice A n c] w fun e w' => e = .returned (.int .i64 ((keptTo S.pend ts S.pend.length).length : Int)) ∧ (∃ fS', DiskAt B w' d (Dk.crashed S (keptTo S.pend ts S.pend.length)) ms ml (.slice none 0 0) (c1 + (keptTo S.pend ts S.pend.length).length) c2 fS') ∧ ∀ u, Fr w w' d ms ml u := by
  obtain ⟨A0, c0, ev0⟩ := row_slice h.row
  have p2 : w.cell? ⟨d, 2, none⟩ = some (.slice A0 S.pend.length c0) := by rw [← ev0]; exact h.blk.cell 2
  have HRW : Hid (RdK w ms A0 S.pend) := Lib.hid (row_rd (by have := h.row; rwa [ev0] at this) (fun p hp => (h.ok.plen p hp).2.1) (by have := h.rowNe.2.1; rwa [ev0] at this))
  have HD := Lib.hid h
  have HR := Lib.hid hr
  have HN := Lib.hid hn
  have hfew := h.ok.few
  have HEV := Lib.hid ev0
  have HQ0 : Hid (Below w.heap.size w w ∧ w.ownsRow w.heap.size 72 33 (.slice none 0 0) (keptTo S.pend ts 0).length (cellsW (keptTo S.pend ts 0))) := Lib.hid ⟨Below.refl _ _, by simp [cellsW, keptTo], Or.inl ⟨rfl, rfl⟩⟩
  clear h hr hn ev0
  go_enter Tryd.func17, Tryd.ntmps17
  go_wp2
  go_loopw [5, 13] (fun u i wr => ∃ k : Nat, k ≤ S.pend.length ∧ i = .int .i64 k ∧ Hid (Below w.heap.size w wr ∧ wr.ownsRow w.heap.size 72 33 u (keptTo S.pend ts k).length (cellsW (keptTo S.pend ts k)))) (fun _ i _ => S.pend.length - (intOf i).toNat)
  case atStart => exact ⟨0, Nat.zero_le _, rfl, HQ0⟩
  case round =>
    obtain ⟨k, hk, rfl, HQ⟩ := hrel
    by_cases hlt : k < S.pend.length
    · obtain ⟨g, rfl, hgl, hgm, hgr⟩ := HRW.out (by omega)
      obtain ⟨p, hp⟩ : ∃ p, S.pend[k]? = some p := ⟨S.pend[k]'hlt, List.getElem?_eq_getElem _⟩
      have hpk := HD.out.ok.plen p (List.mem_of_getElem? hp)
      have HGK : Hid (wr.rangeAt g (k * 33) (wcells p.1 p.2)) := Lib.hid (rangeAt_block (hgr k p hp) (HQ.out.1.block g hgl))
      have HL : Hid ((wcells p.1 p.2).length = 33) := Lib.hid (wcells_len _ hpk.2.1)
      have HPL := Lib.hid hpk.2.1
      have HB1 : Hid (Blk (wr.alloc (.cells (wcells 0 (List.replicate 32 0)).toArray 72)) wr.heap.size 72 (wcells 0 (List.replicate 32 0)).toArray) := Lib.hid (Blk.new wr _ _)
      have HB2 : Hid (Blk ((wr.alloc (.cells (wcells 0 (List.replicate 32 0)).toArray 72)).setRow wr.heap.size (wcells p.1 p.2).toArray) wr.heap.size 72 (wcells p.1 p.2).toArray) := Lib.hid (HB1.out.row _)
      have HBW : Hid (Below wr.heap.size wr ((wr.alloc (.cells (wcells 0 (List.replicate 32 0)).toArray 72)).setRow wr.heap.size (wcells p.1 p.2).toArray)) := Lib.hid (below_row ((Below.refl _ _).alloc (Nat.le_refl _) _) (Nat.le_refl _) _)
      obtain ⟨A2, c2', eu⟩ := row_slice HQ.out.2
      subst eu
      have HOW2 : Hid (((wr.alloc (.cells (wcells 0 (List.replicate 32 0)).toArray 72)).setRow wr.heap.size (wcells p.1 p.2).toArray).ownsRow w.heap.size 72 33 (.slice A2 (keptTo S.pend ts k).length c2') (keptTo S.pend ts k).length (cellsW (keptTo S.pend ts k))) := Lib.hid (HQ.out.2.kept (only_of_below HBW.out none) (by cases hv : (Value.slice A2 (keptTo S.pend ts k).length c2').ownBlock with | none => exact Or.inl rfl | some g => exact Or.inr (by simp)))
      have i0 : ((k : Nat) : Int) < S.pend.length := by omega
      have i1 : (0 : Int) ≤ ((k : Nat) : Int) := by omega
      have HP := Lib.hid hp
      clear hgl hgm hgr hpk hp
      by_cases hkn : k < n
      · obtain ⟨b, o, rfl, hbl, hbc⟩ := HR.out (by rw [HN.out]; omega)
        obtain ⟨t, ht⟩ : ∃ t, ts[k]? = some t := ⟨ts[k]'(by rw [HN.out]; exact hkn), List.getElem?_eq_getElem _⟩
        have pt : ((wr.alloc (.cells (wcells 0 (List.replicate 32 0)).toArray 72)).setRow wr.heap.size (wcells p.1 p.2).toArray).cell? ⟨b, o + k, none⟩ = some (.bool t) := by
          rw [World.cell?_of_block (w' := ((wr.alloc (.cells (wcells 0 (List.replicate 32 0)).toArray 72)).setRow wr.heap.size (wcells p.1 p.2).toArray)) (w := wr) (a := ⟨b, o + k, none⟩) (HBW.out.block b (Nat.lt_of_lt_of_le hbl HQ.out.1.size)), World.cell?_of_block (w' := wr) (w := w) (a := ⟨b, o + k, none⟩) (HQ.out.1.block b hbl)]
          exact hbc k t ht
        have i2 : ((k : Nat) : Int) < n := by omega
        cases t with
        | false =>
          have HT : Hid (ts.getD k false = false) := Lib.hid (by rw [List.getD_eq_getElem?_getD, ht]; rfl)
          clear hbl hbc ht
          go_wp2_with (first | (refine wpList_load_mid rfl 72 (.tmp 16) rfl g (k * 33) rfl (wcells p.1 p.2) _ HGK.out Tryd.underlying72 rfl (by rw [HL.out]; exact write_size) ?_) | (refine wpList_store_row rfl 72 (.tmp 7) (.tmp 17) rfl wr.heap.size (wcells p.1 p.2).toArray rfl rfl 72 _ HB1.out (by rw [List.size_toArray, HL.out]; exact write_size) (by rw [List.size_toArray, List.size_toArray, HL.out]; rfl) (by simpa using wcells_one p.1 p.2) ?_; change wpList _ _ _ _ _ ((wr.alloc (.cells (wcells 0 (List.replicate 32 0)).toArray 72)).setRow wr.heap.size (wcells p.1 p.2).toArray); generalize ((wr.alloc (.cells (wcells 0 (List.replicate 32 0)).toArray 72)).setRow wr.heap.size (wcells p.1 p.2).toArray) = wz at *))
          exact ⟨⟨k + 1, by omega, by simp, Lib.hid ⟨HQ.out.1.trans (HBW.out.mono (by have := HQ.out.1.size; omega)), by rw [keptTo_no HP.out HT.out]; exact HOW2.out⟩⟩, by simp [intOf]; omega⟩
        | true =>
          have HT : Hid (ts.getD k false = true) := Lib.hid (by rw [List.getD_eq_getElem?_getD, ht]; rfl)
          clear hbl hbc ht
          obtain ⟨i0', hi0, hiz, his, hib⟩ := info_parts write_info
          have hkl : (keptTo S.pend ts k).length ≤ 1000000 := Nat.le_trans (keptTo_len k) (by omega)
          have HF : Hid ((keptTo S.pend ts k).length + 1 ≤ maxLen ∧ ((keptTo S.pend ts k).length + 1) * 40 ≤ 140737488355328) := Lib.hid ⟨by unfold maxLen; omega, by omega⟩
          have HNW : Hid ((wcells p.1 p.2).length = 1 * 33) := Lib.hid (by rw [HL.out])
          have HBB : Hid (Below w.heap.size w ((wr.alloc (.cells (wcells 0 (List.replicate 32 0)).toArray 72)).setRow wr.heap.size (wcells p.1 p.2).toArray)) := Lib.hid (HQ.out.1.trans (HBW.out.mono (by have := HQ.out.1.size; omega)))
          clear hkl
          go_wp2_with (first | (refine wpList_load_mid rfl 72 (.tmp 16) rfl g (k * 33) rfl (wcells p.1 p.2) _ HGK.out Tryd.underlying72 rfl (by rw [HL.out]; exact write_size) ?_) | (refine wpList_store_row rfl 72 (.tmp 7) (.tmp 17) rfl wr.heap.size (wcells p.1 p.2).toArray rfl rfl 72 _ HB1.out (by rw [List.size_toArray, HL.out]; exact write_size) (by rw [List.size_toArray, List.size_toArray, HL.out]; rfl) (by simpa using wcells_one p.1 p.2) ?_; change wpList _ _ _ _ _ ((wr.alloc (.cells (wcells 0 (List.replicate 32 0)).toArray 72)).setRow wr.heap.size (wcells p.1 p.2).toArray); generalize ((wr.alloc (.cells (wcells 0 (List.replicate 32 0)).toArray 72)).setRow wr.heap.size (wcells p.1 p.2).toArray) = wz at *) | (refine wpList_load_mid rfl 72 (.tmp 7) rfl wr.heap.size 0 rfl (wcells p.1 p.2) _ (row_of_blk HB2.out) Tryd.underlying72 rfl (by rw [HL.out]; exact write_size) ?_) | (refine wpList_plain rfl fun K hK => wp_buildW (.tmp 29) rfl p.1 p.2 HPL.out rfl (hK _ _ ?_); clear hK) | (refine wpList_append_own (wz.alloc (.cells (wcells p.1 p.2).toArray 72)) rfl (.tmp 28) (.tmp 30) 56 rfl w.heap.size 72 i0' _ 33 40 Tryd.underlying56 hi0 hiz his hib rfl (by decide) (.slice A2 (keptTo S.pend ts k).length c2') (keptTo S.pend ts k).length (cellsW (keptTo S.pend ts k)) rfl (ownsRow_alloc HOW2.out _) ⟨wz.heap.size, 0, none⟩ 1 1 (wcells p.1 p.2) rfl HNW.out (fun j u hj => by rw [Addr.add_mid]; exact row_of_blk (Blk.new wz _ _) j u hj) (wcells_one _ _) HF.out.1 HF.out.2 (Nat.le_trans HBB.out.size (by simp)) ?_; intro u' w3 ho hg _; have HO3 := Lib.hid ho; have HB3 := Lib.hid (below_own (HBB.out.trans ((Below.refl _ _).alloc HBB.out.size _)) (ownsRow_alloc HOW2.out _) (Nat.le_refl _) hg); clear ho hg))
          exact ⟨⟨k + 1, by omega, by simp, Lib.hid ⟨HB3.out, by rw [keptTo_yes HP.out HT.out, cellsW_snoc, List.length_append]; exact HO3.out⟩⟩, by simp [intOf]; omega⟩
      · have HT : Hid (ts.getD k false = false) := Lib.hid (by rw [List.getD_eq_getElem?_getD, List.getElem?_eq_none (by rw [HN.out]; omega)]; rfl)
        have i2 : ¬ ((k : Nat) : Int) < n := by omega
        go_wp2_with (first | (refine wpList_load_mid rfl 72 (.tmp 16) rfl g (k * 33) rfl (wcells p.1 p.2) _ HGK.out Tryd.underlying72 rfl (by rw [HL.out]; exact write_size) ?_) | (refine wpList_store_row rfl 72 (.tmp 7) (.tmp 17) rfl wr.heap.size (wcells p.1 p.2).toArray rfl rfl 72 _ HB1.out (by rw [List.size_toArray, HL.out]; exact write_size) (by rw [List.size_toArray, List.size_toArray, HL.out]; rfl) (by simpa using wcells_one p.1 p.2) ?_; change wpList _ _ _ _ _ ((wr.alloc (.cells (wcells 0 (List.replicate 32 0)).toArray 72)).setRow wr.heap.size (wcells p.1 p.2).toArray); generalize ((wr.alloc (.cells (wcells 0 (List.replicate 32 0)).toArray 72)).setRow wr.heap.size (wcells p.1 p.2).toArray) = wz at *))
        exact ⟨⟨k + 1, by omega, by simp, Lib.hid ⟨HQ.out.1.trans (HBW.out.mono (by have := HQ.out.1.size; omega)), by rw [keptTo_no HP.out HT.out]; exact HOW2.out⟩⟩, by simp [intOf]; omega⟩
    · have hkn : k = S.pend.length := by omega
      subst hkn
      obtain ⟨A2, c2', eu⟩ := row_slice HQ.out.2
      subst eu
      have i0 : ¬ ((S.pend.length : Nat) : Int) < S.pend.length := by omega
      have hkl : (keptTo S.pend ts S.pend.length).length ≤ S.pend.length := keptTo_len _
      have hks := fun p hp => HD.out.ok.plen p (keptTo_mem (ts := ts) S.pend.length p hp)
      have CS := settle_any A2 (keptTo S.pend ts S.pend.length).length c2' (keptTo S.pend ts S.pend.length) wr (HD.out.below HQ.out.1) rfl hks (row_rd HQ.out.2 (fun p hp => (hks p hp).2.1) (fun e => by
        rcases HQ.out.2.2 with ⟨h1, _⟩ | ⟨g, cap, cur, h1, h2, _⟩
        · rw [h1] at e; cases e
        · rw [h1] at e; have e2 : ms = g := Option.some.inj e; have := HD.out.safe.lt; omega)) (by omega) (by omega)
      clear hks
      go_wp2_with (go_at_call 35; refine CS.mono ?_; rintro e w2 ⟨rfl, ⟨fS2, h1⟩, h2⟩; have p4 := h1.blk.cell 4; have z4 := h1.blk.frozen 4; have p5 := h1.blk.cell 5; have z5 := h1.blk.frozen 5; have p6 := h1.blk.cell 6; have z6 := h1.blk.frozen 6; have HE1 := Lib.hid (crash_end h1); have HE2 := Lib.hid h2; clear h1 h2)
      go_ret
      exact ⟨rfl, ⟨fS2, HE1.out.1⟩, fun u => ((Fr.of (only_of_below HQ.out.1 none) (fun g e => by cases e)).trans (HE2.out u)).trans (Fr.of HE1.out.2 (fun g e => Or.inl (by injection e with e; exact e.symm)))⟩
end
end Go.Proofs.YtbllilokcalbcaaDoor
