/- The power fails and comes again ((*Disk).Crash). -/
import Derived.Test.YtdokojlgcplefaaDoorMDisk8s
import Derived.Shelf.SlMaps.Clone
import Derived.Lib.Hide
import Derived.Test.YtdokojlgcplefaaDoorMLawKits
import Derived.Deep.Grids
import Derived.Lib.SmallJoins
namespace Go.Proofs.YtdokojlgcplefaaDoor
open Go Go.RowKit
def RdT (w : World) (A : Option Addr) (ts : List Bool) : Prop := 0 < ts.length → ∃ b o, A = some ⟨b, o, none⟩ ∧ b < w.heap.size ∧ ∀ (j : Nat) (t : Bool), ts[j]? = some t → w.cell? ⟨b, o + j, none⟩ = some (.bool t)
def keptTo (ps : List (Nat × List Nat)) (ts : List Bool) : Nat → List (Nat × List Nat)
 | 0 => []
 | k + 1 => keptTo ps ts k ++ (match ps[k]? with | some p => if ts.getD k false then [p] else [] | none => [])
theorem keptTo_no {ps : List (Nat × List Nat)} {ts : List Bool} {k : Nat} {p : Nat × List Nat} (hp : ps[k]? = some p) (ht : ts.getD k false = false) : keptTo ps ts (k + 1) = keptTo ps ts k := by
 simp only [keptTo, hp, ht]; simp
theorem keptTo_yes {ps : List (Nat × List Nat)} {ts : List Bool} {k : Nat} {p : Nat × List Nat} (hp : ps[k]? = some p) (ht : ts.getD k false = true) : keptTo ps ts (k + 1) = keptTo ps ts k ++ [p] := by
 simp only [keptTo, hp, ht]; simp
theorem keptTo_mem {ps : List (Nat × List Nat)} {ts : List Bool} : ∀ (k : Nat), ∀ p ∈ keptTo ps ts k, p ∈ ps
 | 0, p, h => by cases h
 | k + 1, p, h => by
  unfold keptTo at h
  rcases List.mem_append.1 h with h | h
  ·exact keptTo_mem k p h
  ·split at h
   ·rename_i q hq
    split at h
    ·obtain rfl := List.mem_singleton.1 h; exact List.mem_of_getElem? hq
    ·cases h
   ·cases h
theorem keptTo_len {ps : List (Nat × List Nat)} {ts : List Bool} : ∀ (k : Nat), (keptTo ps ts k).length ≤ k
 | 0 => Nat.le_refl _
 | k + 1 => by
  have := @keptTo_len ps ts k
  unfold keptTo
  rw [List.length_append]
  have h2 : (match ps[k]? with | some p => if ts.getD k false then [p] else [] | none => []).length ≤ 1 := by split; split <;> simp; simp
  omega
theorem cellsW_snoc (ps : List (Nat × List Nat)) (p : Nat × List Nat) : cellsW (ps ++ [p]) = cellsW ps ++ wcells p.1 p.2 := by simp [cellsW, wcells]
section
variable {B : Nat} {d ms ml c1 c2 : Nat} {S : Dk.D} {v : Value} {fS : Int → Option Value}
def Dk.crashed (S : Dk.D) (ks : List (Nat × List Nat)) : Dk.D := { Dk.puts S ks with pend := [], off := false, armed := false, left := 0 }
theorem crash_end {w : World} {ks : List (Nat × List Nat)} (h : DiskAt B w d { Dk.puts S ks with pend := [] } ms ml v c1 c2 fS) :
  DiskAt B (((w.setCell ⟨d, 4, none⟩ (.bool false)).setCell ⟨d, 5, none⟩ (.bool false)).setCell ⟨d, 6, none⟩ (.int .i64 0)) d (Dk.crashed S ks) ms ml v c1 c2 fS ∧ w.grownBy (((w.setCell ⟨d, 4, none⟩ (.bool false)).setCell ⟨d, 5, none⟩ (.bool false)).setCell ⟨d, 6, none⟩ (.int .i64 0)) (some d) := by
 have hg : w.grownBy (((w.setCell ⟨d, 4, none⟩ (.bool false)).setCell ⟨d, 5, none⟩ (.bool false)).setCell ⟨d, 6, none⟩ (.int .i64 0)) (some d) := only_trans (only_trans (set_own 4 _) (set_own 5 _)) (set_own 6 _)
 have hb := ((h.blk.set_ 4 (.bool false)).set_ 5 (.bool false)).set_ 6 (.int .i64 0)
 simp only [List.setIfInBounds_toArray, List.set_cons_zero, List.set_cons_succ] at hb
 exact ⟨h.sw rfl rfl rfl (Nat.zero_le _) h.ok.deeds hb hg, hg⟩
set_option maxRecDepth 100000 in
set_option maxHeartbeats 1000000 in
theorem crash_any (A : Option Addr) (n c : Nat) (ts : List Bool) (w : World) (h : DiskAt B w d S ms ml v c1 c2 fS) (hn : ts.length = n) (hr : RdT w A ts) (hc : c1 + S.pend.length < 1000000000) :
  Calls Tryd.prog 15 #[.pointer (some ⟨d, 0, none⟩), .slice A n c] w fun e w' => e = .returned (.int .i64 ((keptTo S.pend ts S.pend.length).length : Int)) ∧ (∃ fS', DiskAt B w' d (Dk.crashed S (keptTo S.pend ts S.pend.length)) ms ml (.slice none 0 0) (c1 + (keptTo S.pend ts S.pend.length).length) c2 fS') ∧ ∀ u, Fr w w' d ms ml u := by
 obtain ⟨A0, c0, ev0⟩ := row_slice h.row
 have p2 : w.cell? ⟨d, 2, none⟩ = some (.slice A0 S.pend.length c0) := by rw [← ev0]; exact h.blk.cell 2
 have HRW : Hid (RdK w ms A0 S.pend) := Lib.hid (row_rd (by have := h.row; rwa [ev0] at this) (fun p hp => (h.ok.plen p hp).2.1) (by have := h.rowNe.2.1; rwa [ev0] at this))
 have HD := Lib.hid h
 have HR := Lib.hid hr
 have HN := Lib.hid hn
 have hfew := h.ok.few
 have HEV := Lib.hid ev0
 have HQ0 : Hid (Below w.heap.size w w ∧ w.ownsRow w.heap.size 68 33 (.slice none 0 0) (keptTo S.pend ts 0).length (cellsW (keptTo S.pend ts 0))) := Lib.hid ⟨Below.refl _ _, by simp [cellsW, keptTo], Or.inl ⟨rfl, rfl⟩⟩
 clear h hr hn ev0
 go_enter Tryd.func15, Tryd.ntmps15
 go_wp2
 go_loopw [5, 13] (fun u i wr => ∃ k : Nat, k ≤ S.pend.length ∧ i = .int .i64 k ∧ Hid (Below w.heap.size w wr ∧ wr.ownsRow w.heap.size 68 33 u (keptTo S.pend ts k).length (cellsW (keptTo S.pend ts k)))) (fun _ i _ => S.pend.length - (intOf i).toNat)
 case atStart => exact ⟨0, Nat.zero_le _, rfl, HQ0⟩
 case round =>
  obtain ⟨k, hk, rfl, HQ⟩ := hrel
  by_cases hlt : k < S.pend.length
  ·obtain ⟨g, rfl, hgl, hgm, hgr⟩ := HRW.out (by omega)
   obtain ⟨p, hp⟩ : ∃ p, S.pend[k]? = some p := ⟨S.pend[k]'hlt, List.getElem?_eq_getElem _⟩
   have hpk := HD.out.ok.plen p (List.mem_of_getElem? hp)
   have HGK : Hid (wr.rangeAt g (k * 33) (wcells p.1 p.2)) := Lib.hid (rangeAt_block (hgr k p hp) (HQ.out.1.block g hgl))
   have HL : Hid ((wcells p.1 p.2).length = 33) := Lib.hid (wcells_len _ hpk.2.1)
   have HPL := Lib.hid hpk.2.1
   have HB1 : Hid (Blk (wr.alloc (.cells (wcells 0 (List.replicate 32 0)).toArray 68)) wr.heap.size 68 (wcells 0 (List.replicate 32 0)).toArray) := Lib.hid (Blk.new wr _ _)
   have HB2 : Hid (Blk ((wr.alloc (.cells (wcells 0 (List.replicate 32 0)).toArray 68)).setRow wr.heap.size (wcells p.1 p.2).toArray) wr.heap.size 68 (wcells p.1 p.2).toArray) := Lib.hid (HB1.out.row _)
   have HBW : Hid (Below wr.heap.size wr ((wr.alloc (.cells (wcells 0 (List.replicate 32 0)).toArray 68)).setRow wr.heap.size (wcells p.1 p.2).toArray)) := Lib.hid (below_row ((Below.refl _ _).alloc (Nat.le_refl _) _) (Nat.le_refl _) _)
   obtain ⟨A2, c2', eu⟩ := row_slice HQ.out.2
   subst eu
   have HOW2 : Hid (((wr.alloc (.cells (wcells 0 (List.replicate 32 0)).toArray 68)).setRow wr.heap.size (wcells p.1 p.2).toArray).ownsRow w.heap.size 68 33 (.slice A2 (keptTo S.pend ts k).length c2') (keptTo S.pend ts k).length (cellsW (keptTo S.pend ts k))) := Lib.hid (HQ.out.2.kept (only_of_below HBW.out none) (by cases hv : (Value.slice A2 (keptTo S.pend ts k).length c2').ownBlock with | none => exact Or.inl rfl | some g => exact Or.inr (by simp)))
   have i0 : ((k : Nat) : Int) < S.pend.length := by omega
   have i1 : (0 : Int) ≤ ((k : Nat) : Int) := by omega
   have HP := Lib.hid hp
   clear hgl hgm hgr hpk hp
   by_cases hkn : k < n
   ·obtain ⟨b, o, rfl, hbl, hbc⟩ := HR.out (by rw [HN.out]; omega)
    obtain ⟨t, ht⟩ : ∃ t, ts[k]? = some t := ⟨ts[k]'(by rw [HN.out]; exact hkn), List.getElem?_eq_getElem _⟩
    have pt : ((wr.alloc (.cells (wcells 0 (List.replicate 32 0)).toArray 68)).setRow wr.heap.size (wcells p.1 p.2).toArray).cell? ⟨b, o + k, none⟩ = some (.bool t) := by
     rw [World.cell?_of_block (w' := ((wr.alloc (.cells (wcells 0 (List.replicate 32 0)).toArray 68)).setRow wr.heap.size (wcells p.1 p.2).toArray)) (w := wr) (a := ⟨b, o + k, none⟩) (HBW.out.block b (Nat.lt_of_lt_of_le hbl HQ.out.1.size)), World.cell?_of_block (w' := wr) (w := w) (a := ⟨b, o + k, none⟩) (HQ.out.1.block b hbl)]
     exact hbc k t ht
    have i2 : ((k : Nat) : Int) < n := by omega
    cases t with
    | false =>
     have HT : Hid (ts.getD k false = false) := Lib.hid (by rw [List.getD_eq_getElem?_getD, ht]; rfl)
     clear hbl hbc ht
     go_wp2_with (first | (refine wpList_load_mid rfl 68 (.tmp 16) rfl g (k * 33) rfl (wcells p.1 p.2) _ HGK.out Tryd.underlying68 rfl (by rw [HL.out]; exact write_size) ?_) | (refine wpList_store_row rfl 68 (.tmp 7) (.tmp 17) rfl wr.heap.size (wcells p.1 p.2).toArray rfl rfl 68 _ HB1.out (by rw [List.size_toArray, HL.out]; exact write_size) (by rw [List.size_toArray, List.size_toArray, HL.out]; rfl) (by simpa using wcells_one p.1 p.2) ?_; change wpList _ _ _ _ _ ((wr.alloc (.cells (wcells 0 (List.replicate 32 0)).toArray 68)).setRow wr.heap.size (wcells p.1 p.2).toArray); generalize ((wr.alloc (.cells (wcells 0 (List.replicate 32 0)).toArray 68)).setRow wr.heap.size (wcells p.1 p.2).toArray) = wz at *))
     exact ⟨⟨k + 1, by omega, by simp, Lib.hid ⟨HQ.out.1.trans (HBW.out.mono (by have := HQ.out.1.size; omega)), by rw [keptTo_no HP.out HT.out]; exact HOW2.out⟩⟩, by simp [intOf]; omega⟩
    | true =>
     have HT : Hid (ts.getD k false = true) := Lib.hid (by rw [List.getD_eq_getElem?_getD, ht]; rfl)
     clear hbl hbc ht
     obtain ⟨i0', hi0, hiz, his, hib⟩ := info_parts write_info
     have hkl : (keptTo S.pend ts k).length ≤ 1000000 := Nat.le_trans (keptTo_len k) (by omega)
     have HF : Hid ((keptTo S.pend ts k).length + 1 ≤ maxLen ∧ ((keptTo S.pend ts k).length + 1) * 40 ≤ 140737488355328) := Lib.hid ⟨by unfold maxLen; omega, by omega⟩
     have HNW : Hid ((wcells p.1 p.2).length = 1 * 33) := Lib.hid (by rw [HL.out])
     have HBB : Hid (Below w.heap.size w ((wr.alloc (.cells (wcells 0 (List.replicate 32 0)).toArray 68)).setRow wr.heap.size (wcells p.1 p.2).toArray)) := Lib.hid (HQ.out.1.trans (HBW.out.mono (by have := HQ.out.1.size; omega)))
     clear hkl
     go_wp2_with (first | (refine wpList_load_mid rfl 68 (.tmp 16) rfl g (k * 33) rfl (wcells p.1 p.2) _ HGK.out Tryd.underlying68 rfl (by rw [HL.out]; exact write_size) ?_) | (refine wpList_store_row rfl 68 (.tmp 7) (.tmp 17) rfl wr.heap.size (wcells p.1 p.2).toArray rfl rfl 68 _ HB1.out (by rw [List.size_toArray, HL.out]; exact write_size) (by rw [List.size_toArray, List.size_toArray, HL.out]; rfl) (by simpa using wcells_one p.1 p.2) ?_; change wpList _ _ _ _ _ ((wr.alloc (.cells (wcells 0 (List.replicate 32 0)).toArray 68)).setRow wr.heap.size (wcells p.1 p.2).toArray); generalize ((wr.alloc (.cells (wcells 0 (List.replicate 32 0)).toArray 68)).setRow wr.heap.size (wcells p.1 p.2).toArray) = wz at *) | (refine wpList_load_mid rfl 68 (.tmp 7) rfl wr.heap.size 0 rfl (wcells p.1 p.2) _ (row_of_blk HB2.out) Tryd.underlying68 rfl (by rw [HL.out]; exact write_size) ?_) | (refine wpList_plain rfl fun K hK => wp_buildW (.tmp 29) rfl p.1 p.2 HPL.out rfl (hK _ _ ?_); clear hK) | (refine wpList_append_own (wz.alloc (.cells (wcells p.1 p.2).toArray 68)) rfl (.tmp 28) (.tmp 30) 51 rfl w.heap.size 68 i0' _ 33 40 Tryd.underlying51 hi0 hiz his hib rfl (by decide) (.slice A2 (keptTo S.pend ts k).length c2') (keptTo S.pend ts k).length (cellsW (keptTo S.pend ts k)) rfl (ownsRow_alloc HOW2.out _) ⟨wz.heap.size, 0, none⟩ 1 1 (wcells p.1 p.2) rfl HNW.out (fun j u hj => by rw [Addr.add_mid]; exact row_of_blk (Blk.new wz _ _) j u hj) (wcells_one _ _) HF.out.1 HF.out.2 (Nat.le_trans HBB.out.size (by simp)) ?_; intro u' w3 ho hg _; have HO3 := Lib.hid ho; have HB3 := Lib.hid (below_own (HBB.out.trans ((Below.refl _ _).alloc HBB.out.size _)) (ownsRow_alloc HOW2.out _) (Nat.le_refl _) hg); clear ho hg))
     exact ⟨⟨k + 1, by omega, by simp, Lib.hid ⟨HB3.out, by rw [keptTo_yes HP.out HT.out, cellsW_snoc, List.length_append]; exact HO3.out⟩⟩, by simp [intOf]; omega⟩
   ·have HT : Hid (ts.getD k false = false) := Lib.hid (by rw [List.getD_eq_getElem?_getD, List.getElem?_eq_none (by rw [HN.out]; omega)]; rfl)
    have i2 : ¬ ((k : Nat) : Int) < n := by omega
    go_wp2_with (first | (refine wpList_load_mid rfl 68 (.tmp 16) rfl g (k * 33) rfl (wcells p.1 p.2) _ HGK.out Tryd.underlying68 rfl (by rw [HL.out]; exact write_size) ?_) | (refine wpList_store_row rfl 68 (.tmp 7) (.tmp 17) rfl wr.heap.size (wcells p.1 p.2).toArray rfl rfl 68 _ HB1.out (by rw [List.size_toArray, HL.out]; exact write_size) (by rw [List.size_toArray, List.size_toArray, HL.out]; rfl) (by simpa using wcells_one p.1 p.2) ?_; change wpList _ _ _ _ _ ((wr.alloc (.cells (wcells 0 (List.replicate 32 0)).toArray 68)).setRow wr.heap.size (wcells p.1 p.2).toArray); generalize ((wr.alloc (.cells (wcells 0 (List.replicate 32 0)).toArray 68)).setRow wr.heap.size (wcells p.1 p.2).toArray) = wz at *))
    exact ⟨⟨k + 1, by omega, by simp, Lib.hid ⟨HQ.out.1.trans (HBW.out.mono (by have := HQ.out.1.size; omega)), by rw [keptTo_no HP.out HT.out]; exact HOW2.out⟩⟩, by simp [intOf]; omega⟩
  ·have hkn : k = S.pend.length := by omega
   subst hkn
   obtain ⟨A2, c2', eu⟩ := row_slice HQ.out.2
   subst eu
   have i0 : ¬ ((S.pend.length : Nat) : Int) < S.pend.length := by omega
   have hkl : (keptTo S.pend ts S.pend.length).length ≤ S.pend.length := keptTo_len _
   have hks := fun p hp => HD.out.ok.plen p (keptTo_mem (ts := ts) S.pend.length p hp)
   have CS := settle_any A2 (keptTo S.pend ts S.pend.length).length c2' (keptTo S.pend ts S.pend.length) wr (HD.out.below HQ.out.1) rfl hks (row_rd HQ.out.2 (fun p hp => (hks p hp).2.1) (fun e => by
    rcases HQ.out.2.2 with ⟨h1, _⟩ | ⟨g, cap, cur, h1, h2, _⟩
    ·rw [h1] at e; cases e
    ·rw [h1] at e; have e2 : ms = g := Option.some.inj e; have := HD.out.safe.lt; omega)) (by omega) (by omega)
   clear hks
   go_wp2_with (go_at_call 31; refine CS.mono ?_; rintro e w2 ⟨rfl, ⟨fS2, h1⟩, h2⟩; have p4 := h1.blk.cell 4; have z4 := h1.blk.frozen 4; have p5 := h1.blk.cell 5; have z5 := h1.blk.frozen 5; have p6 := h1.blk.cell 6; have z6 := h1.blk.frozen 6; have HE1 := Lib.hid (crash_end h1); have HE2 := Lib.hid h2; clear h1 h2)
   go_ret
   exact ⟨rfl, ⟨fS2, HE1.out.1⟩, fun u => ((Fr.of (only_of_below HQ.out.1 none) (fun g e => by cases e)).trans (HE2.out u)).trans (Fr.of HE1.out.2 (fun g e => Or.inl (by injection e with e; exact e.symm)))⟩
end
end Go.Proofs.YtdokojlgcplefaaDoor
/- A disk stands where its blocks do; a disk that goes on apart ((*Disk).Copy). -/
namespace Go.Proofs.YtdokojlgcplefaaDoor
open Go Go.RowKit Go.Maps
section
variable {B : Nat} {w w' : World} {d ms ml c1 c2 : Nat} {S : Dk.D} {v : Value} {fS : Int → Option Value}
theorem ownsRow_stands {base e s n : Nat} {xs : List Value} (h : w.ownsRow base e s v n xs) (k : ∀ b, v.ownBlock = some b → w'.heap[b]? = w.heap[b]?) : w'.ownsRow base e s v n xs := by
 refine ⟨h.1, ?_⟩
 rcases h.2 with hn | ⟨g, cap, cur, rfl, hb, hg, hr⟩
 ·exact .inl hn
 ·exact .inr ⟨g, cap, cur, rfl, hb, (k g rfl).trans hg, hr⟩
theorem ownsRow_base {base base' e s n : Nat} {xs : List Value} (h : w.ownsRow base e s v n xs) (hb : base' ≤ base) : w.ownsRow base' e s v n xs := by
 refine ⟨h.1, ?_⟩
 rcases h.2 with hn | ⟨g, cap, cur, rfl, h1, hg, hr⟩
 ·exact .inl hn
 ·exact .inr ⟨g, cap, cur, rfl, Nat.le_trans hb h1, hg, hr⟩
theorem DiskAt.stands (h : DiskAt B w d S ms ml v c1 c2 fS) (k : ∀ b, (b = d ∨ b = ms ∨ b = ml ∨ v.ownBlock = some b) → w'.heap[b]? = w.heap[b]?) : DiskAt B w' d S ms ml v c1 c2 fS :=
 ⟨h.blk.stands (k d (Or.inl rfl)), h.safe.block (k ms (Or.inr (Or.inl rfl))), h.safeAt, h.last.block (k ml (Or.inr (Or.inr (Or.inl rfl)))), ownsRow_stands h.row fun b hb => k b (Or.inr (Or.inr (Or.inr hb))), h.ok, h.bd, h.ne, h.c1, h.c2⟩
theorem DiskAt.lts (h : DiskAt B w d S ms ml v c1 c2 fS) : ∀ b, (b = d ∨ b = ms ∨ b = ml ∨ v.ownBlock = some b) → B ≤ b ∧ b < w.heap.size := fun b hb => by
 rcases hb with rfl | rfl | rfl | hb
 ·exact ⟨h.bd.1, h.blk.lt⟩
 ·exact ⟨h.bd.2.1, h.safe.lt⟩
 ·exact ⟨h.bd.2.2, h.last.lt⟩
 ·exact h.row.lt b hb
theorem DiskAt.run {w0 : World} (h : DiskAt B w d S ms ml v c1 c2 fS) (hB : w0.heap.size ≤ B) (hb : Below w0.heap.size w0 w) (hf : Fr w w' d ms ml v) : Below w0.heap.size w0 w' :=
 ⟨hf.os.trans hb.os, hf.tape.trans hb.tape, hf.output.trans hb.output, Nat.le_trans hb.size hf.size, fun b hi => by
  have l := h.lts
  refine (hf.block b (Nat.lt_of_lt_of_le hi hb.size) (fun e => ?_) (fun e => ?_) (fun e => ?_) (fun e => ?_)).trans (hb.block b hi)
  ·have := (l b (Or.inl e)).1; omega
  ·have := (l b (Or.inr (Or.inl e))).1; omega
  ·have := (l b (Or.inr (Or.inr (Or.inl e)))).1; omega
  ·have := (l b (Or.inr (Or.inr (Or.inr e.symm)))).1; omega⟩
end
section
variable {B : Nat} {d ms ml c1 c2 : Nat} {S : Dk.D} {v : Value} {fS : Int → Option Value}
end
end Go.Proofs.YtdokojlgcplefaaDoor
/- A disk's calls, each with one answer: what the disk is behind them, whether they were done. -/
namespace Go.Proofs.YtdokojlgcplefaaDoor
open Go Go.RowKit
namespace Dk
def dead (S : D) : Bool := S.armed && S.left == 0
def did (S : D) : D := { S with left := if S.armed then S.left - 1 else S.left, deeds := S.deeds + 1 }
def done (S : D) : Bool := !S.off && !dead S
def wrote (S : D) (i : Nat) (bs : List Nat) : D := if S.off then S else if dead S then { S with off := true } else wr (did S) i bs
def syncs (S : D) : D := if S.off then S else if dead S then { S with off := true } else synced (did S)
def seen (S : D) (i : Nat) : List Nat := match last S.pend (i : Int) with
 | some k => ((S.pend[k]?).map (·.2)).getD []
 | none => S.safe i
end Dk
def er (b : Bool) (aD : Addr) : Value := if b then .nilIface else ev aD
structure DkAt (B : Nat) (w : World) (d : Nat) (S : Dk.D) (ms ml : Nat) (v : Value) (k : Nat) : Prop where
 at_ : ∃ c1 c2 fS, DiskAt B w d S ms ml v c1 c2 fS ∧ c1 + S.pend.length ≤ k ∧ c2 ≤ k
 nil : S.pend = [] → v = .slice none 0 0
 deeds : S.deeds ≤ k
section
variable {B : Nat} {w w' : World} {d ms ml k : Nat} {S : Dk.D} {v : Value}
theorem DkAt.mono (h : DkAt B w d S ms ml v k) {k' : Nat} (hk : k ≤ k') : DkAt B w d S ms ml v k' := by
 obtain ⟨⟨c1, c2, fS, h1, h2, h3⟩, h4, h5⟩ := h
 exact ⟨⟨c1, c2, fS, h1, by omega, by omega⟩, h4, by omega⟩
theorem DkAt.stands (h : DkAt B w d S ms ml v k) (e : ∀ b, (b = d ∨ b = ms ∨ b = ml ∨ v.ownBlock = some b) → w'.heap[b]? = w.heap[b]?) : DkAt B w' d S ms ml v k := by
 obtain ⟨⟨c1, c2, fS, h1, h2, h3⟩, h4, h5⟩ := h
 exact ⟨⟨c1, c2, fS, h1.stands e, h2, h3⟩, h4, h5⟩
theorem DkAt.lts (h : DkAt B w d S ms ml v k) : ∀ b, (b = d ∨ b = ms ∨ b = ml ∨ v.ownBlock = some b) → B ≤ b ∧ b < w.heap.size := by
 obtain ⟨⟨c1, c2, fS, h1, h2, h3⟩, h4, h5⟩ := h
 exact h1.lts
theorem DkAt.below (h : DkAt B w d S ms ml v k) (hb : Below w.heap.size w w') : DkAt B w' d S ms ml v k := h.stands fun b hi => hb.block b (h.lts b hi).2
theorem DkAt.run {w0 : World} (h : DkAt B w d S ms ml v k) (hB : w0.heap.size ≤ B) (hb : Below w0.heap.size w0 w) (hf : Fr w w' d ms ml v) : Below w0.heap.size w0 w' := by
 obtain ⟨⟨c1, c2, fS, h1, h2, h3⟩, h4, h5⟩ := h
 exact h1.run hB hb hf
theorem DkAt.ok (h : DkAt B w d S ms ml v k) : Dk.Ok S := by
 obtain ⟨⟨c1, c2, fS, h1, h2, h3⟩, h4, h5⟩ := h
 exact h1.ok
theorem DkAt.few (h : DkAt B w d S ms ml v k) : S.pend.length ≤ k := by
 obtain ⟨⟨c1, c2, fS, h1, h2, h3⟩, h4, h5⟩ := h
 omega
theorem dk_new (n : Nat) (w : World) (h2 : 2 ≤ n) (h4 : n ≤ 4096) :
  Calls Tryd.prog 6 #[.int .i64 (n : Int)] w fun e w' => ∃ d ms ml, e = .returned (.tuple #[.pointer (some ⟨d, 0, none⟩), .nilIface]) ∧ DkAt w.heap.size w' d (fresh n) ms ml (.slice none 0 0) 0 ∧ Below w.heap.size w w' :=
 (disk_new n w h2 h4).mono fun _ _ ⟨d, ms, ml, he, hd, hb⟩ => ⟨d, ms, ml, he, ⟨⟨_, _, _, hd, Nat.le_refl _, Nat.le_refl _⟩, fun _ => rfl, Nat.le_refl _⟩, hb⟩
theorem deed_any {c1 c2 : Nat} {fS : Int → Option Value} (w : World) (h : DiskAt B w d S ms ml v c1 c2 fS) (hz : Dk.dead S = false) (hd : S.deeds + 1 ≤ 1000000) :
  Calls Tryd.prog 57 #[.pointer (some ⟨d, 0, none⟩)] w fun e w' => e = .returned .nilIface ∧ DiskAt B w' d (Dk.did S) ms ml v c1 c2 fS ∧ w.grownBy w' (some d) := by
 cases ha : S.armed with
 | false =>
  have e : Dk.did S = { S with deeds := S.deeds + 1 } := by unfold Dk.did; rw [ha]; rfl
  rw [e]
  exact deed_free w h ha hd
 | true =>
  have e : Dk.did S = { S with left := S.left - 1, deeds := S.deeds + 1 } := by unfold Dk.did; rw [ha]; rfl
  rw [e]
  refine deed_armed w h ha ?_ hd
  unfold Dk.dead at hz
  rw [ha, Bool.true_and] at hz
  have := beq_eq_false_iff_ne.1 hz
  omega
theorem dk_write (i : Nat) (A : Option Addr) (n c : Nat) (bs : List Nat) (aD : Addr) (w : World) (h : DkAt B w d S ms ml v k) (hi : i < S.size) (hn : n ≤ 32) (hv : RdB w d (.slice A n c) bs) (hb : Sha.Byte bs) (hk : k < 1000000)
  (hD : w.cell? ⟨2, 0, none⟩ = some (ev aD)) (hne : d ≠ 2) :
  Calls Tryd.prog 56 #[.pointer (some ⟨d, 0, none⟩), .int .i64 (i : Int), .slice A n c] w fun e w' => e = .returned (er (Dk.done S) aD) ∧ (∃ v', DkAt B w' d (Dk.wrote S i bs) ms ml v' (k + 1)) ∧ Fr w w' d ms ml v := by
 have hmono := h.mono (Nat.le_succ k)
 obtain ⟨⟨c1, c2, fS, h1, h2, h3⟩, h4, h5⟩ := h
 cases ho : S.off with
 | true =>
  have e1 : Dk.done S = false := by unfold Dk.done; rw [ho]; rfl
  have e2 : Dk.wrote S i bs = S := by unfold Dk.wrote; rw [ho]; rfl
  rw [e1, e2]
  exact (write_off i _ aD w h1 ho hD).mono fun e w' ⟨he, hw⟩ => by subst hw; exact ⟨he, ⟨v, hmono⟩, Fr.refl⟩
 | false =>
  cases hz : Dk.dead S with
  | true =>
   have e1 : Dk.done S = false := by unfold Dk.done; rw [ho, hz]; rfl
   have e2 : Dk.wrote S i bs = { S with off := true } := by unfold Dk.wrote; rw [ho, hz]; rfl
   rw [e1, e2]
   unfold Dk.dead at hz
   obtain ⟨ha, hl⟩ := Bool.and_eq_true_iff.1 hz
   exact (write_dead i A n c aD w h1 ho hi hn ha (by simpa using hl) hD hne).mono fun e w' ⟨he, hw, hg⟩ => ⟨he, ⟨v, ⟨c1, c2, fS, hw, by show c1 + S.pend.length ≤ k + 1; omega, by omega⟩, h4, by show S.deeds ≤ k + 1; omega⟩, Fr.of hg fun g e => Or.inl (by injection e with e; exact e.symm)⟩
  | false =>
   have e1 : Dk.done S = true := by unfold Dk.done; rw [ho, hz]; rfl
   have e2 : Dk.wrote S i bs = Dk.wr (Dk.did S) i bs := by unfold Dk.wrote; rw [ho, hz]; rfl
   rw [e1, e2]
   exact (write_ok0 i A n c bs w (Dk.did S) h1 ho hi hn hv hi hb (show S.pend.length < 1000000 by omega) (by omega) (deed_any w h1 hz (by omega))).mono fun e w' ⟨he, ⟨v', hw, hf⟩⟩ =>
    ⟨he, ⟨v', ⟨c1, c2 + 1, fS, hw, by show c1 + (S.pend ++ [(i, padB bs)]).length ≤ k + 1; rw [List.length_append, List.length_singleton]; omega, by omega⟩, fun e => by have := congrArg List.length e; simp [Dk.wr] at this, by show S.deeds + 1 ≤ k + 1; omega⟩, hf⟩
theorem dk_sync (aD : Addr) (w : World) (h : DkAt B w d S ms ml v k) (hk : k < 1000000) (hD : w.cell? ⟨2, 0, none⟩ = some (ev aD)) (hne : d ≠ 2) :
  Calls Tryd.prog 43 #[.pointer (some ⟨d, 0, none⟩)] w fun e w' => e = .returned (er (Dk.done S) aD) ∧ (∃ v', DkAt B w' d (Dk.syncs S) ms ml v' (k + 1)) ∧ ∀ u, Fr w w' d ms ml u := by
 have hmono := h.mono (Nat.le_succ k)
 obtain ⟨⟨c1, c2, fS, h1, h2, h3⟩, h4, h5⟩ := h
 cases ho : S.off with
 | true =>
  have e1 : Dk.done S = false := by unfold Dk.done; rw [ho]; rfl
  have e2 : Dk.syncs S = S := by unfold Dk.syncs; rw [ho]; rfl
  rw [e1, e2]
  exact (sync_off aD w h1 ho hD).mono fun e w' ⟨he, hw⟩ => by subst hw; exact ⟨he, ⟨v, hmono⟩, fun u => Fr.refl⟩
 | false =>
  cases hz : Dk.dead S with
  | true =>
   have e1 : Dk.done S = false := by unfold Dk.done; rw [ho, hz]; rfl
   have e2 : Dk.syncs S = { S with off := true } := by unfold Dk.syncs; rw [ho, hz]; rfl
   rw [e1, e2]
   unfold Dk.dead at hz
   obtain ⟨ha, hl⟩ := Bool.and_eq_true_iff.1 hz
   exact (sync_dead aD w h1 ho ha (by simpa using hl) hD hne).mono fun e w' ⟨he, hw, hg⟩ => ⟨he, ⟨v, ⟨c1, c2, fS, hw, by show c1 + S.pend.length ≤ k + 1; omega, by omega⟩, h4, by show S.deeds ≤ k + 1; omega⟩, fun u => Fr.of hg fun g e => Or.inl (by injection e with e; exact e.symm)⟩
  | false =>
   have e1 : Dk.done S = true := by unfold Dk.done; rw [ho, hz]; rfl
   have e2 : Dk.syncs S = Dk.synced (Dk.did S) := by unfold Dk.syncs; rw [ho, hz]; rfl
   rw [e1, e2]
   exact (sync_ok0 w (Dk.did S) h1 ho (show c1 + S.pend.length < 1000000000 by omega) (deed_any w h1 hz (by omega))).mono fun e w' ⟨he, ⟨fS', hw⟩, hf⟩ =>
    ⟨he, ⟨_, ⟨_, c2, fS', hw, by show c1 + S.pend.length + 0 ≤ k + 1; omega, by omega⟩, fun _ => rfl, by have := (Dk.puts_keeps (Dk.did S) (Dk.did S).pend).2.2.2.2.2; show (Dk.puts (Dk.did S) (Dk.did S).pend).deeds ≤ k + 1; rw [this]; show S.deeds + 1 ≤ k + 1; omega⟩, hf⟩
theorem dk_arm (n : Nat) (w : World) (h : DkAt B w d S ms ml v k) (ho : S.off = false) (hn : n ≤ 9223372036854775807) :
  Calls Tryd.prog 8 #[.pointer (some ⟨d, 0, none⟩), .int .i64 (n : Int)] w fun e w' => e = .returned .nilIface ∧ DkAt B w' d { S with armed := true, left := n } ms ml v k ∧ ∀ u, Fr w w' d ms ml u := by
 obtain ⟨⟨c1, c2, fS, h1, h2, h3⟩, h4, h5⟩ := h
 exact (arm_ok n w h1 hn ho).mono fun e w' ⟨he, hw, hg⟩ => ⟨he, ⟨⟨c1, c2, fS, hw, h2, h3⟩, h4, h5⟩, fun u => Fr.of hg fun g e => Or.inl (by injection e with e; exact e.symm)⟩
theorem dk_crash (A : Option Addr) (n c : Nat) (ts : List Bool) (w : World) (h : DkAt B w d S ms ml v k) (hn : ts.length = n) (hr : RdT w A ts) (hk : k ≤ 1000000) :
  Calls Tryd.prog 15 #[.pointer (some ⟨d, 0, none⟩), .slice A n c] w fun e w' => e = .returned (.int .i64 ((keptTo S.pend ts S.pend.length).length : Int)) ∧ (∃ v', DkAt B w' d (Dk.crashed S (keptTo S.pend ts S.pend.length)) ms ml v' k) ∧ ∀ u, Fr w w' d ms ml u := by
 obtain ⟨⟨c1, c2, fS, h1, h2, h3⟩, h4, h5⟩ := h
 have hl : (keptTo S.pend ts S.pend.length).length ≤ S.pend.length := keptTo_len _
 exact (crash_any A n c ts w h1 hn hr (by omega)).mono fun e w' ⟨he, ⟨fS', hw⟩, hf⟩ => ⟨he, ⟨_, ⟨_, c2, fS', hw, by show c1 + (keptTo S.pend ts S.pend.length).length + 0 ≤ k; omega, h3⟩, fun _ => rfl, by have := (Dk.puts_keeps S (keptTo S.pend ts S.pend.length)).2.2.2.2.2; show (Dk.puts S _).deeds ≤ k; rw [this]; exact h5⟩, hf⟩
theorem dk_read (i : Nat) (w : World) (h : DkAt B w d S ms ml v k) (ho : S.off = false) (hi : i < S.size) :
  Calls Tryd.prog 60 #[.pointer (some ⟨d, 0, none⟩), .int .i64 (i : Int)] w fun e w' => ∃ g, e = .returned (.tuple #[.slice (some ⟨g, 0, none⟩) 32 32, .nilIface]) ∧ Blk w' g 66 (u8s (Dk.seen S i)) ∧ w.heap.size ≤ g ∧ Below w.heap.size w w' := by
 obtain ⟨⟨c1, c2, fS, h1, h2, h3⟩, h4, h5⟩ := h
 cases hl : Dk.last S.pend (i : Int) with
 | none =>
  have e : Dk.seen S i = S.safe i := by unfold Dk.seen; rw [hl]
  rw [e]
  exact read_safe i w h1 ho hi hl
 | some j =>
  obtain ⟨p, hp, hpi⟩ := Dk.last_some hl
  have hpe : p = (i, p.2) := by obtain ⟨a, b⟩ := p; simp at hpi ⊢; omega
  have e : Dk.seen S i = p.2 := by unfold Dk.seen; rw [hl]; simp only [hp]; rfl
  rw [e]
  exact read_pend i j p.2 w h1 ho hi hl (by rw [hp, ← hpe])
theorem rd_of_sec {w : World} {g : Nat} {t : TypeId} {bs : List Nat} (h : Blk w g t (u8s bs)) (hl : bs.length = 32) : Rd w (.slice (some ⟨g, 0, none⟩) 32 32) bs :=
 ⟨_, _, by rw [hl], by omega, fun _ => ⟨g, 0, rfl, h.lt, fun i hi => by rw [Nat.zero_add, h.cell i, u8s_get _ _ hi]⟩⟩
theorem seen_len {S : Dk.D} (h : Dk.Ok S) (i : Nat) : (Dk.seen S i).length = 32 := by
 unfold Dk.seen
 split
 ·rename_i k hk
  obtain ⟨p, hp, _⟩ := Dk.last_some hk
  rw [hp]
  exact (h.plen p (List.mem_of_getElem? hp)).2.1
 ·exact h.len i
theorem seen_byte {S : Dk.D} (h : Dk.Ok S) (i : Nat) : Sha.Byte (Dk.seen S i) := by
 unfold Dk.seen
 split
 ·rename_i k hk
  obtain ⟨p, hp, _⟩ := Dk.last_some hk
  rw [hp]
  exact (h.plen p (List.mem_of_getElem? hp)).2.2
 ·exact h.byte i
end
end Go.Proofs.YtdokojlgcplefaaDoor
/- Arguments of laws, opened: slices of bools, slices of acts (two numbers, bytes, bools). -/
namespace Go.Proofs.YtdokojlgcplefaaDoor
open Go Go.RowKit Go.WideShapes Go.ChangeShapes Go.Deep
structure ActD where
 kind : Int
 n : Int
 A : Option Addr
 l : Nat
 c : Nat
 bs : List Nat
 K : Option Addr
 kl : Nat
 kc : Nat
 ts : List Bool
def ActD.cells (x : ActD) : List Value := [.int .i64 x.kind, .int .i64 x.n, .slice x.A x.l x.c, .slice x.K x.kl x.kc]
structure ActD.Ok (w : World) (x : ActD) : Prop where
 rd : Rd w (.slice x.A x.l x.c) x.bs
 len : x.bs.length = x.l
 byte : Sha.Byte x.bs
 ts : RdT w x.K x.ts
 tlen : x.ts.length = x.kl
 nwf : (Lit.int .i64 x.n).wf = true
structure ARow (w : World) (b o : Nat) (xs : List ActD) : Prop where
 row : ∀ i x, xs[i]? = some x → w.rangeAt b (o + 4 * i) x.cells
 ok : ∀ x ∈ xs, x.Ok w
 lt : b < w.heap.size
theorem rdT_below {w w' : World} {A : Option Addr} {ts : List Bool} (h : RdT w A ts) {B : Nat} (hb : Below B w w') (hB : w.heap.size ≤ B) : RdT w' A ts := fun h0 => by
 obtain ⟨b, o, ha, hl, hx⟩ := h h0
 have := hb.size
 exact ⟨b, o, ha, by omega, fun j t ht => (hb.cell (p := ⟨b, o + j, none⟩) (by show b < B; omega)).trans (hx j t ht)⟩
theorem ARow.below {w w' : World} {B b o : Nat} {xs : List ActD} (h : ARow w b o xs) (hb : Below B w w') (hB : w.heap.size ≤ B) : ARow w' b o xs where
 row := fun i x hx => rangeAt_block (h.row i x hx) (hb.block b (Nat.lt_of_lt_of_le h.lt hB))
 ok := fun x hx => ⟨(h.ok x hx).rd.below hb hB, (h.ok x hx).len, (h.ok x hx).byte, rdT_below (h.ok x hx).ts hb hB, (h.ok x hx).tlen, (h.ok x hx).nwf⟩
 lt := Nat.lt_of_lt_of_le h.lt hb.size
section
variable {H : Type} {enc : TypeId × Value → H} {P : Program} {W : World} {held : Bool} {ts t tI tS tK q qb : TypeId} {f0 f1 f2 f3 : Field}
theorem mapM_cellsA {w : World} {a : Addr} : ∀ (L : List Nat) (cs : List Value), L.mapM (fun i => w.cell? (a.add i)) = some cs → ∀ j, j < L.length → ∃ v, cs[j]? = some v ∧ w.cell? (a.add (L.getD j 0)) = some v
 | [], _, _, j, hj => by simp at hj
 | i :: L, cs, h, j, hj => by
  rw [List.mapM_cons] at h
  simp only [bind, Option.bind_eq_some_iff, pure, Option.some.injEq] at h
  obtain ⟨y, hy, ys, hys, rfl⟩ := h
  cases j with
  | zero => exact ⟨y, rfl, by simpa using hy⟩
  | succ j =>
   obtain ⟨v, h1, h2⟩ := mapM_cellsA L ys hys j (by simpa using hj)
   exact ⟨v, by simpa using h1, by simpa using h2⟩
theorem rdT_of_bools {fuel : Nat} {v : Value} {x : DataW H × List MemPlace} (ht : P.underlying t = some (.slice qb)) (he : P.underlying qb = some .bool) (hc : P.cellsOf qb = 1)
  (h : DataW.trod enc P W 0 (fun _ => true) held fuel t [v] = some x) : ∃ (A : Option Addr) (ts : List Bool) (c : Nat), v = .slice A ts.length c ∧ RdT W A ts ∧ ts.length ≤ maxLen := by
 rcases open_bools ht he hc h with ⟨h0, _⟩ | ⟨a, len, cap, Bf, h0, _, hl, hm, _, hx⟩
 ·obtain rfl : v = .slice none 0 0 := by simpa using h0
  exact ⟨none, [], 0, rfl, fun h => absurd h (by simp), Nat.zero_le _⟩
 ·obtain rfl : v = .slice (some a) len cap := by simpa using h0
  refine ⟨some a, (List.range len).map Bf, cap, by simp, fun h1 => ?_, by simp; omega⟩
  obtain ⟨b, o, s⟩ := a
  have hlen : 0 < len := by simpa using h1
  have hc0 := hx 0 (by omega)
  rw [show (⟨b, o, s⟩ : Addr).add 0 = ⟨b, o, s⟩ from by simp [Addr.add]] at hc0
  obtain rfl := spot_free hc0
  refine ⟨b, o, rfl, block_lt_of_cell hc0, fun j t ht => ?_⟩
  have hj : j < len := by have := (List.getElem?_eq_some_iff.1 ht).1; simpa using this
  have e1 := hx j (by omega)
  rw [show (⟨b, o, none⟩ : Addr).add j = ⟨b, o + j, none⟩ from by simp [Addr.add]] at e1
  have e2 : t = Bf j := by simp [hj] at ht; exact ht.symm
  rw [e1, e2]
end
end Go.Proofs.YtdokojlgcplefaaDoor
