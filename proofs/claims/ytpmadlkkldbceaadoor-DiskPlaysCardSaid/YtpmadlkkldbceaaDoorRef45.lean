/- The document's own disk: Sync; Crash. -/
import Derived.Test.YtpmadlkkldbceaaDoorRef44
import Derived.Test.YtpmadlkkldbceaaDoorDisk10
namespace Go.Proofs.YtpmadlkkldbceaaDoor
open Go Go.RowKit
section
variable {B BB : Nat} {w w' : World} {r : Nat} {S : Dk.D} {vS vA vB : Value} {us ub : List Value}
theorem RefAt.put (h : RefAt B BB w r S vS vA vB us ub) {k : Nat} {p : Nat × List Nat} (hp : S.pend[k]? = some p) {gS n c : Nat} (e : vS = .slice (some ⟨gS, 0, none⟩) n c) {u1 : Value} (hu : ub[k]? = some u1) :
    RefAt B BB (w.setCell ⟨gS, p.1, none⟩ u1) r (Dk.put S p.1 p.2) vS vA vB (us.set p.1 u1) ub ∧ w.grownBy (w.setCell ⟨gS, p.1, none⟩ u1) (some gS) := by
  have hpk := h.ok.plen p (List.mem_of_getElem? hp)
  obtain ⟨u1', hu', hs1⟩ := h.secB k p hp
  obtain rfl : u1' = u1 := by rw [hu] at hu'; injection hu' with hu'; exact hu'.symm
  obtain ⟨A, c', e2⟩ := row_slice h.rowS
  obtain rfl : n = S.size := by rw [e] at e2; injection e2
  have hrow := h.rowS
  rw [e] at hrow
  have hst := hrow.stored p.1 u1'
  have hg := hst.2
  obtain ⟨cS, hcS⟩ := own_row hrow (g := gS) rfl
  have nsec : ∀ g cs, some gS = some g → ¬ Blk w g 5 cs := fun g cs e => by injection e with e; subst e; exact no_u8 hcS (by decide) cs
  have hltB : gS < BB := h.ne gS (by rw [e]; rfl)
  refine ⟨⟨h.blk.grown hg (fun e => by injection e with e; exact own_ne h.blk hcS (by decide) e), by rw [e]; exact hst.1, fun i hi => ?_, ownR_kept h.rowA hg (fun g e => by injection e with e; subst e; exact ty_ne hcS h.rowA (by decide)), ownR_kept h.rowB hg (fun g e he => by injection e with e; subst e; have := (h.rowB.lt _ he).1; omega), fun j q hq => ?_, h.ne, ⟨h.bb.1, Nat.le_trans h.bb.2 hg.size⟩, h.bd, ?_⟩, hg⟩
  · have hlu : us.length = S.size := by have := h.rowS.1; rwa [Nat.mul_one] at this
    by_cases he : i = p.1
    · subst he
      exact ⟨u1', by rw [List.getElem?_set_self (by omega)], by show Sec B _ u1' (if p.1 = p.1 then p.2 else _); rw [if_pos rfl]; exact hs1.kept hg nsec⟩
    · obtain ⟨u, k1, k2⟩ := h.secS i hi
      exact ⟨u, by rw [List.getElem?_set_ne (fun e => he e.symm)]; exact k1, by show Sec B _ u (if i = p.1 then p.2 else S.safe i); rw [if_neg he]; exact k2.kept hg nsec⟩
  · obtain ⟨u, k1, k2⟩ := h.secB j q hq
    exact ⟨u, k1, k2.kept hg nsec⟩
  · exact ⟨h.ok.size, fun j => by show (if j = p.1 then p.2 else S.safe j).length = 32; split; exact hpk.2.1; exact h.ok.len j, fun j => by show Sha.Byte (if j = p.1 then p.2 else S.safe j); split; exact hpk.2.2; exact h.ok.byte j, h.ok.plen, h.ok.few, h.ok.left, h.ok.deeds⟩
theorem RefAt.drew (h : RefAt B BB w r S vS vA vB us ub) : RefAt B BB w.drew r S vS vA vB us ub := h.stands (Nat.le_refl _) fun _ _ => rfl
theorem RefAt.bare (h : RefAt B BB w r S vS vA vB us ub) :
    RefAt B BB ((w.setCell ⟨r, 1, none⟩ (.slice none 0 0)).setCell ⟨r, 2, none⟩ (.slice none 0 0)) r { S with pend := [] } vS (.slice none 0 0) (.slice none 0 0) us [] ∧ w.grownBy ((w.setCell ⟨r, 1, none⟩ (.slice none 0 0)).setCell ⟨r, 2, none⟩ (.slice none 0 0)) (some r) := by
  have hg : w.grownBy ((w.setCell ⟨r, 1, none⟩ (.slice none 0 0)).setCell ⟨r, 2, none⟩ (.slice none 0 0)) (some r) := only_trans (set_own 1 _) (set_own 2 _)
  have hb := (h.blk.set_ 1 (.slice none 0 0)).set_ 2 (.slice none 0 0)
  simp only [List.setIfInBounds_toArray, List.set_cons_zero, List.set_cons_succ] at hb
  exact ⟨⟨hb, ownR_kept h.rowS hg (fun g e => by injection e with e; subst e; exact ty_ne h.blk h.rowS (by decide)), fun i hi => by
      obtain ⟨u, k1, k2⟩ := h.secS i hi
      exact ⟨u, k1, k2.kept hg (fun g cs e => by injection e with e; subst e; exact no_u8 h.blk (by decide) cs)⟩, ⟨rfl, Or.inl ⟨rfl, rfl⟩⟩, ⟨rfl, Or.inl ⟨rfl, rfl⟩⟩, fun k p hp => by simp at hp, h.ne, ⟨h.bb.1, Nat.le_trans h.bb.2 hg.size⟩, h.bd, ⟨h.ok.size, h.ok.len, h.ok.byte, fun p hp => (by cases hp), Nat.zero_le _, h.ok.left, h.ok.deeds⟩⟩, hg⟩
def RInv (B BB : Nat) (w wr : World) (r : Nat) (S : Dk.D) (vS vA vB : Value) (ub : List Value) (ks : List (Nat × List Nat)) : Prop :=
  (∃ us, RefAt B BB wr r (Dk.puts S ks) vS vA vB us ub) ∧ RFr w wr (fun b => vS.ownBlock = some b)
end
section
variable {B BB : Nat} {r : Nat} {S : Dk.D} {vS vA vB : Value} {us ub : List Value}
theorem refsync_off (w : World) (h : RefAt B BB w r S vS vA vB us ub) (ho : S.off = true) :
    Calls Tryd.prog 15 #[.pointer (some ⟨r, 0, none⟩)] w fun e w' => e = .returned (.int .i64 16) ∧ w = w' := by
  have p4 : w.cell? ⟨r, 4, none⟩ = some (.bool true) := by have := h.blk.cell 4; rw [ho] at this; exact this
  clear h ho
  go_enter Tryd.func15, Tryd.ntmps15
  go_wp2
  go_ret
  exact ⟨rfl, rfl⟩
theorem refsync_dead (w : World) (h : RefAt B BB w r S vS vA vB us ub) (ho : S.off = false) (hd : Dk.dead S = true) :
    Calls Tryd.prog 15 #[.pointer (some ⟨r, 0, none⟩)] w fun e w' => e = .returned (.int .i64 16) ∧ RefAt B BB w' r { S with off := true } vS vA vB us ub ∧ w.grownBy w' (some r) := by
  have p4 : w.cell? ⟨r, 4, none⟩ = some (.bool false) := by have := h.blk.cell 4; rw [ho] at this; exact this
  have CD := refdeed_dead w h hd
  clear h ho
  go_enter Tryd.func15, Tryd.ntmps15
  go_wp2_with (go_at_call 31; refine CD.mono ?_; rintro e w' ⟨rfl, h1, h2⟩; have H1 := Lib.hid h1; have H2 := Lib.hid h2; clear h1 h2)
  go_ret
  exact ⟨rfl, H1.out, H2.out⟩
set_option maxRecDepth 100000 in
set_option maxHeartbeats 1000000 in
theorem refsync_ok (w : World) (h : RefAt B BB w r S vS vA vB us ub) (ho : S.off = false) (hd : Dk.dead S = false) (hk : S.deeds + 1 ≤ 1000000) :
    Calls Tryd.prog 15 #[.pointer (some ⟨r, 0, none⟩)] w fun e w' => e = .returned (.int .i64 0) ∧ (∃ us', RefAt B BB w' r (Dk.synced (Dk.did S)) vS (.slice none 0 0) (.slice none 0 0) us' []) ∧ RFr w w' (RX r vS vA vB) := by
  have p4 : w.cell? ⟨r, 4, none⟩ = some (.bool false) := by have := h.blk.cell 4; rw [ho] at this; exact this
  have CD := refdeed_did w h hd hk
  have hsz : (Dk.did S).pend = S.pend := rfl
  clear h ho
  go_enter Tryd.func15, Tryd.ntmps15
  go_wp2_with (go_at_call 31; refine CD.mono ?_; rintro e w1 ⟨rfl, h1, h2⟩; obtain ⟨AA, cA, eA⟩ := row_slice h1.rowA; rw [hsz] at eA; subst eA; have p1 : w1.cell? ⟨r, 1, none⟩ = some (.slice AA S.pend.length cA) := h1.blk.cell 1; have H1 := Lib.hid h1; have H2 := Lib.hid h2; clear h1 h2)
  have hfew : S.pend.length ≤ 1000000 := H1.out.ok.few
  have H0 : Hid (RInv B BB w1 w1 r (Dk.did S) vS (.slice AA S.pend.length cA) vB ub (S.pend.take 0)) := Lib.hid ⟨⟨us, H1.out⟩, RFr.refl⟩
  have HPE : Hid (∀ ks, (Dk.puts (Dk.did S) ks).pend = S.pend) := Lib.hid fun ks => (Dk.puts_keeps _ ks).1
  have HSI : Hid (∀ ks, (Dk.puts (Dk.did S) ks).size = S.size) := Lib.hid fun ks => (Dk.puts_keeps _ ks).2.1
  clear hsz hd
  go_loopw [3, 4, 19] (fun u3 u4 j wr => ∃ k : Nat, k ≤ S.pend.length ∧ j = .int .i64 k ∧ Hid (RInv B BB w1 wr r (Dk.did S) vS (.slice AA S.pend.length cA) vB ub (S.pend.take k))) (fun _ _ j _ => S.pend.length - (intOf j).toNat)
  case atStart => exact ⟨0, Nat.zero_le _, rfl, H0⟩
  case round =>
    obtain ⟨k, hk, rfl, HK⟩ := hrel
    obtain ⟨⟨us1, hR⟩, hF⟩ := HK.out
    by_cases hlt : k < S.pend.length
    · obtain ⟨p, hp⟩ : ∃ p, S.pend[k]? = some p := ⟨S.pend[k]'hlt, List.getElem?_eq_getElem _⟩
      have hp' : (Dk.puts (Dk.did S) (S.pend.take k)).pend[k]? = some p := by rw [HPE.out]; exact hp
      have hpk := hR.ok.plen p (List.mem_of_getElem? hp')
      rw [HSI.out] at hpk
      obtain ⟨gA, capA, eA, _, _, hA⟩ := own_cells hR.rowA (by rw [HPE.out]; omega)
      obtain ⟨gB, capB, eB, _, _, hB⟩ := own_cells hR.rowB (by rw [HPE.out]; omega)
      obtain ⟨gS, capS, eS, _, _, hS⟩ := own_cells hR.rowS (by rw [HSI.out]; omega)
      obtain ⟨u1, hu1, hs1⟩ := hR.secB k p hp'
      obtain ⟨u0, hu0, _⟩ := hR.secS p.1 (by rw [HSI.out]; exact hpk.1)
      have qS := hS p.1 u0 hu0
      rw [HPE.out] at eA eB hA
      rw [HSI.out] at eS
      injection eA with eA1 _ eA2
      subst eA1 eA2
      have qA : wr.cell? ⟨gA, k, none⟩ = some (.int .i64 (p.1 : Int)) := hA k _ (by simp [atCells, hp])
      have qB := hB k u1 hu1
      have p0 : wr.cell? ⟨r, 0, none⟩ = some (.slice (some ⟨gS, 0, none⟩) S.size capS) := by rw [← eS]; exact hR.blk.cell 0
      have p2 : wr.cell? ⟨r, 2, none⟩ = some (.slice (some ⟨gB, 0, none⟩) S.pend.length capB) := by rw [← eB]; exact hR.blk.cell 2
      have zS : wr.frozen? ⟨gS, p.1, none⟩ = false := World.ownsRow.frozenAt (by have := hR.rowS; rw [eS, HSI.out] at this; exact this) p.1
      have hput := hR.put hp' eS hu1
      have HN : Hid (RInv B BB w1 (wr.setCell ⟨gS, p.1, none⟩ u1).drew r (Dk.did S) vS (.slice (some ⟨gA, 0, none⟩) S.pend.length cA) vB ub (S.pend.take (k + 1))) := Lib.hid ⟨⟨_, by rw [Dk.puts_take _ _ k p hp]; exact hput.1.drew⟩, hF.trans (RFr.of (only_drew hput.2) (fun g e => by rw [eS]; exact e)) (fun _ _ h => h)⟩
      have i1 : (0 : Int) ≤ ((k : Nat) : Int) := by omega
      have i2 : ((k : Nat) : Int) < S.pend.length := by omega
      have i3 : (0 : Int) ≤ ((p.1 : Nat) : Int) := by omega
      have i4 : ((p.1 : Nat) : Int) < S.size := by have := hpk.1; omega
      obtain ⟨g1, rfl, _⟩ := hs1
      clear hput hpk hu0 hu1 hA hB hS hp' hp hR hF HK
      go_wp2
      refine wp_region_still_tail 13 (by kernel_rfl) (by kernel_rfl) ?_
      change wpStill _ _ wr.drew (fun a' => wpList _ _ _ _ a' wr.drew) _ _
      dsimp only [List.take, List.drop]
      repeat still_step
      refine wpStill_nil ?_
      change wpList _ _ _ _ _ wr.drew
      go_wp2
      exact ⟨⟨k + 1, by omega, by simp, HN⟩, by simp [intOf]; omega⟩
    · obtain rfl : k = S.pend.length := by omega
      have i2 : ¬ ((S.pend.length : Nat) : Int) < S.pend.length := by omega
      have z1 := hR.blk.frozen 1
      have z2 := hR.blk.frozen 2
      have q1 : wr.cell? ⟨r, 1, none⟩ = some (.slice AA S.pend.length cA) := hR.blk.cell 1
      have q2 : wr.cell? ⟨r, 2, none⟩ = some vB := hR.blk.cell 2
      have hn := hR.bare
      have HNO := Lib.hid hn
      have HF := Lib.hid hF
      clear hn hR hF HK
      go_wp2
      go_ret
      refine ⟨rfl, ⟨us1, ?_⟩, ?_⟩
      · have := HNO.out.1
        rw [List.take_length] at this
        exact this
      · have f1 : RFr w w1 (RX r vS (.slice AA S.pend.length cA) vB) := RFr.of H2.out fun g e => Or.inl (by injection e with e; exact e.symm)
        have f2 : RFr wr _ (RX r vS (.slice AA S.pend.length cA) vB) := RFr.of HNO.out.2 fun g e => Or.inl (by injection e with e; exact e.symm)
        exact (f1.trans HF.out (fun _ _ h => Or.inr (Or.inl h))).trans f2 (fun _ _ h => h)
theorem RefAt.crash_end {w : World} {ks : List (Nat × List Nat)} {vA' vB' : Value} {ub' : List Value} (h : RefAt B BB w r { Dk.puts S ks with pend := [] } vS vA' vB' us ub') :
    RefAt B BB ((w.setCell ⟨r, 3, none⟩ (.int .i64 (-1))).setCell ⟨r, 4, none⟩ (.bool false)) r (Dk.crashed S ks) vS vA' vB' us ub' ∧ w.grownBy ((w.setCell ⟨r, 3, none⟩ (.int .i64 (-1))).setCell ⟨r, 4, none⟩ (.bool false)) (some r) := by
  have hg : w.grownBy ((w.setCell ⟨r, 3, none⟩ (.int .i64 (-1))).setCell ⟨r, 4, none⟩ (.bool false)) (some r) := only_trans (set_own 3 _) (set_own 4 _)
  have hb := (h.blk.set_ 3 (.int .i64 (-1))).set_ 4 (.bool false)
  simp only [List.setIfInBounds_toArray, List.set_cons_zero, List.set_cons_succ] at hb
  exact ⟨h.box rfl rfl rfl (Nat.zero_le _) h.ok.deeds hb hg, hg⟩
set_option maxRecDepth 100000 in
set_option maxHeartbeats 1000000 in
theorem refcrash_any (A : Option Addr) (n c : Nat) (ts : List Bool) (w : World) (h : RefAt B BB w r S vS vA vB us ub) (hn : ts.length = n) (hr : RdT w A ts) (hlow : 0 < ts.length → ∀ ad, A = some ad → ad.block < B) :
    Calls Tryd.prog 19 #[.pointer (some ⟨r, 0, none⟩), .slice A n c] w fun e w' => e = .returned (.int .i64 ((keptTo S.pend ts S.pend.length).length : Int)) ∧ (∃ us', RefAt B BB w' r (Dk.crashed S (keptTo S.pend ts S.pend.length)) vS (.slice none 0 0) (.slice none 0 0) us' []) ∧ RFr w w' (RX r vS vA vB) := by
  obtain ⟨AA, cA, eA⟩ := row_slice h.rowA
  subst eA
  have p1 : w.cell? ⟨r, 1, none⟩ = some (.slice AA S.pend.length cA) := h.blk.cell 1
  have hfew : S.pend.length ≤ 1000000 := h.ok.few
  have H0 : Hid (RInv B BB w w r S vS (.slice AA S.pend.length cA) vB ub (keptTo S.pend ts 0)) := Lib.hid ⟨⟨us, h⟩, RFr.refl⟩
  have HPE : Hid (∀ ks, (Dk.puts S ks).pend = S.pend) := Lib.hid fun ks => (Dk.puts_keeps _ ks).1
  have HSI : Hid (∀ ks, (Dk.puts S ks).size = S.size) := Lib.hid fun ks => (Dk.puts_keeps _ ks).2.1
  have HR := Lib.hid hr
  have HN := Lib.hid hn
  have HLO := Lib.hid hlow
  clear h hr hn hlow
  go_enter Tryd.func19, Tryd.ntmps19
  go_wp2
  go_loopw [5, 6, 7, 13] (fun m u6 u7 j wr => ∃ k : Nat, k ≤ S.pend.length ∧ j = .int .i64 k ∧ m = .int .i64 ((keptTo S.pend ts k).length : Int) ∧ Hid (RInv B BB w wr r S vS (.slice AA S.pend.length cA) vB ub (keptTo S.pend ts k))) (fun _ _ _ j _ => S.pend.length - (intOf j).toNat)
  case atStart => exact ⟨0, Nat.zero_le _, rfl, rfl, H0⟩
  case round =>
    obtain ⟨k, hk, rfl, rfl, HK⟩ := hrel
    obtain ⟨⟨us1, hR⟩, hF⟩ := HK.out
    by_cases hlt : k < S.pend.length
    · obtain ⟨p, hp⟩ : ∃ p, S.pend[k]? = some p := ⟨S.pend[k]'hlt, List.getElem?_eq_getElem _⟩
      have hp' : (Dk.puts S (keptTo S.pend ts k)).pend[k]? = some p := by rw [HPE.out]; exact hp
      have hpk := hR.ok.plen p (List.mem_of_getElem? hp')
      rw [HSI.out] at hpk
      obtain ⟨gA, capA, eA, _, _, hA⟩ := own_cells hR.rowA (by rw [HPE.out]; omega)
      obtain ⟨gB, capB, eB, _, _, hB⟩ := own_cells hR.rowB (by rw [HPE.out]; omega)
      obtain ⟨gS, capS, eS, _, _, hS⟩ := own_cells hR.rowS (by rw [HSI.out]; omega)
      obtain ⟨u1, hu1, hs1⟩ := hR.secB k p hp'
      obtain ⟨u0, hu0, _⟩ := hR.secS p.1 (by rw [HSI.out]; exact hpk.1)
      have qS := hS p.1 u0 hu0
      rw [HPE.out] at eA eB hA
      rw [HSI.out] at eS
      injection eA with eA1 _ eA2
      subst eA1 eA2
      have qA : wr.cell? ⟨gA, k, none⟩ = some (.int .i64 (p.1 : Int)) := hA k _ (by simp [atCells, hp])
      have qB := hB k u1 hu1
      have p0 : wr.cell? ⟨r, 0, none⟩ = some (.slice (some ⟨gS, 0, none⟩) S.size capS) := by rw [← eS]; exact hR.blk.cell 0
      have p2 : wr.cell? ⟨r, 2, none⟩ = some (.slice (some ⟨gB, 0, none⟩) S.pend.length capB) := by rw [← eB]; exact hR.blk.cell 2
      have zS : wr.frozen? ⟨gS, p.1, none⟩ = false := World.ownsRow.frozenAt (by have := hR.rowS; rw [eS, HSI.out] at this; exact this) p.1
      have hput := hR.put hp' eS hu1
      have hgB : B ≤ gS := (hR.rowS.lt gS (by rw [eS]; rfl)).1
      have i1 : (0 : Int) ≤ ((k : Nat) : Int) := by omega
      have i2 : ((k : Nat) : Int) < S.pend.length := by omega
      have i3 : (0 : Int) ≤ ((p.1 : Nat) : Int) := by omega
      have i4 : ((p.1 : Nat) : Int) < S.size := by have := hpk.1; omega
      obtain ⟨g1, rfl, _⟩ := hs1
      have HP := Lib.hid hp
      have HPUT := Lib.hid hput
      have HF := Lib.hid hF
      have HES := Lib.hid eS
      have HKL : Hid ((keptTo S.pend ts k).length ≤ k) := Lib.hid (keptTo_len k)
      have HGB := Lib.hid hgB
      clear hput hpk hu0 hu1 hA hB hS hp' hp hR hF eS hgB
      by_cases hkn : k < n
      · obtain ⟨b, o, rfl, hbl, hbc⟩ := HR.out (by rw [HN.out]; omega)
        obtain ⟨t, ht⟩ : ∃ t, ts[k]? = some t := ⟨ts[k]'(by rw [HN.out]; exact hkn), List.getElem?_eq_getElem _⟩
        have hbB := HLO.out (by have := HN.out; omega) _ rfl
        have pt : wr.cell? ⟨b, o + k, none⟩ = some (.bool t) := by
          rw [World.cell?_of_block (w' := wr) (w := w) (a := ⟨b, o + k, none⟩) (HF.out.block b hbl (fun e => by rw [HES.out] at e; have e2 : gS = b := (by simpa [Value.ownBlock] using e); have e3 := HGB.out; have e4 : b < B := hbB; omega))]
          exact hbc k t ht
        have i5 : ((k : Nat) : Int) < n := by omega
        cases t with
        | false =>
          have HT : Hid (ts.getD k false = false) := Lib.hid (by rw [List.getD_eq_getElem?_getD, ht]; rfl)
          have HN2 := keptTo_no HP.out HT.out
          rw [← HN2] at HK
          clear hbl hbc ht hbB
          go_wp2
          exact ⟨⟨k + 1, by omega, by simp, by rw [HN2], HK⟩, by simp [intOf]; omega⟩
        | true =>
          have HT : Hid (ts.getD k false = true) := Lib.hid (by rw [List.getD_eq_getElem?_getD, ht]; rfl)
          have e9 : Dk.puts S (keptTo S.pend ts (k + 1)) = Dk.put (Dk.puts S (keptTo S.pend ts k)) p.1 p.2 := by rw [keptTo_yes HP.out HT.out]; simp [Dk.puts, List.foldl_append]
          have h9 : RefAt B BB (wr.setCell ⟨gS, p.1, none⟩ (.slice (some ⟨g1, 0, none⟩) 32 32)).drew r (Dk.puts S (keptTo S.pend ts (k + 1))) vS (.slice (some ⟨gA, 0, none⟩) S.pend.length cA) vB (us1.set p.1 (.slice (some ⟨g1, 0, none⟩) 32 32)) ub := e9 ▸ HPUT.out.1.drew
          have HNX : Hid (RInv B BB w (wr.setCell ⟨gS, p.1, none⟩ (.slice (some ⟨g1, 0, none⟩) 32 32)).drew r S vS (.slice (some ⟨gA, 0, none⟩) S.pend.length cA) vB ub (keptTo S.pend ts (k + 1))) := Lib.hid ⟨⟨_, h9⟩, HF.out.trans (RFr.of (only_drew HPUT.out.2) (fun g e => by rw [HES.out]; exact e)) (fun _ _ h => h)⟩
          clear e9 h9
          have HL1 : Hid ((keptTo S.pend ts (k + 1)).length = (keptTo S.pend ts k).length + 1) := Lib.hid (by rw [keptTo_yes HP.out HT.out, List.length_append]; rfl)
          have hkl : (keptTo S.pend ts k).length ≤ 1000000 := Nat.le_trans HKL.out (by omega)
          clear hbl hbc ht hbB HK
          go_wp2
          refine wp_region_still_tail 13 (by kernel_rfl) (by kernel_rfl) ?_
          change wpStill _ _ wr.drew (fun a' => wpList _ _ _ _ a' wr.drew) _ _
          dsimp only [List.take, List.drop]
          repeat still_step
          refine wpStill_nil ?_
          change wpList _ _ _ _ _ wr.drew
          go_wp2
          exact ⟨⟨k + 1, by omega, by simp, by rw [HL1.out]; simp, HNX⟩, by simp [intOf]; omega⟩
      · have HT : Hid (ts.getD k false = false) := Lib.hid (by rw [List.getD_eq_getElem?_getD, List.getElem?_eq_none (by rw [HN.out]; omega)]; rfl)
        have HN2 := keptTo_no HP.out HT.out
        rw [← HN2] at HK
        have i5 : ¬ ((k : Nat) : Int) < n := by omega
        go_wp2
        exact ⟨⟨k + 1, by omega, by simp, by rw [HN2], HK⟩, by simp [intOf]; omega⟩
    · obtain rfl : k = S.pend.length := by omega
      have i2 : ¬ ((S.pend.length : Nat) : Int) < S.pend.length := by omega
      have z1 := hR.blk.frozen 1
      have z2 := hR.blk.frozen 2
      have z3 := hR.blk.frozen 3
      have z4 := hR.blk.frozen 4
      have q1 : wr.cell? ⟨r, 1, none⟩ = some (.slice AA S.pend.length cA) := hR.blk.cell 1
      have q2 : wr.cell? ⟨r, 2, none⟩ = some vB := hR.blk.cell 2
      have q3 : wr.cell? ⟨r, 3, none⟩ = some (.int .i64 (Dk.lf (Dk.puts S (keptTo S.pend ts S.pend.length)))) := hR.blk.cell 3
      have q4 : wr.cell? ⟨r, 4, none⟩ = some (.bool (Dk.puts S (keptTo S.pend ts S.pend.length)).off) := hR.blk.cell 4
      have hn := hR.bare
      have hc := hn.1.crash_end
      have HNO := Lib.hid hn
      have HCE := Lib.hid hc
      have HF := Lib.hid hF
      clear hn hc hR hF HK
      go_wp2
      go_ret
      refine ⟨rfl, ⟨us1, HCE.out.1⟩, ?_⟩
      have f2 : RFr wr _ (RX r vS (.slice AA S.pend.length cA) vB) := RFr.of (only_trans HNO.out.2 HCE.out.2) fun g e => Or.inl (by injection e with e; exact e.symm)
      exact RFr.trans (HF.out.trans RFr.refl (fun _ _ h => h) |> fun f => (⟨f.os, f.tape, f.output, f.size, fun b hb hx => f.block b hb (fun e => hx (Or.inr (Or.inl e)))⟩ : RFr w wr (RX r vS (.slice AA S.pend.length cA) vB))) f2 (fun _ _ h => h)
end
end Go.Proofs.YtpmadlkkldbceaaDoor
