/- The document's Apply. -/
import Derived.Test.YtolfphfdeccleaaGreatDoorMNums
import Derived.Test.YtolfphfdeccleaaGreatDoorMShaSpreads
import Derived.Test.YtolfphfdeccleaaGreatDoorMShaMsgMaths
import Derived.Test.YtolfphfdeccleaaGreatDoorMShaEnds
import Derived.Test.YtolfphfdeccleaaGreatDoorMHelds
import Derived.Laws.OwnMore
namespace Go.Proofs.YtolfphfdeccleaaGreatDoor
open Go Go.RowKit Go.Shelf
/-- how the document's Apply ends -/
def RApplyPost (r : Dl.Res) (w : World) (e : Ending) (w' : World) : Prop :=
  match r with
  | .err k => e = .returned (.tuple #[.slice none 0 0, .int .i64 ((k + 1 : Nat) : Int)]) ∧ Below w.heap.size w w'
  | .ok l => ∃ v, e = .returned (.tuple #[v, .int .i64 0]) ∧ Pad w.heap.size w v l w'
theorem RApplyPost.err {r : Dl.Res} {k : Nat} {w w' : World} {e : Ending} (h : r = .err k) (he : e = .returned (.tuple #[.slice none 0 0, .int .i64 ((k + 1 : Nat) : Int)])) (hb : Below w.heap.size w w') : RApplyPost r w e w' := by
  rw [h]; exact ⟨he, hb⟩
set_option maxRecDepth 100000 in
set_option maxHeartbeats 1000000 in
theorem rapply_first (A A2 : Option Addr) (nb cb n c : Nat) (base d : List Nat) (w : World) (hB : Rd w (.slice A nb cb) base) (hD : Rd w (.slice A2 n c) d) (hb : Sha.Byte d) (hl : n ≤ 3000) (_hlb : nb ≤ 400) (hbad : n < 4 ∨ Dl.two d 0 ≠ nb ∨ 300 < Dl.two d 2) :
    Calls Tryz.prog 24 #[.slice A nb cb, .slice A2 n c] w (RApplyPost (Dl.applyP base d) w) := by
  have en : n = d.length := by obtain ⟨_, _, hv, _⟩ := hD; injection hv
  have eb : nb = base.length := by obtain ⟨_, _, hv, _⟩ := hB; injection hv
  by_cases h4 : n < 4
  · have HE : Hid (Dl.applyP base d = .err 1) := Lib.hid (by unfold Dl.applyP; rw [if_pos (by omega)])
    have g4 : (n : Int) < 4 := by omega
    clear hB hD hb hbad en eb
    go_enter Tryz.func24, Tryz.ntmps24
    go_wp2
    go_ret2
    exact RApplyPost.err HE.out rfl (Below.refl _ _)
  have g4 : ¬ (n : Int) < 4 := by omega
  have C1 := rtwo_any A2 n c d w hD hb (by omega)
  have hD2 := hD.cut (k := 2) (by omega)
  have C2 := fun m => rtwo_any _ _ _ (d.drop 2) (w.drewN m) (hD2.below (below_drewN (Below.refl _ w) m) (Nat.le_refl _)) (fun i => by rw [Sha.getD_drop]; exact hb _) (by rw [List.length_drop]; omega)
  rw [show Dl.two (d.drop 2) 0 = Dl.two d 2 by unfold Dl.two Dl.at0; rw [Sha.getD_drop, Sha.getD_drop]] at C2
  obtain ⟨e0, hc, b, o, rfl, _, _⟩ := hD.blk (by omega)
  clear e0
  rw [if_neg (by omega), Option.map_some, Addr.add_mid] at C2
  have S1 : ∀ w', (Instr.slice 22 (.slice (some ⟨b, o, none⟩) n c) (some (.int .i64 2)) none none).run Tryz.prog w' = .ok (.slice (some ⟨b, o + 2, none⟩) (n - 2) (c - 2)) w' := fun w' => sl_lo b o _ _ 2 w' (by omega) (by omega) rfl
  obtain ⟨p0, hp0⟩ : ∃ x, x = Dl.two d 0 := ⟨_, rfl⟩
  obtain ⟨p2, hp2⟩ : ∃ x, x = Dl.two d 2 := ⟨_, rfl⟩
  rw [← hp0] at C1 hbad
  rw [← hp2] at C2 hbad
  by_cases h5 : p0 = nb
  · have HE : Hid (Dl.applyP base d = .err 12) := Lib.hid (by unfold Dl.applyP; rw [if_neg (by omega), if_neg (by omega), if_pos (by omega)])
    have g5 : (((p0 : Nat) : Int) != (nb : Int)) = false := by simp; omega
    have g6 : (300 : Int) < (p2 : Int) := by omega
    clear hB hD hD2 hb hbad en eb hp0 hp2 h5
    go_enter Tryz.func24, Tryz.ntmps24
    go_wp2_with (first | (go_at_call 41; with_reducible refine C1.mono ?_; rintro e w1 ⟨rfl, m, rfl⟩) | (go_at_call 41; with_reducible refine (C2 m).mono ?_; rintro e w1 ⟨rfl, m2, rfl⟩))
    go_ret2
    exact RApplyPost.err HE.out rfl (below_drewN (Below.refl _ _) _)
  · have HE : Hid (Dl.applyP base d = .err 18) := Lib.hid (by unfold Dl.applyP; rw [if_neg (by omega), if_pos (by omega)])
    have g5 : (((p0 : Nat) : Int) != (nb : Int)) = true := by simp; omega
    clear hB hD hD2 hb hbad en eb hp0 hp2 h5 C2 S1
    go_enter Tryz.func24, Tryz.ntmps24
    go_wp2_with (go_at_call 41; with_reducible refine C1.mono ?_; rintro e w1 ⟨rfl, m, rfl⟩)
    go_ret2
    exact RApplyPost.err HE.out rfl (below_drewN (Below.refl _ _) _)
theorem own_formD {w : World} {base n : Nat} {s : Value} {l : List Value} (h : w.ownsRow base 5 1 s n l) : ∃ A c, s = .slice A n c := by
  rcases h.2 with ⟨hv, hn⟩ | ⟨g, cap, cur, hv, _⟩
  · exact ⟨none, 0, by rw [hv, hn]⟩
  · exact ⟨_, cap, hv⟩
/-- between two steps -/
def RaS (base d : List Nat) (to : Nat) (w : World) (v : Value) (ys : List Nat) (p : Nat) (wr : World) : Prop :=
  Pad w.heap.size w v ys wr ∧ Dl.runE base d to (Dl.evs d 4) [] = Dl.runE base d to (Dl.evs d p) ys ∧ ys.length ≤ to
set_option maxRecDepth 100000 in
set_option maxHeartbeats 2000000 in
theorem rapply_run (A A2 : Option Addr) (nb cb n c : Nat) (base d : List Nat) (w : World) (hB : Rd w (.slice A nb cb) base) (hD : Rd w (.slice A2 n c) d) (hb : Sha.Byte d) (hbb : Sha.Byte base) (hl : n ≤ 3000) (hlb : nb ≤ 400) (h4 : 4 ≤ n) (h5 : Dl.two d 0 = nb) (h6 : Dl.two d 2 ≤ 300) :
    Calls Tryz.prog 24 #[.slice A nb cb, .slice A2 n c] w (RApplyPost (Dl.applyP base d) w) := by
  have en : n = d.length := by obtain ⟨_, _, hv, _⟩ := hD; injection hv
  have eb : nb = base.length := by obtain ⟨_, _, hv, _⟩ := hB; injection hv
  have g4 : ¬ (n : Int) < 4 := by omega
  have C1 := rtwo_any A2 n c d w hD hb (by omega)
  have hD2 := hD.cut (k := 2) (by omega)
  have C2 := fun m => rtwo_any _ _ _ (d.drop 2) (w.drewN m) (hD2.below (below_drewN (Below.refl _ w) m) (Nat.le_refl _)) (fun i => by rw [Sha.getD_drop]; exact hb _) (by rw [List.length_drop]; omega)
  rw [show Dl.two (d.drop 2) 0 = Dl.two d 2 by unfold Dl.two Dl.at0; rw [Sha.getD_drop, Sha.getD_drop]] at C2
  have hD' := hD
  obtain ⟨e0, hc, b, o, rfl, hbw, hx⟩ := hD'.blk (by omega)
  clear e0 hD'
  rw [if_neg (by omega), Option.map_some, Addr.add_mid] at C2
  have S1 : ∀ w', (Instr.slice 22 (.slice (some ⟨b, o, none⟩) n c) (some (.int .i64 2)) none none).run Tryz.prog w' = .ok (.slice (some ⟨b, o + 2, none⟩) (n - 2) (c - 2)) w' := fun w' => sl_lo b o _ _ 2 w' (by omega) (by omega) rfl
  have HE : Hid (Dl.applyP base d = Dl.runE base d (Dl.two d 2) (Dl.evs d 4) []) := Lib.hid (by unfold Dl.applyP; rw [if_neg (by omega), if_neg (by omega), if_neg (by omega)])
  obtain ⟨to, hto⟩ : ∃ x, x = Dl.two d 2 := ⟨_, rfl⟩
  rw [h5] at C1
  rw [← hto] at C2 h6 HE
  have g6 : ¬ (300 : Int) < (to : Int) := by omega
  have HD := Lib.hid hD
  have HX := Lib.hid hx
  have HBY := Lib.hid hb
  have HBB := Lib.hid hbb
  have HB := Lib.hid hB
  have HEN := Lib.hid en
  have HEB := Lib.hid eb
  have HCB : Hid (n ≤ c ∧ b < w.heap.size) := Lib.hid ⟨hc, hbw⟩
  clear hB hD hD2 hb hbb en eb h5 hto hx hc hbw
  go_enter Tryz.func24, Tryz.ntmps24
  go_wp2_with (first | (go_at_call 41; with_reducible refine C1.mono ?_; rintro e w1 ⟨rfl, m, rfl⟩) | (go_at_call 41; with_reducible refine (C2 m).mono ?_; rintro e w1 ⟨rfl, m2, rfl⟩))
  have HG0 : Hid (RaS base d to w (.slice (some ⟨w.heap.size, 0, none⟩) 0 0) [] 4 ((w.drewN (m + m2)).alloc (.cells #[] 5))) := Lib.hid ⟨⟨⟨rfl, Or.inr ⟨w.heap.size, 0, #[], rfl, Nat.le_refl _, heap_alloc_new _ _, Nat.le_refl _, by decide, rfl, rfl⟩⟩, (below_drewN (Below.refl _ _) _).alloc (Nat.le_refl _) _⟩, rfl, Nat.zero_le _⟩
  clear C1 C2 S1
  go_loopw [7, 8] (fun v vp wr => ∃ (p : Nat) (ys : List Nat), 4 ≤ p ∧ p ≤ n ∧ vp = .int .i64 p ∧ Hid (RaS base d to w v ys p wr)) (fun _ vp _ => n - (intOf vp).toNat)
  case atStart => exact ⟨4, [], by omega, h4, rfl, HG0⟩
  case round =>
    obtain ⟨p, ys, hp4, hpn, rfl, HG⟩ := hrel
    obtain ⟨A7, c7, rfl⟩ := HG.out.1.len
    obtain ⟨m7, hm7⟩ : ∃ x, x = ys.length := ⟨_, rfl⟩
    have hm3 : m7 ≤ to := by rw [hm7]; exact HG.out.2.2
    rw [← hm7] at HG ⊢
    have HM7 := Lib.hid hm7
    have HBEL := Lib.hid HG.out.1.bel
    clear hm7 HG0
    by_cases hlt : p < n
    · have hpd : p < d.length := by rw [← HEN.out]; exact hlt
      have cx : wr.cell? ⟨b, o + p, none⟩ = some (.int .u8 ((d.getD p 0 : Nat) : Int)) := (HBEL.out.cell (p := ⟨b, o + p, none⟩) HCB.out.2).trans (HX.out p hpd)
      have c256 := HBY.out p
      have at0e : Dl.at0 d p = d.getD p 0 := rfl
      obtain ⟨x, hxx⟩ : ∃ x, x = Dl.at0 d p := ⟨_, rfl⟩
      rw [← at0e, ← hxx] at cx c256
      have HXX := Lib.hid hxx
      have HPD := Lib.hid hpd
      have gp : (p : Int) < n := by omega
      clear at0e hxx hpd
      by_cases h0 : x % 128 = 0
      · have RA : Hid (Dl.applyP base d = .err 3) := Lib.hid (by
          rw [HE.out, HG.out.2.1, Dl.evs_bad (s := false) (k := 0) HPD.out (by unfold Dl.evAt; rw [← HXX.out, if_pos h0])]; rfl)
        rcases (show x = 0 ∨ x = 128 by omega) with rfl | rfl
        · clear h0
          go_wp2
          go_ret2
          exact RApplyPost.err RA.out rfl HBEL.out
        · clear h0
          go_wp2
          go_ret2
          exact RApplyPost.err RA.out rfl HBEL.out
      · have x0 : ((x : Int) == 0) = false := by simp; omega
        have x128 : ((x : Int) == 128) = false := by simp; omega
        by_cases h1 : x < 128
        · have g1 : ¬ (128 : Int) < (x : Int) := by omega
          by_cases h2 : n < p + 1 + x
          · have RA : Hid (Dl.applyP base d = .err 1) := Lib.hid (by
              rw [HE.out, HG.out.2.1, Dl.evs_bad (s := true) (k := 0) HPD.out (by unfold Dl.evAt; rw [← HXX.out, if_neg h0, if_pos h1, if_pos (by rw [← HEN.out]; omega)])]; rfl)
            have g2 : (n : Int) < (p : Int) + 1 + (x : Int) := by omega
            clear h0
            go_wp2
            go_ret2
            exact RApplyPost.err RA.out rfl HBEL.out
          · have hev : Dl.evs d p = .fresh x (p + 1) :: Dl.evs d (p + (1 + x)) := Dl.evs_step (e := .fresh x (p + 1)) (k := 1 + x) HPD.out (by unfold Dl.evAt; rw [← HXX.out, if_neg h0, if_pos h1, if_neg (by rw [← HEN.out]; omega)]) (by intro s h; cases h)
            have HEV := Lib.hid hev
            have g2 : ¬ (n : Int) < (p : Int) + 1 + (x : Int) := by omega
            have S2 : ∀ w', (Instr.slice 22 (.slice (some ⟨b, o, none⟩) n c) (some (.int .i64 ((p : Int) + 1))) (some (.int .i64 ((p : Int) + 1 + (x : Int)))) none).run Tryz.prog w' = .ok (.slice (some ⟨b, o + (p + 1), none⟩) x (c - (p + 1))) w' := fun w' => by
              have h := sl_lohi b o n c (p + 1) (p + 1 + x) w' (by omega) (by have := HCB.out; omega) (by have := HCB.out; omega) (lo := (p : Int) + 1) (hi := (p : Int) + 1 + (x : Int)) (by omega) (by omega)
              rwa [show p + 1 + x - (p + 1) = x by omega] at h
            have hl2 : ((d.drop (p + 1)).take x).length = x := by rw [List.length_take, List.length_drop, ← HEN.out]; omega
            have HL2 := Lib.hid hl2
            have RX : Hid (Rd wr (.slice (some ⟨b, o + (p + 1), none⟩) x (c - (p + 1))) ((d.drop (p + 1)).take x)) := Lib.hid (by
              have h := (HD.out.below HBEL.out (Nat.le_refl _)).cut (k := p + 1) (by rw [← HEN.out]; omega)
              rw [if_neg (by have := HCB.out; omega), Option.map_some, Addr.add_mid] at h
              exact h.cutHi (by rw [List.length_drop, ← HEN.out]; omega))
            have HOWN : Hid (wr.ownsRow w.heap.size 5 1 (.slice A7 m7 c7) ys.length (cellsB ys)) := Lib.hid HG.out.1.own
            have HZ : Hid (ys.length + ((d.drop (p + 1)).take x).length ≤ 70368744177664) := Lib.hid (by rw [← HM7.out, HL2.out]; omega)
            have HN : Hid ((ys ++ (d.drop (p + 1)).take x).length = m7 + x) := Lib.hid (by rw [List.length_append, HL2.out, HM7.out])
            clear hev hl2
            by_cases h3 : to < m7 + x
            · have RA : Hid (Dl.applyP base d = .err 2) := Lib.hid (by
                rw [HE.out, HG.out.2.1, HEV.out, Dl.runE, if_pos (by rw [← HM7.out]; exact h3)])
              have g3 : (to : Int) < (m7 : Int) + (x : Int) := by omega
              clear h0 h2
              go_wp2_with (at_builtin; go_loud (refine wpList_appendB rfl (.tmp 84) (.tmp 92) rfl w.heap.size _ ys rfl HOWN.out HBEL.out.size _ rfl ((d.drop (p + 1)).take x) RX.out HZ.out ?_); intro v2 w2 ho2 hg2; obtain ⟨A9, c9, rfl⟩ := own_formD ho2; rw [HN.out]; have hb2 := below_ownB rfl HBEL.out HOWN.out hg2; clear ho2 hg2)
              go_ret2
              exact RApplyPost.err RA.out rfl hb2
            · have HR : Hid (Dl.runE base d to (Dl.evs d 4) [] = Dl.runE base d to (Dl.evs d (p + (1 + x))) (ys ++ (d.drop (p + 1)).take x)) := Lib.hid (by
                rw [HG.out.2.1, HEV.out, Dl.runE, if_neg (by rw [← HM7.out]; exact h3)])
              have g3 : ¬ (to : Int) < (m7 : Int) + (x : Int) := by omega
              have HH := Lib.hid (show p + (1 + x) ≤ n ∧ ¬ x % 128 = 0 from ⟨by omega, h0⟩)
              clear h0
              go_wp2_with (at_builtin; go_loud (refine wpList_appendB rfl (.tmp 84) (.tmp 92) rfl w.heap.size _ ys rfl HOWN.out HBEL.out.size _ rfl ((d.drop (p + 1)).take x) RX.out HZ.out ?_); intro v2 w2 ho2 hg2; obtain ⟨A9, c9, rfl⟩ := own_formD ho2; have HC : Hid (RaS base d to w _ (ys ++ (d.drop (p + 1)).take x) (p + (1 + x)) w2) := Lib.hid ⟨⟨ho2, below_ownB rfl HBEL.out HOWN.out hg2⟩, HR.out, by rw [HN.out]; omega⟩; rw [HN.out] at HC ⊢; clear ho2 hg2)
              go_roundw
              case rel => have h8 := HH.out; exact ⟨p + (1 + x), _, by omega, by omega, by go_num, HC⟩
              case measure => have h8 := HH.out; simp [intOf]; omega
        · have g1 : (128 : Int) < (x : Int) := by omega
          by_cases h2 : n < p + 3
          · have RA : Hid (Dl.applyP base d = .err 1) := Lib.hid (by
              rw [HE.out, HG.out.2.1, Dl.evs_bad (s := true) (k := 0) HPD.out (by unfold Dl.evAt; rw [← HXX.out, if_neg h0, if_neg h1, if_pos (by rw [← HEN.out]; omega)])]; rfl)
            have g2 : (n : Int) < (p : Int) + 3 := by omega
            clear h0
            go_wp2
            go_ret2
            exact RApplyPost.err RA.out rfl HBEL.out
          · have hev : Dl.evs d p = .copy (x - 128) (Dl.two d (p + 1)) :: Dl.evs d (p + 3) := Dl.evs_step (e := .copy (x - 128) (Dl.two d (p + 1))) (k := 3) HPD.out (by unfold Dl.evAt; rw [← HXX.out, if_neg h0, if_neg h1, if_neg (by rw [← HEN.out]; omega)]) (by intro s h; cases h)
            have g2 : ¬ (n : Int) < (p : Int) + 3 := by omega
            have hr1 := (HD.out.below HBEL.out (Nat.le_refl _)).cut (k := p + 1) (by rw [← HEN.out]; omega)
            rw [if_neg (by have := HCB.out; omega), Option.map_some, Addr.add_mid] at hr1
            have C3 := rtwo_any _ _ _ (d.drop (p + 1)) wr hr1 (fun i => by rw [Sha.getD_drop]; exact HBY.out _) (by rw [List.length_drop, ← HEN.out]; omega)
            rw [show Dl.two (d.drop (p + 1)) 0 = Dl.two d (p + 1) by unfold Dl.two Dl.at0; rw [Sha.getD_drop, Sha.getD_drop]] at C3
            have f16 : Dl.two d (p + 1) ≤ 65535 := by have h8 := HBY.out (p + 1); have h9 := HBY.out (p + 1 + 1); unfold Dl.two Dl.at0; omega
            obtain ⟨f, hf⟩ : ∃ f, f = Dl.two d (p + 1) := ⟨_, rfl⟩
            rw [← hf] at C3 hev f16
            have HEV := Lib.hid hev
            have S2 : ∀ w', (Instr.slice 22 (.slice (some ⟨b, o, none⟩) n c) (some (.int .i64 ((p : Int) + 1))) none none).run Tryz.prog w' = .ok (.slice (some ⟨b, o + (p + 1), none⟩) (n - (p + 1)) (c - (p + 1))) w' := fun w' => sl_lo b o n c (p + 1) w' (by omega) (by have := HCB.out; omega) (by omega)
            have hq : 0 < x - 128 ∧ x - 128 ≤ 127 := by omega
            have HH := Lib.hid (show p + 3 ≤ n ∧ ¬ x % 128 = 0 ∧ 128 < x from ⟨by omega, h0, by omega⟩)
            clear hev hf hr1 h0
            go_wp2_with (go_at_call 41; with_reducible refine C3.mono ?_; rintro e w1 ⟨rfl, m3, rfl⟩)
            clear C3 S2
            have HG1 : Hid (Pad w.heap.size w (.slice A7 m7 c7) (ys ++ (base.drop f).take 0) (wr.drewN m3)) := Lib.hid (by rw [List.take_zero, List.append_nil]; exact ⟨HG.out.1.own, below_drewN HBEL.out m3⟩)
            go_loopw [7, 11] (fun v vi wr2 => ∃ i : Nat, i ≤ x - 128 ∧ vi = .int .i64 i ∧ (0 < i → f + (x - 128) ≤ nb) ∧ Hid (Pad w.heap.size w v (ys ++ (base.drop f).take i) wr2)) (fun _ vi _ => x - 128 - (intOf vi).toNat)
            case atStart => exact ⟨0, Nat.zero_le _, rfl, fun h => absurd h (Nat.lt_irrefl _), HG1⟩
            case round =>
              obtain ⟨i, hi, rfl, hif, HP⟩ := hrel
              obtain ⟨A8, c8, rfl⟩ := HP.out.len
              obtain ⟨m8, hm8⟩ : ∃ y, y = (ys ++ (base.drop f).take i).length := ⟨_, rfl⟩
              have hm9 : m8 ≤ m7 + 127 := by rw [hm8, List.length_append, List.length_take, ← HM7.out]; omega
              rw [← hm8] at HP ⊢
              have HM8 := Lib.hid hm8
              clear hm8
              by_cases hil : i < x - 128
              · have gi : (i : Int) < (x : Int) - 128 := by omega
                by_cases h3 : nb < f + (x - 128)
                · have RA : Hid (Dl.applyP base d = .err 0) := Lib.hid (by
                    rw [HE.out, HG.out.2.1, HEV.out, Dl.runE, if_pos (by rw [← HEB.out]; exact h3)])
                  have g3 : (nb : Int) < (f : Int) + (x : Int) - 128 := by omega
                  have hbe := HP.out.bel
                  go_wp2
                  go_ret2
                  exact RApplyPost.err RA.out rfl hbe
                · have g3 : ¬ (nb : Int) < (f : Int) + (x : Int) - 128 := by omega
                  have hbl : 0 < base.length := by rw [← HEB.out]; omega
                  obtain ⟨e0, hcb, b2, o2, rfl, hbw2, hx2⟩ := HB.out.blk hbl
                  clear e0
                  have hbe := HP.out.bel
                  have hf1 : f + i < base.length := by rw [← HEB.out]; omega
                  have cy : wr.cell? ⟨b2, o2 + (f + i), none⟩ = some (.int .u8 ((base.getD (f + i) 0 : Nat) : Int)) := (hbe.cell (p := ⟨b2, o2 + (f + i), none⟩) hbw2).trans (hx2 (f + i) hf1)
                  have y256 := HBB.out (f + i)
                  have htk : (base.drop f).take (i + 1) = (base.drop f).take i ++ [base.getD (f + i) 0] := by
                    rw [Dl.take_snocD (by rw [List.length_drop]; omega), Sha.getD_drop]
                  obtain ⟨y, hy⟩ : ∃ y, y = base.getD (f + i) 0 := ⟨_, rfl⟩
                  rw [← hy] at cy y256 htk
                  have HTK := Lib.hid htk
                  have HRM := Lib.hid (rd_of_lit wr [y] 5 (by simp))
                  have HOA : Hid ((wr.alloc (.cells (u8s [y]) 5)).ownsRow w.heap.size 5 1 (.slice A8 m8 c8) (ys ++ (base.drop f).take i).length (cellsB (ys ++ (base.drop f).take i))) := Lib.hid (ownsRow_alloc (by have h := HP.out.own; exact h) _)
                  have HSZ := Lib.hid (show w.heap.size ≤ (wr.alloc (.cells (u8s [y]) 5)).heap.size by have := hbe.size; simp; omega)
                  have HZ : Hid ((ys ++ (base.drop f).take i).length + [y].length ≤ 70368744177664) := Lib.hid (by rw [← HM8.out]; simp; omega)
                  have HBA := Lib.hid (hbe.alloc hbe.size (.cells (u8s [y]) 5))
                  have HN : Hid (((ys ++ (base.drop f).take i) ++ [y]).length = m8 + 1) := Lib.hid (by rw [List.length_append, ← HM8.out]; rfl)
                  have gf : (f : Int) + (i : Int) < (nb : Int) := by omega
                  clear hy htk hx2 hbl hf1 hbw2
                  go_wp2_with (at_builtin; go_loud (refine wpList_appendB rfl (.tmp 66) (.tmp 73) rfl w.heap.size _ (ys ++ (base.drop f).take i) rfl HOA.out HSZ.out _ rfl [y] HRM.out HZ.out ?_); intro v2 w2 ho2 hg2; obtain ⟨A9, c9, rfl⟩ := own_formD ho2; have HC : Hid (Pad w.heap.size w _ (ys ++ (base.drop f).take (i + 1)) w2) := Lib.hid (by rw [HTK.out, ← List.append_assoc]; exact ⟨ho2, below_ownB rfl HBA.out HOA.out hg2⟩); rw [HN.out] at HC ⊢; clear ho2 hg2)
                  go_roundw
                  case rel => exact ⟨i + 1, by omega, by go_num, fun _ => by omega, HC⟩
                  case measure => simp [intOf]; omega
              · obtain rfl : i = x - 128 := by omega
                have gi : ¬ ((x - 128 : Nat) : Int) < (x : Int) - 128 := by omega
                have hfb := hif hq.1
                have hln : ((base.drop f).take (x - 128)).length = x - 128 := by rw [List.length_take, List.length_drop, ← HEB.out]; omega
                have hm8 : m8 = m7 + (x - 128) := by rw [HM8.out, List.length_append, hln, ← HM7.out]
                have hbe := Lib.hid HP.out.bel
                by_cases h3 : to < m7 + (x - 128)
                · have RA : Hid (Dl.applyP base d = .err 2) := Lib.hid (by
                    rw [HE.out, HG.out.2.1, HEV.out, Dl.runE, if_neg (by rw [← HEB.out]; omega), if_pos (by rw [← HM7.out]; exact h3)])
                  have g3 : (to : Int) < (m8 : Int) := by omega
                  clear hm8 hln
                  go_wp2
                  go_ret2
                  exact RApplyPost.err RA.out rfl hbe.out
                · have HC : Hid (RaS base d to w (.slice A8 m8 c8) (ys ++ (base.drop f).take (x - 128)) (p + 3) wr) := Lib.hid ⟨by have h := HP.out; exact h, by rw [HG.out.2.1, HEV.out, Dl.runE, if_neg (by rw [← HEB.out]; omega), if_neg (by rw [← HM7.out]; exact h3)], by rw [← HM8.out, hm8]; omega⟩
                  have g3 : ¬ (to : Int) < (m8 : Int) := by omega
                  clear hm8 hln
                  go_wp2
                  go_roundw
                  case rel => have h8 := HH.out; exact ⟨p + 3, _, by omega, by omega, by go_num, HC⟩
                  case measure => have h8 := HH.out; simp [intOf]; omega
    · have gp : ¬ (p : Int) < n := by omega
      by_cases hs : m7 < to
      · have RA : Hid (Dl.applyP base d = .err 1) := Lib.hid (by
          rw [HE.out, HG.out.2.1, Dl.evs_end (by rw [← HEN.out]; omega), Dl.runE, if_pos (by rw [← HM7.out]; exact hs)])
        have g3 : (m7 : Int) < (to : Int) := by omega
        go_wp2
        go_ret2
        exact RApplyPost.err RA.out rfl HBEL.out
      · have RA : Hid (Dl.applyP base d = .ok ys) := Lib.hid (by
          rw [HE.out, HG.out.2.1, Dl.evs_end (by rw [← HEN.out]; omega), Dl.runE, if_neg (by rw [← HM7.out]; exact hs)])
        have g3 : ¬ (m7 : Int) < (to : Int) := by omega
        have HP := Lib.hid HG.out.1
        go_wp2
        go_ret2
        rw [RA.out]
        exact ⟨_, rfl, HP.out⟩
end Go.Proofs.YtolfphfdeccleaaGreatDoor
/- The document's search: the first place of a text in a base. -/
namespace Go.Proofs.YtolfphfdeccleaaGreatDoor
open Go Go.RowKit Go.Shelf
theorem tl_loopD (bs : ByteArray) : ∀ (n i : Nat) (r : List UInt8), bs.size - i = n → ByteArray.toList.loop bs i r = r.reverse ++ bs.data.toList.drop i := by
  intro n
  induction n with
  | zero =>
    intro i r h
    rw [ByteArray.toList.loop]
    have h1 : ¬ i < bs.size := by omega
    rw [if_neg h1, List.drop_eq_nil_of_le (by have : bs.data.toList.length = bs.size := rfl; omega)]; simp
  | succ n ih =>
    intro i r h
    rw [ByteArray.toList.loop]
    have h1 : i < bs.size := by omega
    rw [if_pos h1, ih (i+1) _ (by omega)]
    have h2 : i < bs.data.toList.length := h1
    rw [List.drop_eq_getElem_cons h2, List.reverse_cons, List.append_assoc]
    congr 1
    simp [ByteArray.get!, h1]
theorem bytes_listD (bs : ByteArray) : bs.toList = bs.data.toList := by
  unfold ByteArray.toList
  rw [tl_loopD bs _ 0 [] rfl]; simp
theorem textOf_neD {x y : List Nat} (hx : Sha.Byte x) (hy : Sha.Byte y) (h : x ≠ y) : ¬ (textOf x).toList = (textOf y).toList := fun e => h (by
  rw [bytes_listD, bytes_listD] at e
  have e2 : x.map UInt8.ofNat = y.map UInt8.ofNat := by simpa [textOf] using e
  exact Dl.map_ofNat_inj (Dl.mem_byte hx) (Dl.mem_byte hy) e2)
end Go.Proofs.YtolfphfdeccleaaGreatDoor
/- cartageref01.right is a turn to the left by what is left of 32. -/
namespace Go.Proofs.YtolfphfdeccleaaGreatDoor
open Go Go.RowKit
theorem rroot_any (x n : Nat) (w : World) (hx : x < 4294967296) (h1 : 1 ≤ n) (h31 : n ≤ 31) :
    Calls Tryz.prog 69 #[.int .u32 x, .int .u64 (n : Int)] w fun e w' => e = .returned (.int .u32 (Sha.rl x (32 - n) : Nat)) ∧ w = w' := by
  go_enter Tryz.func69, Tryz.ntmps69
  go_wp2
  go_ret
  refine ⟨?_, rfl⟩
  congr 2
  have h2 : x / 2^n ≤ x := Nat.div_le_self _ _
  have e := u32_or (x / 2^n) (x * 2^(32-n) % 4294967296) (by omega) (by omega)
  unfold Sha.rl
  rw [show 32 - (32 - n) = n by omega, Nat.or_comm, ← e]
  simp
set_option maxRecDepth 100000 in
theorem reftable_any (w : World) :
    Calls Tryz.prog 68 #[] w fun e w' => e = .returned (.slice (some ⟨w.heap.size, 0, none⟩) 64 64) ∧ Blk w' w.heap.size 130 (u32s Sha.K) ∧ Below w.heap.size w w' := by
  go_enter Tryz.func68, Tryz.ntmps68
  go_wp2_with fail
  go_ret
  exact ⟨rfl, Blk.new w _ _, (Below.refl _ _).alloc (Nat.le_refl _) _⟩
end Go.Proofs.YtolfphfdeccleaaGreatDoor
/- The mathematics of the document's own digest (cartageref01.Sum): the padding grown byte by byte, a word read byte by byte, the words' sum in another order. -/
namespace Go.Proofs.YtolfphfdeccleaaGreatDoor
namespace Sha
/-- how many bytes of 0 there are -/
def zeros (n : Nat) : Nat := (119 - n % 64) % 64
theorem zeros_go {n j : Nat} (hj : j ≤ zeros n) : (n + 1 + j) % 64 = 56 ↔ j = zeros n := by
  unfold zeros at *; omega
/-- the message and j bytes of 0 behind 128 -/
def padTo (bs : List Nat) (j : Nat) : List Nat := bs ++ [128] ++ List.replicate j 0
theorem padTo_len (bs : List Nat) (j : Nat) : (padTo bs j).length = bs.length + 1 + j := by simp [padTo]; omega
theorem padTo_succ (bs : List Nat) (j : Nat) : padTo bs j ++ [0] = padTo bs (j + 1) := by
  simp [padTo, List.replicate_succ']
theorem len8_at {n t : Nat} (h : t < 8) : (len8 n).getD t 0 = (8 * n) / 2^(56 - 8*t) % 256 := by
  have e : 8 * (7 - t) = 56 - 8 * t := by omega
  simp [len8, List.getD, h, e]
theorem len8_succ {n t : Nat} (h : t < 8) : (len8 n).take t ++ [(8 * n) / 2^(56 - 8*t) % 256] = (len8 n).take (t + 1) := by
  have h2 : t < (len8 n).length := by rw [len8_len]; exact h
  rw [List.take_succ_eq_append_getElem h2, ← len8_at h]
  simp [List.getD, h2]
theorem padded_eq (bs : List Nat) : padded bs = padTo bs (zeros bs.length) ++ (len8 bs.length).take 8 := by
  rw [List.take_of_length_le (by rw [len8_len]; omega)]; rfl
theorem padded_len (bs : List Nat) : (padded bs).length = 64 * ((bs.length + 72) / 64) := by
  rw [padded_eq, List.length_append, padTo_len, List.length_take, len8_len]; unfold zeros; omega
theorem padded_byte {bs : List Nat} (hb : Byte bs) : Byte (padded bs) := by
  refine ((hb.app ?_).app ?_).app ?_
  · intro i; rcases i with _ | i <;> simp
  · intro i
    by_cases h : i < (119 - bs.length % 64) % 64
    · simp [List.getD, h]
    · simp [List.getD, h]
  · intro i
    by_cases h : i < 8
    · rw [len8_at h]; exact Nat.mod_lt _ (by decide)
    · have e : (len8 bs.length)[i]? = none := List.getElem?_eq_none (by rw [len8_len]; omega)
      simp [List.getD, e]
/-- word i of a block as far as j of its bytes have been read -/
def part (bs : List Nat) (i : Nat) : Nat → Nat
  | 0 => 0
  | j + 1 => (part bs i j * 256 + bs.getD (4*i + j) 0)
theorem part_four (bs : List Nat) (i : Nat) : part bs i 4 = word bs i := by
  simp only [part, word, Nat.add_zero]; omega
theorem part_lt {bs : List Nat} (hb : Byte bs) (i : Nat) : ∀ j, j ≤ 4 → part bs i j < 256 ^ j
  | 0, _ => by simp [part]
  | j + 1, h => by
    have h1 := part_lt hb i j (by omega)
    have h2 := hb (4*i + j)
    simp only [part, Nat.pow_succ]; omega
theorem part_wrap {bs : List Nat} (hb : Byte bs) (i j : Nat) (h : j < 4) : (part bs i j * 256 % 4294967296 + bs.getD (4*i + j) 0) % 4294967296 = part bs i (j + 1) := by
  have h1 := part_lt hb i (j + 1) (by omega)
  have h3 : (256 : Nat) ^ (j + 1) ≤ 256 ^ 4 := Nat.pow_le_pow_right (by decide) (by omega)
  have h4 : (256 : Nat) ^ 4 = 4294967296 := by decide
  simp only [part] at h1 ⊢
  omega
/-- the next word, its terms in the order of the document's own function -/
theorem nextW_late {bs l : List Nat} (h : 16 ≤ l.length) : (((l.getD (l.length-16) 0 + l.getD (l.length-7) 0) % 4294967296 + low (l.getD (l.length-15) 0)) % 4294967296 + high (l.getD (l.length-2) 0)) % 4294967296 = nextW bs l := by
  unfold nextW; rw [if_neg (by omega)]; omega
theorem addS_get (l : List Nat) (s : S8) (i : Nat) (hi : i < 8) : (addS l s).getD i 0 = (l.getD i 0 + [s.a, s.b, s.c, s.d, s.e, s.f, s.g, s.h].getD i 0) % 4294967296 := by
  obtain h | h | h | h | h | h | h | h : i = 0 ∨ i = 1 ∨ i = 2 ∨ i = 3 ∨ i = 4 ∨ i = 5 ∨ i = 6 ∨ i = 7 := by omega
  all_goals (subst h; rfl)
end Sha
end Go.Proofs.YtolfphfdeccleaaGreatDoor
/- What the walk of the document's own digest (cartageref01.Sum) keeps while it pads the message. -/
namespace Go.Proofs.YtolfphfdeccleaaGreatDoor
open Go Go.RowKit
abbrev res32 (w : World) : World := w.alloc (.cells (u8s (List.replicate 32 0)) 48)
theorem res32_size (w : World) : (res32 w).heap.size = w.heap.size + 1 := by simp
/-- the length that a slice shows -/
def lenVp (v : Value) : Nat := match v with | .slice _ n _ => n | _ => 0
end Go.Proofs.YtolfphfdeccleaaGreatDoor
/- The loops of the document's own digest (cartageref01.Sum), taken out of the translation by a function, and what their walks share. -/
namespace Go.Proofs.YtolfphfdeccleaaGreatDoor
open Go Go.RowKit
/-- a function's loops, in the order of the text -/
def loopsOf : Code → List Code
  | .loop c => c :: loopsOf c
  | .seq a b => loopsOf a ++ loopsOf b
  | .block _ c => loopsOf c
  | .scope c => loopsOf c
  | .cond _ a b => loopsOf a ++ loopsOf b
  | _ => []
noncomputable def sumLoop (k : Nat) : Code := ((Tryz.f44.body.map loopsOf).getD []).getD k .skip
theorem cell_grown {a w : World} {g : Nat} (h : a.grownBy w (some g)) {b o : Nat} {v : Value} (hc : a.cell? ⟨b, o, none⟩ = some v) (hne : b ≠ g) : w.cell? ⟨b, o, none⟩ = some v := by
  have hb := block_lt_of_cell hc
  have e := h.block b hb (by intro e; cases e; exact hne rfl)
  rw [← hc]
  show (match w.heap[b]? with | some (.cells c _ _) => if (none : Option Nat).isSome then none else c[o]? | _ => none) = (match a.heap[b]? with | some (.cells c _ _) => if (none : Option Nat).isSome then none else c[o]? | _ => none)
  rw [e]
theorem set_mid (pre post : List Nat) (a x : Nat) : (pre ++ a :: post).set pre.length x = pre ++ x :: post := by
  rw [List.set_append_right _ _ (Nat.le_refl _)]; simp
theorem get_mid (pre post : List Nat) (a : Nat) : (pre ++ a :: post).getD pre.length 0 = a := by
  simp [List.getD]
end Go.Proofs.YtolfphfdeccleaaGreatDoor
