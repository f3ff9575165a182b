/- The document's Steps. -/
import Derived.Test.YthagldpgibpbdaaDoorDl18
namespace Go.Proofs.YthagldpgibpbdaaDoor
open Go Go.RowKit Go.Shelf
/-- an error's number, as the document counts -/
def Dl.eno : Option Nat → Nat
  | none => 0
  | some k => k + 1
theorem w64m {x : Int} (h0 : 0 ≤ x) (h1 : x ≤ 100000000) : wrap64 x = x := IntWalk.wrap64_in _ (by omega)
set_option maxRecDepth 100000 in
set_option maxHeartbeats 1000000 in
theorem rsteps_any (A : Option Addr) (n c : Nat) (d : List Nat) (w : World) (h : Rd w (.slice A n c) d) (hb : Sha.Byte d) (hl : d.length ≤ 1000000) :
    Calls Tryd.prog 14 #[.slice A n c] w fun e w' => e = .returned (.tuple #[.int .i64 ((Dl.stepsP d).1 : Nat), .int .i64 ((Dl.stepsP d).2.1 : Nat), .int .i64 (Dl.eno (Dl.stepsP d).2.2 : Nat)]) ∧ w' = w := by
  have en : n = d.length := by obtain ⟨_, _, hv, _⟩ := h; injection hv
  by_cases h4 : n < 4
  · have HE : Hid (Dl.stepsP d = (0, 0, some 1)) := Lib.hid (by unfold Dl.stepsP; rw [if_pos (by omega)])
    have g4 : (n : Int) < 4 := by omega
    rw [HE.out]
    clear h hb hl en
    go_enter Tryd.func14, Tryd.ntmps14
    go_wp2
    go_ret3
    exact ⟨rfl, rfl⟩
  have HS : Hid (Dl.stepsP d = Dl.cnt (Dl.evs d 4) 0 0) := Lib.hid (by unfold Dl.stepsP; rw [if_neg (by omega)])
  obtain ⟨e0, hc, b, o, rfl, hbw, hx⟩ := h.blk (by omega)
  clear e0
  have HX := Lib.hid hx
  have HBY := Lib.hid hb
  have g4 : ¬ (n : Int) < 4 := by omega
  have HEN := Lib.hid en
  rw [← en] at hl
  clear hx hb h en
  go_enter Tryd.func14, Tryd.ntmps14
  go_wp2
  go_loopw [5, 6, 7] (fun va vb vp wr => ∃ p qa qb : Nat, 4 ≤ p ∧ p ≤ n ∧ qa + qb ≤ p ∧ va = .int .i64 qa ∧ vb = .int .i64 qb ∧ vp = .int .i64 p ∧ wr = w ∧ Hid (Dl.cnt (Dl.evs d 4) 0 0 = Dl.cnt (Dl.evs d p) qa qb)) (fun _ _ vp _ => n - (intOf vp).toNat)
  case atStart => exact ⟨4, 0, 0, by omega, by omega, by omega, rfl, rfl, rfl, rfl, Lib.hid rfl⟩
  case round =>
    obtain ⟨p, qa, qb, hp4, hpn, hq, rfl, rfl, rfl, rfl, HC⟩ := hrel
    by_cases hlt : p < n
    · have hpd : p < d.length := by rw [← HEN.out]; exact hlt
      have cx := HX.out p hpd
      have c256 := HBY.out p
      have hev : Dl.evAt d p = Dl.evAt d p := rfl
      have at0e : Dl.at0 d p = d.getD p 0 := rfl
      obtain ⟨x, hxx⟩ : ∃ x, x = Dl.at0 d p := ⟨_, rfl⟩
      rw [← at0e, ← hxx] at cx c256
      have HQ := Lib.hid (show qa + qb ≤ p ∧ 4 ≤ p ∧ p < n ∧ x < 256 ∧ n ≤ 1000000 from ⟨hq, hp4, hlt, c256, hl⟩)
      have gp : (p : Int) < n := by omega
      clear at0e hev
      by_cases h0 : x % 128 = 0
      · have HB : Hid (Dl.stepsP d = (0, 0, some 3)) := Lib.hid (by
          rw [HS.out, HC.out, Dl.evs_bad (s := false) (k := 0) hpd (by unfold Dl.evAt; rw [← hxx, if_pos h0])]; rfl)
        rcases (show x = 0 ∨ x = 128 by omega) with rfl | rfl
        · clear HX HBY HC hxx h0
          go_wp2
          go_ret3
          exact ⟨by rw [HB.out]; rfl, rfl⟩
        · clear HX HBY HC hxx h0
          go_wp2
          go_ret3
          exact ⟨by rw [HB.out]; rfl, rfl⟩
      · have x0 : ((x : Int) == 0) = false := by simp; omega
        have x128 : ((x : Int) == 128) = false := by simp; omega
        by_cases h1 : x < 128
        · have g1 : (x : Int) < 128 := by omega
          by_cases h2 : n < p + 1 + x
          · have HB : Hid (Dl.stepsP d = (0, 0, some 1)) := Lib.hid (by
              rw [HS.out, HC.out, Dl.evs_bad (s := true) (k := 0) hpd (by unfold Dl.evAt; rw [← hxx, if_neg h0, if_pos h1, if_pos (by rw [← HEN.out]; omega)])]; rfl)
            have g2 : (n : Int) < (p : Int) + (1 + (x : Int)) := by omega
            clear HX HBY HC hxx h0 h1 h2
            go_wp2
            go_ret3
            exact ⟨by rw [HB.out]; rfl, rfl⟩
          · have HC2 : Hid (Dl.cnt (Dl.evs d 4) 0 0 = Dl.cnt (Dl.evs d (p + (1 + x))) qa (qb + 1)) := Lib.hid (by
              rw [HC.out, Dl.evs_step (e := .fresh x (p + 1)) (k := 1 + x) hpd (by unfold Dl.evAt; rw [← hxx, if_neg h0, if_pos h1, if_neg (by rw [← HEN.out]; omega)]) (by intro s h; cases h)]; rfl)
            have g2 : ¬ (n : Int) < (p : Int) + (1 + (x : Int)) := by omega
            have HH := Lib.hid (show p + (1 + x) ≤ n ∧ ¬ x % 128 = 0 from ⟨by omega, h0⟩)
            clear HX HBY HC hxx h0 h1 h2
            go_wp2
            go_roundw
            case rel => have h9 := HQ.out; have h8 := HH.out; exact ⟨p + (1 + x), qa, qb + 1, by omega, by omega, by omega, rfl, by go_num, by go_num, trivial, HC2⟩
            case measure => have h9 := HQ.out; have h8 := HH.out; simp [intOf]; omega
        · have g1 : ¬ (x : Int) < 128 := by omega
          by_cases h2 : n < p + 3
          · have HB : Hid (Dl.stepsP d = (0, 0, some 1)) := Lib.hid (by
              rw [HS.out, HC.out, Dl.evs_bad (s := true) (k := 0) hpd (by unfold Dl.evAt; rw [← hxx, if_neg h0, if_neg h1, if_pos (by rw [← HEN.out]; omega)])]; rfl)
            have g2 : (n : Int) < (p : Int) + 3 := by omega
            clear HX HBY HC hxx h0 h1 h2
            go_wp2
            go_ret3
            exact ⟨by rw [HB.out]; rfl, rfl⟩
          · have HC2 : Hid (Dl.cnt (Dl.evs d 4) 0 0 = Dl.cnt (Dl.evs d (p + 3)) (qa + 1) qb) := Lib.hid (by
              rw [HC.out, Dl.evs_step (e := .copy (x - 128) (Dl.two d (p + 1))) (k := 3) hpd (by unfold Dl.evAt; rw [← hxx, if_neg h0, if_neg h1, if_neg (by rw [← HEN.out]; omega)]) (by intro s h; cases h)]; rfl)
            have g2 : ¬ (n : Int) < (p : Int) + 3 := by omega
            have HH := Lib.hid (show p + 3 ≤ n from by omega)
            clear HX HBY HC hxx h0 h1 h2
            go_wp2
            go_roundw
            case rel => have h9 := HQ.out; have h8 := HH.out; exact ⟨p + 3, qa + 1, qb, by omega, by omega, by omega, by go_num, rfl, by go_num, trivial, HC2⟩
            case measure => have h9 := HQ.out; have h8 := HH.out; simp [intOf]; omega
    · have HB : Hid (Dl.stepsP d = (qa, qb, none)) := Lib.hid (by rw [HS.out, HC.out, Dl.evs_end (by rw [← HEN.out]; omega)]; rfl)
      have gp : ¬ (p : Int) < n := by omega
      clear HX HBY HC
      go_wp2
      go_ret3
      exact ⟨by rw [HB.out]; rfl, rfl⟩
end Go.Proofs.YthagldpgibpbdaaDoor
