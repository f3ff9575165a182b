/- delta.common and delta.longest. -/
import Derived.Test.YthagldpgibpbdaaDoorDl6
import Derived.Test.YthagldpgibpbdaaDoorDl7
import Derived.Test.YthagldpgibpbdaaDoorShelf
import Derived.WalkLawsBesides
namespace Go.Proofs.YthagldpgibpbdaaDoor
open Go Go.RowKit
set_option maxRecDepth 100000 in
set_option maxHeartbeats 1000000 in
theorem common_any (A B : Option Addr) (na ca nb cb : Nat) (xs ys : List Nat) (w : World) (hx : Rd w (.slice A na ca) xs) (hy : Rd w (.slice B nb cb) ys) (hlx : xs.length ≤ 1000000) (hly : ys.length ≤ 1000000) :
    Calls Tryd.prog 34 #[.slice A na ca, .slice B nb cb] w fun e w' => e = .returned (.int .i64 (Dl.cmn xs ys 127 : Nat)) ∧ ∃ m, w' = w.drewN m := by
  have ea : na = xs.length := by obtain ⟨_, _, hv, _⟩ := hx; injection hv
  have eb : nb = ys.length := by obtain ⟨_, _, hv, _⟩ := hy; injection hv
  subst ea eb
  have HX := Lib.hid hx
  have HY := Lib.hid hy
  clear hx hy
  obtain ⟨na, hna⟩ : ∃ na, na = xs.length := ⟨_, rfl⟩
  obtain ⟨nb, hnb⟩ : ∃ nb, nb = ys.length := ⟨_, rfl⟩
  rw [← hna] at HX hlx ⊢
  rw [← hnb] at HY hly ⊢
  have HNA := Lib.hid hna
  have HNB := Lib.hid hnb
  clear hna hnb
  by_cases z1 : na ≤ nb
  · by_cases z2 : na ≤ 127
    · have z3 : (na : Int) ≤ nb := by omega
      have z4 : (na : Int) ≤ 127 := by omega
      go_enter Tryd.func34, Tryd.ntmps34
      go_wp2
      go_loopw [13] (fun i wr => ∃ k m : Nat, k ≤ na ∧ i = .int .i64 k ∧ Hid (xs.take k = ys.take k) ∧ wr = w.drewN m) (fun i _ => na - (intOf i).toNat)
      case atStart => exact ⟨0, 0, Nat.zero_le _, rfl, Lib.hid rfl, rfl⟩
      case round =>
        obtain ⟨k, m, hk, rfl, HT, rfl⟩ := hrel
        by_cases hlt : k < na
        · have l1 : k < na := by omega
          have l2 : k < nb := by omega
          obtain ⟨_, _, b1, o1, rfl, _, g1⟩ := HX.out.blk (by rw [← HNA.out]; omega)
          obtain ⟨_, _, b2, o2, rfl, _, g2⟩ := HY.out.blk (by rw [← HNB.out]; omega)
          have x1 : w.cell? ⟨b1, o1 + k, none⟩ = _ := g1 k (by rw [← HNA.out]; omega)
          have x2 : w.cell? ⟨b2, o2 + k, none⟩ = _ := g2 k (by rw [← HNB.out]; omega)
          have HS := Lib.hid (show xs.getD k 0 = ys.getD k 0 → xs.take (k + 1) = ys.take (k + 1) from fun h => Dl.take_step (by rw [← HNA.out]; omega) (by rw [← HNB.out]; omega) HT.out h)
          have HN := Lib.hid (show xs.getD k 0 ≠ ys.getD k 0 → Dl.cmn xs ys 127 = k from fun h => Dl.cmn_stop (by omega) (by rw [← HNA.out]; omega) (by rw [← HNB.out]; omega) HT.out h)
          generalize xs.getD k 0 = p at x1 HS HN
          generalize ys.getD k 0 = q at x2 HS HN
          clear g1 g2
          have i1 : (0 : Int) ≤ ((k : Nat) : Int) := by omega
          by_cases e : p = q
          · have HE := Lib.hid (HS.out e)
            subst e
            clear HS HN
            go_wp2
            go_quiet (fail)
            go_wp2
            go_roundw
            case rel => exact ⟨k + 1, m + nq, by omega, by go_num, HE, by simp⟩
            case measure => simp [intOf]; omega
          · have HE := Lib.hid (HN.out e)
            have e1 : ((p : Int) != (q : Int)) = true := by simp; omega
            have e2 : ¬ (p : Int) = (q : Int) := by omega
            clear HS HN e
            go_wp2
            go_quiet (fail)
            go_wp2
            go_ret
            exact ⟨by rw [HE.out]; rfl, m + nq, by simp⟩
        · have HE : Hid (Dl.cmn xs ys 127 = na) := Lib.hid (Dl.cmn_full (by rw [← HNA.out, ← HNB.out]; omega) (by rw [← show k = na by omega]; exact HT.out))
          go_wp2
          go_ret
          exact ⟨by rw [HE.out]; rfl, m, rfl⟩
    · have z3 : (na : Int) ≤ nb := by omega
      have z4 : ¬ (na : Int) ≤ 127 := by omega
      have z5 : (127 : Int) ≤ na := by omega
      have z6 : (127 : Int) ≤ nb := by omega
      go_enter Tryd.func34, Tryd.ntmps34
      go_wp2
      go_loopw [13] (fun i wr => ∃ k m : Nat, k ≤ 127 ∧ i = .int .i64 k ∧ Hid (xs.take k = ys.take k) ∧ wr = w.drewN m) (fun i _ => 127 - (intOf i).toNat)
      case atStart => exact ⟨0, 0, Nat.zero_le _, rfl, Lib.hid rfl, rfl⟩
      case round =>
        obtain ⟨k, m, hk, rfl, HT, rfl⟩ := hrel
        by_cases hlt : k < 127
        · have l1 : k < na := by omega
          have l2 : k < nb := by omega
          obtain ⟨_, _, b1, o1, rfl, _, g1⟩ := HX.out.blk (by rw [← HNA.out]; omega)
          obtain ⟨_, _, b2, o2, rfl, _, g2⟩ := HY.out.blk (by rw [← HNB.out]; omega)
          have x1 : w.cell? ⟨b1, o1 + k, none⟩ = _ := g1 k (by rw [← HNA.out]; omega)
          have x2 : w.cell? ⟨b2, o2 + k, none⟩ = _ := g2 k (by rw [← HNB.out]; omega)
          have HS := Lib.hid (show xs.getD k 0 = ys.getD k 0 → xs.take (k + 1) = ys.take (k + 1) from fun h => Dl.take_step (by rw [← HNA.out]; omega) (by rw [← HNB.out]; omega) HT.out h)
          have HN := Lib.hid (show xs.getD k 0 ≠ ys.getD k 0 → Dl.cmn xs ys 127 = k from fun h => Dl.cmn_stop (by omega) (by rw [← HNA.out]; omega) (by rw [← HNB.out]; omega) HT.out h)
          generalize xs.getD k 0 = p at x1 HS HN
          generalize ys.getD k 0 = q at x2 HS HN
          clear g1 g2
          have i1 : (0 : Int) ≤ ((k : Nat) : Int) := by omega
          by_cases e : p = q
          · have HE := Lib.hid (HS.out e)
            subst e
            clear HS HN
            go_wp2
            go_quiet (fail)
            go_wp2
            go_roundw
            case rel => exact ⟨k + 1, m + nq, by omega, by go_num, HE, by simp⟩
            case measure => simp [intOf]; omega
          · have HE := Lib.hid (HN.out e)
            have e1 : ((p : Int) != (q : Int)) = true := by simp; omega
            have e2 : ¬ (p : Int) = (q : Int) := by omega
            clear HS HN e
            go_wp2
            go_quiet (fail)
            go_wp2
            go_ret
            exact ⟨by rw [HE.out]; rfl, m + nq, by simp⟩
        · have HE : Hid (Dl.cmn xs ys 127 = 127) := Lib.hid (Dl.cmn_full (by rw [← HNA.out, ← HNB.out]; omega) (by rw [← show k = 127 by omega]; exact HT.out))
          go_wp2
          go_ret
          exact ⟨by rw [HE.out]; rfl, m, rfl⟩
  · by_cases z2 : nb ≤ 127
    · have z3 : ¬ (na : Int) ≤ nb := by omega
      have z5 : (nb : Int) ≤ na := by omega
      have z4 : (nb : Int) ≤ 127 := by omega
      go_enter Tryd.func34, Tryd.ntmps34
      go_wp2
      go_loopw [13] (fun i wr => ∃ k m : Nat, k ≤ nb ∧ i = .int .i64 k ∧ Hid (xs.take k = ys.take k) ∧ wr = w.drewN m) (fun i _ => nb - (intOf i).toNat)
      case atStart => exact ⟨0, 0, Nat.zero_le _, rfl, Lib.hid rfl, rfl⟩
      case round =>
        obtain ⟨k, m, hk, rfl, HT, rfl⟩ := hrel
        by_cases hlt : k < nb
        · have l1 : k < na := by omega
          have l2 : k < nb := by omega
          obtain ⟨_, _, b1, o1, rfl, _, g1⟩ := HX.out.blk (by rw [← HNA.out]; omega)
          obtain ⟨_, _, b2, o2, rfl, _, g2⟩ := HY.out.blk (by rw [← HNB.out]; omega)
          have x1 : w.cell? ⟨b1, o1 + k, none⟩ = _ := g1 k (by rw [← HNA.out]; omega)
          have x2 : w.cell? ⟨b2, o2 + k, none⟩ = _ := g2 k (by rw [← HNB.out]; omega)
          have HS := Lib.hid (show xs.getD k 0 = ys.getD k 0 → xs.take (k + 1) = ys.take (k + 1) from fun h => Dl.take_step (by rw [← HNA.out]; omega) (by rw [← HNB.out]; omega) HT.out h)
          have HN := Lib.hid (show xs.getD k 0 ≠ ys.getD k 0 → Dl.cmn xs ys 127 = k from fun h => Dl.cmn_stop (by omega) (by rw [← HNA.out]; omega) (by rw [← HNB.out]; omega) HT.out h)
          generalize xs.getD k 0 = p at x1 HS HN
          generalize ys.getD k 0 = q at x2 HS HN
          clear g1 g2
          have i1 : (0 : Int) ≤ ((k : Nat) : Int) := by omega
          by_cases e : p = q
          · have HE := Lib.hid (HS.out e)
            subst e
            clear HS HN
            go_wp2
            go_quiet (fail)
            go_wp2
            go_roundw
            case rel => exact ⟨k + 1, m + nq, by omega, by go_num, HE, by simp⟩
            case measure => simp [intOf]; omega
          · have HE := Lib.hid (HN.out e)
            have e1 : ((p : Int) != (q : Int)) = true := by simp; omega
            have e2 : ¬ (p : Int) = (q : Int) := by omega
            clear HS HN e
            go_wp2
            go_quiet (fail)
            go_wp2
            go_ret
            exact ⟨by rw [HE.out]; rfl, m + nq, by simp⟩
        · have HE : Hid (Dl.cmn xs ys 127 = nb) := Lib.hid (Dl.cmn_full (by rw [← HNA.out, ← HNB.out]; omega) (by rw [← show k = nb by omega]; exact HT.out))
          go_wp2
          go_ret
          exact ⟨by rw [HE.out]; rfl, m, rfl⟩
    · have z3 : ¬ (na : Int) ≤ nb := by omega
      have z4 : ¬ (nb : Int) ≤ 127 := by omega
      have z5 : (nb : Int) ≤ na := by omega
      have z6 : (127 : Int) ≤ nb := by omega
      have z7 : (127 : Int) ≤ na := by omega
      go_enter Tryd.func34, Tryd.ntmps34
      go_wp2
      go_loopw [13] (fun i wr => ∃ k m : Nat, k ≤ 127 ∧ i = .int .i64 k ∧ Hid (xs.take k = ys.take k) ∧ wr = w.drewN m) (fun i _ => 127 - (intOf i).toNat)
      case atStart => exact ⟨0, 0, Nat.zero_le _, rfl, Lib.hid rfl, rfl⟩
      case round =>
        obtain ⟨k, m, hk, rfl, HT, rfl⟩ := hrel
        by_cases hlt : k < 127
        · have l1 : k < na := by omega
          have l2 : k < nb := by omega
          obtain ⟨_, _, b1, o1, rfl, _, g1⟩ := HX.out.blk (by rw [← HNA.out]; omega)
          obtain ⟨_, _, b2, o2, rfl, _, g2⟩ := HY.out.blk (by rw [← HNB.out]; omega)
          have x1 : w.cell? ⟨b1, o1 + k, none⟩ = _ := g1 k (by rw [← HNA.out]; omega)
          have x2 : w.cell? ⟨b2, o2 + k, none⟩ = _ := g2 k (by rw [← HNB.out]; omega)
          have HS := Lib.hid (show xs.getD k 0 = ys.getD k 0 → xs.take (k + 1) = ys.take (k + 1) from fun h => Dl.take_step (by rw [← HNA.out]; omega) (by rw [← HNB.out]; omega) HT.out h)
          have HN := Lib.hid (show xs.getD k 0 ≠ ys.getD k 0 → Dl.cmn xs ys 127 = k from fun h => Dl.cmn_stop (by omega) (by rw [← HNA.out]; omega) (by rw [← HNB.out]; omega) HT.out h)
          generalize xs.getD k 0 = p at x1 HS HN
          generalize ys.getD k 0 = q at x2 HS HN
          clear g1 g2
          have i1 : (0 : Int) ≤ ((k : Nat) : Int) := by omega
          by_cases e : p = q
          · have HE := Lib.hid (HS.out e)
            subst e
            clear HS HN
            go_wp2
            go_quiet (fail)
            go_wp2
            go_roundw
            case rel => exact ⟨k + 1, m + nq, by omega, by go_num, HE, by simp⟩
            case measure => simp [intOf]; omega
          · have HE := Lib.hid (HN.out e)
            have e1 : ((p : Int) != (q : Int)) = true := by simp; omega
            have e2 : ¬ (p : Int) = (q : Int) := by omega
            clear HS HN e
            go_wp2
            go_quiet (fail)
            go_wp2
            go_ret
            exact ⟨by rw [HE.out]; rfl, m + nq, by simp⟩
        · have HE : Hid (Dl.cmn xs ys 127 = 127) := Lib.hid (Dl.cmn_full (by rw [← HNA.out, ← HNB.out]; omega) (by rw [← show k = 127 by omega]; exact HT.out))
          go_wp2
          go_ret
          exact ⟨by rw [HE.out]; rfl, m, rfl⟩
end Go.Proofs.YthagldpgibpbdaaDoor
