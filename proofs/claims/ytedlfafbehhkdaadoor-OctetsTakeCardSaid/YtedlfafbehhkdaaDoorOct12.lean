/- Reading numbers: (*In).number, (*In).Num. -/
import Derived.Test.YtedlfafbehhkdaaDoorOct9
import Derived.Test.YtedlfafbehhkdaaDoorOct11
namespace Go.Proofs.YtedlfafbehhkdaaDoor
open Go Go.RowKit
theorem Rd.open_ {w : World} {v : Value} {ys : List Nat} {s : Nat} (h : Rd w v ys) (hs : ys.length = s) : ∃ A c, v = .slice A s c ∧ s ≤ c ∧ (0 < s → ∃ b o, A = some ⟨b, o, none⟩ ∧ ∀ i, i < s → w.cell? ⟨b, o + i, none⟩ = some (.int .u8 ((ys.getD i 0 : Nat) : Int))) := by
  subst hs
  obtain ⟨A, c, h1, h2, h3⟩ := h
  exact ⟨A, c, h1, h2, fun h0 => by obtain ⟨b, o, g1, _, g4⟩ := h3 h0; exact ⟨b, o, g1, g4⟩⟩
theorem val_small {ys : List Nat} (hb : Oc.bytes ys) {k : Nat} (hk : k ≤ 7) (hl : k ≤ ys.length) : Oc.val (ys.take k) < 72057594037927936 := by
  have h := Oc.val_lt k (ys.take k) (Oc.bytes_take hb k) (by rw [List.length_take]; omega)
  have h2 : 256 ^ k ≤ 256 ^ 7 := Nat.pow_le_pow_right (by decide) hk
  have h3 : (256 : Nat) ^ 7 = 72057594037927936 := by decide
  omega
set_option maxRecDepth 100000 in
theorem number_ok (i r s : Nat) (xs : List Nat) (w0 w : World) (h : InAt w0 w i r xs) (hs : s ≤ 8) (hl : s ≤ xs.length) (hb : Oc.bytes xs) :
    Calls Tryd.prog 52 #[.pointer (some ⟨i, 0, none⟩), .int .i64 (s : Int)] w fun e w' => e = .returned (.int .u64 ((Oc.val (xs.take s) : Nat) : Int)) ∧ InAt w0 w' i r (xs.drop s) ∧ w.grownBy w' (some r) := by
  have CN := next_ok i r s xs w0 w h hl
  have hyl : (xs.take s).length = s := by rw [List.length_take]; omega
  have HY := Lib.hid (Oc.bytes_take hb s)
  obtain ⟨ys, hys⟩ : ∃ ys, ys = xs.take s := ⟨_, rfl⟩
  rw [← hys] at CN hyl HY ⊢
  clear hys h
  go_enter Tryd.func52, Tryd.ntmps52
  go_wp2_with (go_at_call 34; refine CN.mono ?_; rintro e w1 ⟨v, rfl, hv, hi, hg⟩; obtain ⟨A, c, rfl, hc, hA⟩ := (hv.below hi.bel.1 (Nat.le_refl _)).open_ hyl; have HI := Lib.hid hi; have HG := Lib.hid hg; clear hi hg hv CN)
  go_loopw [5, 12] (fun n j wr => ∃ k : Nat, k ≤ s ∧ n = .int .u64 ((Oc.val (ys.take k) : Nat) : Int) ∧ j = .int .i64 k ∧ wr = w1) (fun _ j _ => s - (intOf j).toNat)
  case atStart => exact ⟨0, by omega, rfl, rfl, rfl⟩
  case round =>
    obtain ⟨k, hk, rfl, rfl, rfl⟩ := hrel
    by_cases hlt : k < s
    · obtain ⟨b, o, rfl, hx⟩ := hA (by omega)
      have p1 := hx k hlt
      have hvt := Oc.val_take (l := ys) (k := k) (by omega)
      have hv7 := val_small HY.out (k := k) (by omega) (by omega)
      have hb1 : ys.getD k 0 < 256 := by
        have h1 : k < ys.length := by omega
        rw [List.getD, List.getElem?_eq_getElem h1]
        exact HY.out _ (List.getElem_mem h1)
      generalize Oc.val (ys.take k) = V at hvt hv7
      generalize ys.getD k 0 = x at p1 hvt hb1
      have HVT := Lib.hid hvt
      have HOR := Lib.hid (or_byte V x hv7 hb1)
      have i0 : ((k : Nat) : Int) < s := by omega
      have i1 : (0 : Int) ≤ ((k : Nat) : Int) := by omega
      clear hx hA hvt
      go_wp2
      go_roundw
      case rel => exact ⟨k + 1, by omega, by rw [HVT.out, ← HOR.out]; simp, by go_num, (by first | rfl | trivial)⟩
      case measure => simp [intOf]; omega
    · obtain rfl : k = s := by omega
      have H : Hid (ys.take k = ys) := Lib.hid (List.take_of_length_le (by omega))
      go_wp2
      go_ret
      exact ⟨by rw [H.out]; rfl, HI.out, HG.out⟩
theorem number_short (i r s : Nat) (aS : Addr) (xs : List Nat) (w0 w : World) (h : InAt w0 w i r xs) (hl : xs.length < s) (hS : w.cell? ⟨2, 0, none⟩ = some (ev aS)) :
    Calls Tryd.prog 52 #[.pointer (some ⟨i, 0, none⟩), .int .i64 (s : Int)] w (Fails w r (ev aS)) := by
  have CN := next_short i r s aS xs w0 w h hl hS
  clear h
  go_enter Tryd.func52, Tryd.ntmps52
  go_wp2_with (go_at_call 34; refine CN.mono ?_; rintro e w1 ⟨rfl, hd, hg⟩)
  exact ⟨rfl, rfl, hd, hg⟩
theorem to_u64 (n : Nat) (h : n ≤ 4611686018427387903) : IntKind.u64.wrap (n : Int) = (n : Int) := by rw [wrap_u64]; omega
theorem to_i64 (n : Nat) (h : n ≤ 4611686018427387903) : IntKind.i64.wrap (n : Int) = (n : Int) := IntWalk.i64_in _ (by omega)
theorem inum_kind (i r c : Nat) (aK : Addr) (xs : List Nat) (w0 w : World) (h : InAt w0 w i r xs) (hc : Oc.nsize c = 0) (hK : w.cell? ⟨0, 0, none⟩ = some (ev aK)) :
    Calls Tryd.prog 38 #[.pointer (some ⟨i, 0, none⟩), .int .u8 ((c : Nat) : Int)] w (Fails w r (ev aK)) := by
  obtain ⟨v, h, _⟩ := h
  have CF := fail_any i r v aK w h
  have CM := number_any c
  rw [hc] at CM
  clear h
  go_enter Tryd.func38, Tryd.ntmps38
  go_wp2_with (first | (go_at_call 44; refine (CM _).mono ?_; rintro e w' ⟨rfl, rfl⟩) | (go_at_call 41; refine CF.mono ?_; rintro e w' ⟨rfl, hd, hg⟩))
  exact ⟨rfl, rfl, hd, hg⟩
theorem inum_short (i r c z : Nat) (aS : Addr) (xs : List Nat) (w0 w : World) (h : InAt w0 w i r xs) (hc : Oc.nsize c = z) (hz : 0 < z) (hl : xs.length < z) (hS : w.cell? ⟨2, 0, none⟩ = some (ev aS)) :
    Calls Tryd.prog 38 #[.pointer (some ⟨i, 0, none⟩), .int .u8 ((c : Nat) : Int)] w (Fails w r (ev aS)) := by
  have CN := number_short i r z aS xs w0 w h hl hS
  have CM := number_any c
  rw [hc] at CM
  have b0 : ((z : Int) == 0) = false := by simp; omega
  clear h
  go_enter Tryd.func38, Tryd.ntmps38
  go_wp2_with (first | (go_at_call 44; refine (CM _).mono ?_; rintro e w' ⟨rfl, rfl⟩) | (go_at_call 52; refine CN.mono ?_; rintro e w' ⟨rfl, hd, hg⟩))
  exact ⟨rfl, rfl, hd, hg⟩
theorem inum_ok (i r c z : Nat) (xs : List Nat) (w0 w : World) (h : InAt w0 w i r xs) (hc : Oc.nsize c = z) (hz : 0 < z) (hz8 : z ≤ 8) (hl : z ≤ xs.length) (hb : Oc.bytes xs) (hm : Oc.val (xs.take z) ≤ Oc.mostN c) (hmm : Oc.most c = Oc.mostN c) :
    Calls Tryd.prog 38 #[.pointer (some ⟨i, 0, none⟩), .int .u8 ((c : Nat) : Int)] w fun e w' => e = .returned (.int .i64 ((Oc.val (xs.take z) : Nat) : Int)) ∧ InAt w0 w' i r (xs.drop z) ∧ w.grownBy w' (some r) := by
  have CN := number_ok i r z xs w0 w h hz8 hl hb
  have CM := number_any c
  have hle := Oc.most_le c
  rw [hc, hmm] at CM
  rw [hmm] at hle
  generalize Oc.mostN c = M at hm hle CM
  generalize Oc.val (xs.take z) = V at hm CN ⊢
  have q1 := to_u64 M (by omega)
  have q2 := to_i64 V (by omega)
  have b0 : ((z : Int) == 0) = false := by simp; omega
  have i1 : ¬ (M : Int) < (V : Int) := by omega
  clear h hmm
  go_enter Tryd.func38, Tryd.ntmps38
  go_wp2_with (first | (go_at_call 44; refine (CM _).mono ?_; rintro e w' ⟨rfl, rfl⟩) | (go_at_call 52; refine CN.mono ?_; rintro e w' ⟨rfl, hi, hg⟩; have HI := Lib.hid hi; have HG := Lib.hid hg; clear hi hg))
  go_ret
  exact ⟨rfl, HI.out, HG.out⟩
theorem inum_range (i r c z : Nat) (aR : Addr) (xs : List Nat) (w0 w : World) (h : InAt w0 w i r xs) (hc : Oc.nsize c = z) (hz : 0 < z) (hz8 : z ≤ 8) (hl : z ≤ xs.length) (hb : Oc.bytes xs) (hm : Oc.mostN c < Oc.val (xs.take z)) (hmm : Oc.most c = Oc.mostN c) (hr1 : r ≠ 1) (hR : w.cell? ⟨1, 0, none⟩ = some (ev aR)) :
    Calls Tryd.prog 38 #[.pointer (some ⟨i, 0, none⟩), .int .u8 ((c : Nat) : Int)] w (Fails w r (ev aR)) := by
  have CN := number_ok i r z xs w0 w h hz8 hl hb
  have CM := number_any c
  have hle := Oc.most_le c
  have hvl := Oc.val_lt z (xs.take z) (Oc.bytes_take hb z) (by rw [List.length_take]; omega)
  rw [hc, hmm] at CM
  rw [hmm] at hle
  generalize Oc.mostN c = M at hm hle CM
  generalize Oc.val (xs.take z) = V at hm CN hvl
  have q1 := to_u64 M (by omega)
  have b0 : ((z : Int) == 0) = false := by simp; omega
  have i1 : (M : Int) < (V : Int) := by omega
  clear h hmm hvl
  go_enter Tryd.func38, Tryd.ntmps38
  go_wp2_with (first | (go_at_call 44; refine (CM _).mono ?_; rintro e w' ⟨rfl, rfl⟩) | (go_at_call 52; refine CN.mono ?_; rintro e w1 ⟨rfl, hi, hg⟩; have pR : w1.cell? ⟨1, 0, none⟩ = some (ev aR) := hg.cell hR (fun e => hr1 (by injection e with e; exact e.symm)); obtain ⟨v1, hi1, _⟩ := hi; have CF := fail_any i r v1 aR w1 hi1; have HG := Lib.hid hg; clear hg hi1) | (go_at_call 41; refine CF.mono ?_; rintro e w' ⟨rfl, hd, hg⟩))
  exact ⟨rfl, rfl, hd, only_trans HG.out hg⟩
end Go.Proofs.YtedlfafbehhkdaaDoor
