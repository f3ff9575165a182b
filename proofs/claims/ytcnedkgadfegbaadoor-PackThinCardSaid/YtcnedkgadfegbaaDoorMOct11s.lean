/- Reading, from below: an In that has too few bytes (next); a number (number), a copy of bytes (bytes.Clone). -/
import Derived.Test.YtcnedkgadfegbaaDoorMOct9s
namespace Go.Proofs.YtcnedkgadfegbaaDoor
open Go Go.RowKit
theorem next_short (i r n : Nat) (aS : Addr) (xs : List Nat) (w0 w : World) (h : InAt w0 w i r xs) (hn : xs.length < n) (hS : w.cell? ⟨1, 0, none⟩ = some (ev aS)) :
    Calls Tryd.prog 46 #[.pointer (some ⟨i, 0, none⟩), .int .i64 (n : Int)] w (Fails w r (ev aS)) := by
  obtain ⟨v, h, hr, _⟩ := h
  obtain ⟨A, c, rfl, hc, hA⟩ := hr
  clear hA
  have c0 : w.cell? ⟨i, 0, none⟩ = some (.pointer (some ⟨r, 0, none⟩)) := h.i_.cell 0
  have c1 : w.cell? ⟨r, 0, none⟩ = some (.slice A xs.length c) := h.r_.cell 0
  have c2 : w.cell? ⟨r, 1, none⟩ = some (.bool true) := h.r_.cell 1
  have c3 : w.cell? ⟨r, 2, none⟩ = some (.bool false) := h.r_.cell 2
  have i1 : (xs.length : Int) < (n : Int) := by omega
  have CF := fail_any i r _ aS w h
  clear h
  go_enter Tryd.func46, Tryd.ntmps46
  go_wp2_with (go_at_call 21; refine CF.mono ?_; rintro e w' ⟨rfl, hd, hg⟩)
  exact ⟨rfl, rfl, hd, hg⟩
theorem clone_any (v : Value) (xs : List Nat) (w : World) (hv : Rd w v xs) (hz : xs.length ≤ 1099511627776) :
    Calls Tryd.prog 56 #[v] w fun e w' => ∃ A c, e = .returned (.slice A xs.length c) ∧ Rd w' (.slice A xs.length c) xs ∧ (0 < xs.length → ∃ g cs, A = some ⟨g, 0, none⟩ ∧ w.heap.size ≤ g ∧ Blk w' g 5 cs) ∧ Below w.heap.size w w' := by
  have HV := Lib.hid hv
  obtain ⟨A, c, rfl, hc, hA⟩ := hv
  have qT : ∀ (w : World) (a : Option Addr) (n c n' c' : Nat), (binOp .eql 22 (.slice a n c) (.slice none n' c')).run Tryd.prog w = .ok (.bool a.isNone) w := fun w a n c n' c' => Lib.run_eql_slice_nil w _ _ a n c n' c' Tryd.underlying22
  cases A with
  | none =>
    have h0 : xs.length = 0 := by
      rcases Nat.eq_zero_or_pos xs.length with h | h
      · exact h
      · obtain ⟨b, o, ha, _⟩ := hA h
        cases ha
    have e := List.eq_nil_of_length_eq_zero h0
    subst e
    clear hA
    go_enter Tryd.func56, Tryd.ntmps56
    go_wp2
    go_ret
    exact ⟨_, _, rfl, ⟨_, _, rfl, Nat.le_refl _, fun h => absurd h (by simp)⟩, fun h => absurd h (by simp), Below.refl _ _⟩
  | some a =>
    clear hA
    obtain ⟨n, hn⟩ : ∃ n, n = xs.length := ⟨_, rfl⟩
    rw [← hn] at hc hz HV ⊢
    have HN := Lib.hid hn
    clear hn
    have HP : Hid (Pad w.heap.size w (.slice (some ⟨w.heap.size, 0, none⟩) 0 0) [] (w.alloc (.cells #[] 5))) := Lib.hid ⟨World.ownsRow_lit w #[] 0 (Nat.le_refl _) (by decide) rfl, (Below.refl _ _).alloc (Nat.le_refl _) _⟩
    have HR1 := Lib.hid (rd_alloc HV.out (.cells #[] 5))
    have HZ : Hid (([] : List Nat).length + xs.length ≤ 70368744177664) := Lib.hid (by rw [← HN.out]; simp; omega)
    go_enter Tryd.func56, Tryd.ntmps56
    go_wp2_with (refine wpList_appendB rfl (.tmp 5) (.tmp 6) rfl w.heap.size _ [] rfl HP.out.own HP.out.bel.size _ rfl xs HR1.out HZ.out ?_; intro v2 w2 ho2 hg2; rw [List.nil_append] at ho2; have HP2 : Hid (Pad w.heap.size w v2 xs w2) := Lib.hid ⟨ho2, below_own HP.out.bel HP.out.own (Nat.le_refl _) hg2⟩; clear ho2 hg2)
    go_ret
    obtain ⟨A2, c2, rfl⟩ := HP2.out.len
    refine ⟨A2, c2, by rw [HN.out]; rfl, by rw [HN.out]; exact HP2.out.rd, fun h0 => ?_, HP2.out.bel⟩
    rcases HP2.out.own.2 with ⟨_, h1⟩ | ⟨g, cap, cur, hv, hb, hh, _⟩
    · rw [HN.out] at h0; omega
    · injection hv with e1 e2 e3
      exact ⟨g, cur, e1, hb, hh⟩
theorem or_byte (n b : Nat) (hn : n < 72057594037927936) (hb : b < 256) : bits .or .u64 (((n * 256 : Nat)) : Int) (b : Int) = ((n * 256 + b : Nat) : Int) := by
  rw [u64_or (n * 256) b (by omega) (by omega)]
  have h := Nat.shiftLeft_add_eq_or_of_lt (i := 8) (b := b) (by omega) n
  rw [Nat.shiftLeft_eq] at h
  rw [show n * 256 = n * 2^8 from rfl, ← h]
end Go.Proofs.YtcnedkgadfegbaaDoor
/- Reading numbers: (*In).number, (*In).Num. -/
namespace Go.Proofs.YtcnedkgadfegbaaDoor
open Go Go.RowKit
theorem Rd.open_ {w : World} {v : Value} {ys : List Nat} {s : Nat} (h : Rd w v ys) (hs : ys.length = s) : ∃ A c, v = .slice A s c ∧ s ≤ c ∧ (0 < s → ∃ b o, A = some ⟨b, o, none⟩ ∧ ∀ i, i < s → w.cell? ⟨b, o + i, none⟩ = some (.int .u8 ((ys.getD i 0 : Nat) : Int))) := by
  subst hs
  obtain ⟨A, c, h1, h2, h3⟩ := h
  exact ⟨A, c, h1, h2, fun h0 => by obtain ⟨b, o, g1, _, g4⟩ := h3 h0; exact ⟨b, o, g1, g4⟩⟩
theorem val_small {ys : List Nat} (hb : Oc.bytes ys) {k : Nat} (hk : k ≤ 7) (hl : k ≤ ys.length) : Oc.val (ys.take k) < 72057594037927936 := by
  have h := Oc.val_lt k (ys.take k) (Oc.bytes_take hb k) (by rw [List.length_take]; omega)
  have h2 : 256 ^ k ≤ 256 ^ 7 := Nat.pow_le_pow_right (by decide) hk
  have h3 : (256 : Nat) ^ 7 = 72057594037927936 := by decide
  omega
set_option maxRecDepth 100000 in
theorem number_ok (i r s : Nat) (xs : List Nat) (w0 w : World) (h : InAt w0 w i r xs) (hs : s ≤ 8) (hl : s ≤ xs.length) (hb : Oc.bytes xs) :
    Calls Tryd.prog 40 #[.pointer (some ⟨i, 0, none⟩), .int .i64 (s : Int)] w fun e w' => e = .returned (.int .u64 ((Oc.val (xs.take s) : Nat) : Int)) ∧ InAt w0 w' i r (xs.drop s) ∧ w.grownBy w' (some r) := by
  have CN := next_ok i r s xs w0 w h hl
  have hyl : (xs.take s).length = s := by rw [List.length_take]; omega
  have HY := Lib.hid (Oc.bytes_take hb s)
  obtain ⟨ys, hys⟩ : ∃ ys, ys = xs.take s := ⟨_, rfl⟩
  rw [← hys] at CN hyl HY ⊢
  clear hys h
  go_enter Tryd.func40, Tryd.ntmps40
  go_wp2_with (go_at_call 46; refine CN.mono ?_; rintro e w1 ⟨v, rfl, hv, hi, hg⟩; obtain ⟨A, c, rfl, hc, hA⟩ := (hv.below hi.bel.1 (Nat.le_refl _)).open_ hyl; have HI := Lib.hid hi; have HG := Lib.hid hg; clear hi hg hv CN)
  go_loopw [5, 12] (fun n j wr => ∃ k : Nat, k ≤ s ∧ n = .int .u64 ((Oc.val (ys.take k) : Nat) : Int) ∧ j = .int .i64 k ∧ wr = w1) (fun _ j _ => s - (intOf j).toNat)
  case atStart => exact ⟨0, by omega, rfl, rfl, rfl⟩
  case round =>
    obtain ⟨k, hk, rfl, rfl, rfl⟩ := hrel
    by_cases hlt : k < s
    · obtain ⟨b, o, rfl, hx⟩ := hA (by omega)
      have p1 := hx k hlt
      have hvt := Oc.val_take (l := ys) (k := k) (by omega)
      have hv7 := val_small HY.out (k := k) (by omega) (by omega)
      have hb1 : ys.getD k 0 < 256 := by
        have h1 : k < ys.length := by omega
        rw [List.getD, List.getElem?_eq_getElem h1]
        exact HY.out _ (List.getElem_mem h1)
      generalize Oc.val (ys.take k) = V at hvt hv7
      generalize ys.getD k 0 = x at p1 hvt hb1
      have HVT := Lib.hid hvt
      have HOR := Lib.hid (or_byte V x hv7 hb1)
      have i0 : ((k : Nat) : Int) < s := by omega
      have i1 : (0 : Int) ≤ ((k : Nat) : Int) := by omega
      clear hx hA hvt
      go_wp2
      go_roundw
      case rel => exact ⟨k + 1, by omega, by rw [HVT.out, ← HOR.out]; simp, by go_num, (by first | rfl | trivial)⟩
      case measure => simp [intOf]; omega
    · obtain rfl : k = s := by omega
      have H : Hid (ys.take k = ys) := Lib.hid (List.take_of_length_le (by omega))
      go_wp2
      go_ret
      exact ⟨by rw [H.out]; rfl, HI.out, HG.out⟩
theorem number_short (i r s : Nat) (aS : Addr) (xs : List Nat) (w0 w : World) (h : InAt w0 w i r xs) (hl : xs.length < s) (hS : w.cell? ⟨1, 0, none⟩ = some (ev aS)) :
    Calls Tryd.prog 40 #[.pointer (some ⟨i, 0, none⟩), .int .i64 (s : Int)] w (Fails w r (ev aS)) := by
  have CN := next_short i r s aS xs w0 w h hl hS
  clear h
  go_enter Tryd.func40, Tryd.ntmps40
  go_wp2_with (go_at_call 46; refine CN.mono ?_; rintro e w1 ⟨rfl, hd, hg⟩)
  exact ⟨rfl, rfl, hd, hg⟩
theorem to_u64 (n : Nat) (h : n ≤ 4611686018427387903) : IntKind.u64.wrap (n : Int) = (n : Int) := by rw [wrap_u64]; omega
theorem to_i64 (n : Nat) (h : n ≤ 4611686018427387903) : IntKind.i64.wrap (n : Int) = (n : Int) := IntWalk.i64_in _ (by omega)
theorem inum_kind (i r c : Nat) (aK : Addr) (xs : List Nat) (w0 w : World) (h : InAt w0 w i r xs) (hc : Oc.nsize c = 0) (hK : w.cell? ⟨4, 0, none⟩ = some (ev aK)) :
    Calls Tryd.prog 20 #[.pointer (some ⟨i, 0, none⟩), .int .u8 ((c : Nat) : Int)] w (Fails w r (ev aK)) := by
  obtain ⟨v, h, _⟩ := h
  have CF := fail_any i r v aK w h
  have CM := number_any c
  rw [hc] at CM
  clear h
  go_enter Tryd.func20, Tryd.ntmps20
  go_wp2_with (first | (go_at_call 39; refine (CM _).mono ?_; rintro e w' ⟨rfl, rfl⟩) | (go_at_call 21; refine CF.mono ?_; rintro e w' ⟨rfl, hd, hg⟩))
  exact ⟨rfl, rfl, hd, hg⟩
theorem inum_short (i r c z : Nat) (aS : Addr) (xs : List Nat) (w0 w : World) (h : InAt w0 w i r xs) (hc : Oc.nsize c = z) (hz : 0 < z) (hl : xs.length < z) (hS : w.cell? ⟨1, 0, none⟩ = some (ev aS)) :
    Calls Tryd.prog 20 #[.pointer (some ⟨i, 0, none⟩), .int .u8 ((c : Nat) : Int)] w (Fails w r (ev aS)) := by
  have CN := number_short i r z aS xs w0 w h hl hS
  have CM := number_any c
  rw [hc] at CM
  have b0 : ((z : Int) == 0) = false := by simp; omega
  clear h
  go_enter Tryd.func20, Tryd.ntmps20
  go_wp2_with (first | (go_at_call 39; refine (CM _).mono ?_; rintro e w' ⟨rfl, rfl⟩) | (go_at_call 40; refine CN.mono ?_; rintro e w' ⟨rfl, hd, hg⟩))
  exact ⟨rfl, rfl, hd, hg⟩
theorem inum_ok (i r c z : Nat) (xs : List Nat) (w0 w : World) (h : InAt w0 w i r xs) (hc : Oc.nsize c = z) (hz : 0 < z) (hz8 : z ≤ 8) (hl : z ≤ xs.length) (hb : Oc.bytes xs) (hm : Oc.val (xs.take z) ≤ Oc.mostN c) (hmm : Oc.most c = Oc.mostN c) :
    Calls Tryd.prog 20 #[.pointer (some ⟨i, 0, none⟩), .int .u8 ((c : Nat) : Int)] w fun e w' => e = .returned (.int .i64 ((Oc.val (xs.take z) : Nat) : Int)) ∧ InAt w0 w' i r (xs.drop z) ∧ w.grownBy w' (some r) := by
  have CN := number_ok i r z xs w0 w h hz8 hl hb
  have CM := number_any c
  have hle := Oc.most_le c
  rw [hc, hmm] at CM
  rw [hmm] at hle
  generalize Oc.mostN c = M at hm hle CM
  generalize Oc.val (xs.take z) = V at hm CN ⊢
  have q1 := to_u64 M (by omega)
  have q2 := to_i64 V (by omega)
  have b0 : ((z : Int) == 0) = false := by simp; omega
  have i1 : ¬ (M : Int) < (V : Int) := by omega
  clear h hmm
  go_enter Tryd.func20, Tryd.ntmps20
  go_wp2_with (first | (go_at_call 39; refine (CM _).mono ?_; rintro e w' ⟨rfl, rfl⟩) | (go_at_call 40; refine CN.mono ?_; rintro e w' ⟨rfl, hi, hg⟩; have HI := Lib.hid hi; have HG := Lib.hid hg; clear hi hg))
  go_ret
  exact ⟨rfl, HI.out, HG.out⟩
theorem inum_range (i r c z : Nat) (aR : Addr) (xs : List Nat) (w0 w : World) (h : InAt w0 w i r xs) (hc : Oc.nsize c = z) (hz : 0 < z) (hz8 : z ≤ 8) (hl : z ≤ xs.length) (hb : Oc.bytes xs) (hm : Oc.mostN c < Oc.val (xs.take z)) (hmm : Oc.most c = Oc.mostN c) (hr1 : r ≠ 6) (hR : w.cell? ⟨6, 0, none⟩ = some (ev aR)) :
    Calls Tryd.prog 20 #[.pointer (some ⟨i, 0, none⟩), .int .u8 ((c : Nat) : Int)] w (Fails w r (ev aR)) := by
  have CN := number_ok i r z xs w0 w h hz8 hl hb
  have CM := number_any c
  have hle := Oc.most_le c
  have hvl := Oc.val_lt z (xs.take z) (Oc.bytes_take hb z) (by rw [List.length_take]; omega)
  rw [hc, hmm] at CM
  rw [hmm] at hle
  generalize Oc.mostN c = M at hm hle CM
  generalize Oc.val (xs.take z) = V at hm CN hvl
  have q1 := to_u64 M (by omega)
  have b0 : ((z : Int) == 0) = false := by simp; omega
  have i1 : (M : Int) < (V : Int) := by omega
  clear h hmm hvl
  go_enter Tryd.func20, Tryd.ntmps20
  go_wp2_with (first | (go_at_call 39; refine (CM _).mono ?_; rintro e w' ⟨rfl, rfl⟩) | (go_at_call 40; refine CN.mono ?_; rintro e w1 ⟨rfl, hi, hg⟩; have pR : w1.cell? ⟨6, 0, none⟩ = some (ev aR) := hg.cell hR (fun e => hr1 (by injection e with e; exact e.symm)); obtain ⟨v1, hi1, _⟩ := hi; have CF := fail_any i r v1 aR w1 hi1; have HG := Lib.hid hg; clear hg hi1) | (go_at_call 21; refine CF.mono ?_; rintro e w' ⟨rfl, hd, hg⟩))
  exact ⟨rfl, rfl, hd, only_trans HG.out hg⟩
end Go.Proofs.YtcnedkgadfegbaaDoor
/- Reading texts and objects' names: (*In).Text, (*In).Oid. -/
namespace Go.Proofs.YtcnedkgadfegbaaDoor
open Go Go.RowKit
theorem text_short (i r : Nat) (aS : Addr) (xs : List Nat) (w0 w : World) (h : InAt w0 w i r xs) (hl : xs.length < 2) (hS : w.cell? ⟨1, 0, none⟩ = some (ev aS)) :
    Calls Tryd.prog 59 #[.pointer (some ⟨i, 0, none⟩)] w (Fails w r (ev aS)) := by
  have CN : Calls Tryd.prog 40 #[.pointer (some ⟨i, 0, none⟩), .int .i64 2] w (Fails w r (ev aS)) := number_short i r 2 aS xs w0 w h hl hS
  clear h
  go_enter Tryd.func59, Tryd.ntmps59
  go_wp2_with (go_at_call 40; refine CN.mono ?_; rintro e w1 ⟨rfl, hd, hg⟩)
  exact ⟨rfl, rfl, hd, hg⟩
theorem text_short2 (i r : Nat) (aS : Addr) (xs : List Nat) (w0 w : World) (h : InAt w0 w i r xs) (hl : 2 ≤ xs.length) (hl2 : xs.length < 2 + Oc.val (xs.take 2)) (hb : Oc.bytes xs) (hr1 : r ≠ 1) (hS : w.cell? ⟨1, 0, none⟩ = some (ev aS)) :
    Calls Tryd.prog 59 #[.pointer (some ⟨i, 0, none⟩)] w (Fails w r (ev aS)) := by
  have CN : Calls Tryd.prog 40 #[.pointer (some ⟨i, 0, none⟩), .int .i64 2] w _ := number_ok i r 2 xs w0 w h (by omega) hl hb
  have hvl := Oc.val_lt 2 (xs.take 2) (Oc.bytes_take hb 2) (by rw [List.length_take]; omega)
  generalize Oc.val (xs.take 2) = V at CN hvl hl2
  have q2 := to_i64 V (by omega)
  have hlV : (xs.drop 2).length < V := by rw [List.length_drop]; omega
  clear h
  go_enter Tryd.func59, Tryd.ntmps59
  go_wp2_with (first | (go_at_call 40; refine CN.mono ?_; rintro e w1 ⟨rfl, hi, hg⟩; have CX := next_short i r V aS _ w0 w1 hi hlV (hg.cell hS (fun e => hr1 (by injection e with e; exact e.symm))); have HG := Lib.hid hg; clear hg hi) | (go_at_call 46; refine CX.mono ?_; rintro e w2 ⟨rfl, hd, hg⟩))
  exact ⟨rfl, rfl, hd, only_trans HG.out hg⟩
/-- what was read lies in a row of bytes of its own -/
def Own (B : Nat) (w : World) (A : Option Addr) (n c : Nat) (xs : List Nat) (t : TypeId) : Prop := Rd w (.slice A n c) xs ∧ xs.length = n ∧ (0 < n → ∃ g cs, A = some ⟨g, 0, none⟩ ∧ B ≤ g ∧ Blk w g t cs)
theorem text_ok (i r : Nat) (xs : List Nat) (w0 w : World) (h : InAt w0 w i r xs) (hl : 2 ≤ xs.length) (hl2 : 2 + Oc.val (xs.take 2) ≤ xs.length) (hb : Oc.bytes xs) (_hrl : r < w.heap.size) :
    Calls Tryd.prog 59 #[.pointer (some ⟨i, 0, none⟩)] w fun e w' => ∃ A c, e = .returned (.slice A (Oc.val (xs.take 2)) c) ∧ Own w.heap.size w' A (Oc.val (xs.take 2)) c ((xs.drop 2).take (Oc.val (xs.take 2))) 5 ∧ InAt w0 w' i r (xs.drop (2 + Oc.val (xs.take 2))) ∧ w.grownBy w' (some r) := by
  have CN : Calls Tryd.prog 40 #[.pointer (some ⟨i, 0, none⟩), .int .i64 2] w _ := number_ok i r 2 xs w0 w h (by omega) hl hb
  have hvl := Oc.val_lt 2 (xs.take 2) (Oc.bytes_take hb 2) (by rw [List.length_take]; omega)
  generalize Oc.val (xs.take 2) = V at CN hvl hl2 ⊢
  have q2 := to_i64 V (by omega)
  have hlV : V ≤ (xs.drop 2).length := by rw [List.length_drop]; omega
  have hyl : ((xs.drop 2).take V).length = V := by rw [List.length_take]; omega
  have HDD : Hid ((xs.drop 2).drop V = xs.drop (2 + V)) := Lib.hid (by rw [List.drop_drop])
  obtain ⟨ys, hys⟩ : ∃ ys, ys = (xs.drop 2).take V := ⟨_, rfl⟩
  rw [← hys] at hyl ⊢
  have HYS := Lib.hid hys
  clear h hys
  go_enter Tryd.func59, Tryd.ntmps59
  go_wp2_with (first | (go_at_call 40; refine CN.mono ?_; rintro e w1 ⟨rfl, hi, hg⟩; have CX := next_ok i r V _ w0 w1 hi hlV; have HG := Lib.hid hg; clear hg hi) | (go_at_call 46; refine CX.mono ?_; rintro e w2 ⟨v, rfl, hv, hi, hg⟩; have HI2 := Lib.hid hi; have HG2 := Lib.hid hg; rw [← HYS.out] at hv; have CC := clone_any v ys w2 (hv.below hi.bel.1 (Nat.le_refl _)) (by omega); clear hg hi hv) | (go_at_call 56; refine CC.mono ?_; rintro e w3 ⟨A, c, rfl, hr, hn, hbl⟩; have HR3 := Lib.hid hr; have HN3 := Lib.hid hn; have HB3 := Lib.hid hbl; clear hr hn hbl))
  go_ret
  have hg1 := only_trans HG.out HG2.out
  refine ⟨A, c, by rw [← hyl]; rfl, ⟨by rw [← hyl]; exact HR3.out, hyl, fun h0 => ?_⟩, ?_, only_trans hg1 (only_of_below HB3.out _)⟩
  · obtain ⟨g, cs, e1, e2, e3⟩ := HN3.out (by omega)
    exact ⟨g, cs, e1, Nat.le_trans hg1.size e2, e3⟩
  · rw [← HDD.out]
    exact HI2.out.below HB3.out
end Go.Proofs.YtcnedkgadfegbaaDoor
/- Reading an object's name: (*In).Oid. -/
namespace Go.Proofs.YtcnedkgadfegbaaDoor
open Go Go.RowKit
theorem oid_size : (Tryd.prog.info? 34).map (·.size) = some 32 := by kernel_rfl
theorem oid_zeros : (Tryd.prog.info? 34).map (fun i => i.zero) = some (some (.agg (u8s (List.replicate 32 0)))) := by kernel_rfl
abbrev oidBox (w : World) : World := w.alloc (.cells (u8s (List.replicate 32 0)) 34)
theorem only_setRow' {a w : World} {row : Option Nat} (h : a.grownBy w row) {g' : Nat} (hp : a.heap.size ≤ g') (cs : Array Value) : a.grownBy (w.setRow g' cs) row :=
  only_step h rfl rfl rfl (by simp [World.setRow]) fun i hi hne => setRow_other w g' i cs (by omega)
/-- copy of 32 bytes over a whole row -/
theorem wp_copy32 {o : Oper} {a : Act} {w : World} {K : Act → World → Prop} {Q : Exit → Act → World → Prop} (d s : Operand)
    (ho : o.op = .call { callee := .builtin .copy, args := #[d, s], argTypes := #[22, 22] }) (g : Nat) (t : TypeId) (zs : List Nat) (hg : Blk w g t (u8s zs)) (hz : zs.length = 32)
    (hd : a.eval d = .slice (some ⟨g, 0, none⟩) 32 32) (ad : Addr) (c : Nat) (hs : a.eval s = .slice (some ad) 32 c) (ys : List Nat) (hy : ys.length = 32)
    (hsrc : ∀ i, i < 32 → w.cell? (ad.add i) = some (.int .u8 ((ys.getD i 0 : Nat) : Int))) (h : K (a.put o.dst (.int .i64 32)) (w.setRow g (u8s ys))) : o.wp Tryd.prog a w K Q := by
  have hrun := run_copy_row (P := Tryd.prog) w 22 22 o.type 5 g 0 32 32 ad 32 c (u8s zs) t (cellsB ys) Tryd.underlying22 (by kernel_rfl) hg (by rw [cellsB_len, hy]; rfl) (fun j v hj => by
    have hjl : j < ys.length := by have := (List.getElem?_eq_some_iff.1 hj).1; rwa [cellsB_len] at this
    rw [cellsB_get hjl] at hj
    rw [hsrc j (by omega), hj]) (by rw [cellsB_len, u8s_size]; omega) (cellsB_one _)
  have e : ((u8s zs).toList.take 0 ++ cellsB ys ++ (u8s zs).toList.drop (0 + (cellsB ys).length)).toArray = u8s ys := by
    rw [cellsB_len, hy]
    simp [u8s, cellsB, hz]
  rw [e, cellsB_len, hy] at hrun
  unfold Oper.wp
  simp [execOp, ho, resolve, invoke, builtin, hd, hs, hrun, Result.andThen]
  exact h
theorem below_boxes (w : World) : Below w.heap.size w (oidBox (oidBox w)) := ((Below.refl _ _).alloc (Nat.le_refl _) _).alloc ((Below.refl _ _).alloc (Nat.le_refl _) _).size _
theorem oid_short (i r : Nat) (aS : Addr) (xs : List Nat) (w0 w : World) (h : InAt w0 w i r xs) (hl : xs.length < 32) (hS : w.cell? ⟨1, 0, none⟩ = some (ev aS)) :
    Calls Tryd.prog 28 #[.pointer (some ⟨i, 0, none⟩)] w (Fails w r (ev aS)) := by
  have hb := below_boxes w
  have CN : Calls Tryd.prog 46 #[.pointer (some ⟨i, 0, none⟩), .int .i64 32] (oidBox (oidBox w)).drew _ := next_short i r 32 aS xs w0 (oidBox (oidBox w)).drew (h.below (below_drewN hb 1)) hl ((below_drewN hb 1).cell (block_lt_of_cell hS) |>.trans hS)
  have HB := Lib.hid (below_drewN hb 1)
  clear h hb
  go_enter Tryd.func28, Tryd.ntmps28
  go_wp2
  refine wp_region_held (S := fun _ => True) (by kernel_rfl) ?_
  change wpAnyH _ _ _ _ _ _ _ _ (oidBox (oidBox w)).drew
  refine wpAnyH_take (i := 0) (v := ?_) rfl (by kernel_rfl) (by kernel_rfl) (by kernel_rfl) (fun _ _ _ h => h) (Or.inl ⟨by rfl, ?_⟩) trivial ?_
  rotate_left
  · intro w _; go_simp; with_reducible rfl
  try simp only [Act.put, List.getElem_toArray, List.getElem_cons_zero, List.setIfInBounds_toArray, List.set_cons_zero, List.set_cons_succ]
  refine wpAnyH_take (i := 1) (v := ?_) rfl (by kernel_rfl) (by kernel_rfl) (by kernel_rfl) (fun _ _ _ h => h) (Or.inl ⟨by rfl, ?_⟩) trivial ?_
  rotate_left
  · intro w _; go_simp; with_reducible rfl
  try simp only [Act.put, List.getElem_toArray, List.getElem_cons_zero, List.getElem_cons_succ, List.setIfInBounds_toArray, List.set_cons_zero, List.set_cons_succ]
  refine all_one (i := 2) (by kernel_rfl) rfl (by rfl) (fun K hK => ?_)
  go_simp
  refine CN.mono ?_
  rintro e w' ⟨rfl, hd, hg⟩
  exact ⟨rfl, rfl, hd, only_trans (only_of_below HB.out _) hg⟩
theorem oid_ok (i r : Nat) (xs : List Nat) (w0 w : World) (h : InAt w0 w i r xs) (hl : 32 ≤ xs.length) :
    Calls Tryd.prog 28 #[.pointer (some ⟨i, 0, none⟩)] w fun e w' => e = .returned (.agg (u8s (xs.take 32))) ∧ InAt w0 w' i r (xs.drop 32) ∧ w.grownBy w' (some r) := by
  have hb := below_boxes w
  have CN : Calls Tryd.prog 46 #[.pointer (some ⟨i, 0, none⟩), .int .i64 32] (oidBox (oidBox w)).drew _ := next_ok i r 32 xs w0 (oidBox (oidBox w)).drew (h.below (below_drewN hb 1)) hl
  have HB := Lib.hid (below_drewN hb 1)
  have hyl : (xs.take 32).length = 32 := by rw [List.length_take]; omega
  obtain ⟨ys, hys⟩ : ∃ ys, ys = xs.take 32 := ⟨_, rfl⟩
  rw [← hys] at CN hyl ⊢
  have HYL := Lib.hid hyl
  have HR0 : Hid (Blk (oidBox (oidBox w)).drew w.heap.size 34 (u8s (List.replicate 32 0))) := Lib.hid (((Blk.new w _ _).alloc _).drew)
  have HR1 : Hid (Blk (oidBox (oidBox w)).drew (w.heap.size + 1) 34 (u8s (List.replicate 32 0))) := Lib.hid (by
    have h := (Blk.new (oidBox w) 34 (u8s (List.replicate 32 0))).drew
    rwa [show (oidBox w).heap.size = w.heap.size + 1 by simp] at h)
  have HLT := Lib.hid h.lt
  have HLI : Hid (i < w.heap.size ∧ w0.heap.size ≤ w.heap.size) := Lib.hid (by obtain ⟨v, k, _, k2, _⟩ := h; exact ⟨k.i_.lt, k2.size⟩)
  clear h hb hys hyl
  go_enter Tryd.func28, Tryd.ntmps28
  go_wp2
  refine wp_region_held (S := fun _ => True) (by kernel_rfl) ?_
  change wpAnyH _ _ _ _ _ _ _ _ (oidBox (oidBox w)).drew
  refine wpAnyH_take (i := 0) (v := ?_) rfl (by kernel_rfl) (by kernel_rfl) (by kernel_rfl) (fun _ _ _ h => h) (Or.inl ⟨by rfl, ?_⟩) trivial ?_
  rotate_left
  · intro w _; go_simp; with_reducible rfl
  try simp only [Act.put, List.getElem_toArray, List.getElem_cons_zero, List.setIfInBounds_toArray, List.set_cons_zero, List.set_cons_succ]
  refine wpAnyH_take (i := 1) (v := ?_) rfl (by kernel_rfl) (by kernel_rfl) (by kernel_rfl) (fun _ _ _ h => h) (Or.inl ⟨by rfl, ?_⟩) trivial ?_
  rotate_left
  · intro w _; go_simp; with_reducible rfl
  try simp only [Act.put, List.getElem_toArray, List.getElem_cons_zero, List.getElem_cons_succ, List.setIfInBounds_toArray, List.set_cons_zero, List.set_cons_succ]
  refine all_one (i := 2) (by kernel_rfl) rfl (by rfl) (fun K hK => ?_)
  go_simp
  refine CN.mono ?_
  rintro e w1 ⟨v, rfl, hv, hi, hg⟩
  obtain ⟨A, c, rfl, hc, hA⟩ := (hv.below hi.bel.1 (Nat.le_refl _)).open_ HYL.out
  obtain ⟨b, o, rfl, hx⟩ := hA (by omega)
  have HX := Lib.hid hx
  have HI := Lib.hid hi
  have HG := Lib.hid (only_trans (only_of_below HB.out (some r)) hg)
  have HQ0 : Hid (Blk w1 w.heap.size 34 (u8s (List.replicate 32 0))) := Lib.hid (HR0.out.grown hg (fun e => by injection e with e; have := HLT.out; omega))
  have HQ1 : Hid (Blk w1 (w.heap.size + 1) 34 (u8s (List.replicate 32 0))) := Lib.hid (HR1.out.grown hg (fun e => by injection e with e; have := HLT.out; omega))
  clear hx hi hg hv hA
  dsimp only
  refine hK _ _ trivial ?_; clear hK K
  try simp only [Act.put, List.getElem_toArray, List.getElem_cons_zero, List.getElem_cons_succ, List.setIfInBounds_toArray, List.set_cons_zero, List.set_cons_succ]
  refine all_one (i := 3) (by kernel_rfl) rfl (by rfl) (fun K hK => ?_)
  refine wp_copy32 (.tmp 4) (.tmp 6) rfl (w.heap.size + 1) 34 (List.replicate 32 0) HQ1.out (by decide) rfl ⟨b, o, none⟩ c rfl ys HYL.out (fun j hj => by rw [Addr.add_mid]; exact HX.out j hj) ?_
  refine hK _ _ trivial ?_; clear hK K
  try simp only [Act.put, List.getElem_toArray, List.getElem_cons_zero, List.getElem_cons_succ, List.setIfInBounds_toArray, List.set_cons_zero, List.set_cons_succ]
  refine wpAnyH_done (by kernel_rfl) ?_ _
  have HW1 : Hid (Blk (w1.setRow (w.heap.size + 1) (u8s ys)) (w.heap.size + 1) 34 (u8s ys)) := Lib.hid (HQ1.out.row _)
  have HW0 : Hid (Blk (w1.setRow (w.heap.size + 1) (u8s ys)) w.heap.size 34 (u8s (List.replicate 32 0))) := Lib.hid (HQ0.out.farRow (by omega) _)
  go_wp2_with (first | (refine wpList_load_row rfl 34 (.tmp 3) rfl (w.heap.size + 1) rfl 34 (u8s ys) (0,0) _ HW1.out Tryd.underlying34 rfl (by rw [u8s_size, HYL.out]; exact oid_size) ?_) | (refine wpList_store_row rfl 34 (.tmp 2) (.tmp 8) rfl w.heap.size _ rfl rfl 34 _ HW0.out (by rw [u8s_size, HYL.out]; exact oid_size) (by rw [u8s_size, u8s_size, HYL.out]; rfl) (u8s_one _) ?_))
  have hlt := HLT.out
  refine bodyPost_ret (v := .agg (u8s ys)) (results_cell_row rfl _ _ w.heap.size 34 _ (0, 0) _ rfl (HW0.out.row _) Tryd.underlying34 rfl (by rw [u8s_size, HYL.out]; exact oid_size)) rfl ⟨rfl, ?_, only_setRow' (only_setRow' HG.out (by omega) _) (by omega) _⟩
  obtain ⟨v, k, hr, hw, h1, h2⟩ := HI.out
  have hli := HLI.out
  exact ⟨v, ⟨(k.i_.farRow (by omega) _).farRow (by omega) _, (k.r_.farRow (by omega) _).farRow (by omega) _, k.ne⟩, hr, below_row (below_row hw (by omega) _) (by omega) _, h1, h2⟩
end Go.Proofs.YtcnedkgadfegbaaDoor
