/- Reading texts and objects' names: (*In).Text, (*In).Oid. -/
import Derived.Test.YtedlfafbehhkdaaDoorOct12
namespace Go.Proofs.YtedlfafbehhkdaaDoor
open Go Go.RowKit
theorem text_short (i r : Nat) (aS : Addr) (xs : List Nat) (w0 w : World) (h : InAt w0 w i r xs) (hl : xs.length < 2) (hS : w.cell? ⟨2, 0, none⟩ = some (ev aS)) :
    Calls Tryd.prog 39 #[.pointer (some ⟨i, 0, none⟩)] w (Fails w r (ev aS)) := by
  have CN : Calls Tryd.prog 52 #[.pointer (some ⟨i, 0, none⟩), .int .i64 2] w (Fails w r (ev aS)) := number_short i r 2 aS xs w0 w h hl hS
  clear h
  go_enter Tryd.func39, Tryd.ntmps39
  go_wp2_with (go_at_call 52; refine CN.mono ?_; rintro e w1 ⟨rfl, hd, hg⟩)
  exact ⟨rfl, rfl, hd, hg⟩
theorem text_short2 (i r : Nat) (aS : Addr) (xs : List Nat) (w0 w : World) (h : InAt w0 w i r xs) (hl : 2 ≤ xs.length) (hl2 : xs.length < 2 + Oc.val (xs.take 2)) (hb : Oc.bytes xs) (hr1 : r ≠ 2) (hS : w.cell? ⟨2, 0, none⟩ = some (ev aS)) :
    Calls Tryd.prog 39 #[.pointer (some ⟨i, 0, none⟩)] w (Fails w r (ev aS)) := by
  have CN : Calls Tryd.prog 52 #[.pointer (some ⟨i, 0, none⟩), .int .i64 2] w _ := number_ok i r 2 xs w0 w h (by omega) hl hb
  have hvl := Oc.val_lt 2 (xs.take 2) (Oc.bytes_take hb 2) (by rw [List.length_take]; omega)
  generalize Oc.val (xs.take 2) = V at CN hvl hl2
  have q2 := to_i64 V (by omega)
  have hlV : (xs.drop 2).length < V := by rw [List.length_drop]; omega
  clear h
  go_enter Tryd.func39, Tryd.ntmps39
  go_wp2_with (first | (go_at_call 52; refine CN.mono ?_; rintro e w1 ⟨rfl, hi, hg⟩; have CX := next_short i r V aS _ w0 w1 hi hlV (hg.cell hS (fun e => hr1 (by injection e with e; exact e.symm))); have HG := Lib.hid hg; clear hg hi) | (go_at_call 34; refine CX.mono ?_; rintro e w2 ⟨rfl, hd, hg⟩))
  exact ⟨rfl, rfl, hd, only_trans HG.out hg⟩
/-- what was read lies in a row of bytes of its own -/
def Own (B : Nat) (w : World) (A : Option Addr) (n c : Nat) (xs : List Nat) (t : TypeId) : Prop := Rd w (.slice A n c) xs ∧ xs.length = n ∧ (0 < n → ∃ g cs, A = some ⟨g, 0, none⟩ ∧ B ≤ g ∧ Blk w g t cs)
theorem text_ok (i r : Nat) (xs : List Nat) (w0 w : World) (h : InAt w0 w i r xs) (hl : 2 ≤ xs.length) (hl2 : 2 + Oc.val (xs.take 2) ≤ xs.length) (hb : Oc.bytes xs) (hrl : r < w.heap.size) :
    Calls Tryd.prog 39 #[.pointer (some ⟨i, 0, none⟩)] w fun e w' => ∃ A c, e = .returned (.slice A (Oc.val (xs.take 2)) c) ∧ Own w.heap.size w' A (Oc.val (xs.take 2)) c ((xs.drop 2).take (Oc.val (xs.take 2))) 5 ∧ InAt w0 w' i r (xs.drop (2 + Oc.val (xs.take 2))) ∧ w.grownBy w' (some r) := by
  have CN : Calls Tryd.prog 52 #[.pointer (some ⟨i, 0, none⟩), .int .i64 2] w _ := number_ok i r 2 xs w0 w h (by omega) hl hb
  have hvl := Oc.val_lt 2 (xs.take 2) (Oc.bytes_take hb 2) (by rw [List.length_take]; omega)
  generalize Oc.val (xs.take 2) = V at CN hvl hl2 ⊢
  have q2 := to_i64 V (by omega)
  have hlV : V ≤ (xs.drop 2).length := by rw [List.length_drop]; omega
  have hyl : ((xs.drop 2).take V).length = V := by rw [List.length_take]; omega
  have HDD : Hid ((xs.drop 2).drop V = xs.drop (2 + V)) := Lib.hid (by rw [List.drop_drop])
  obtain ⟨ys, hys⟩ : ∃ ys, ys = (xs.drop 2).take V := ⟨_, rfl⟩
  rw [← hys] at hyl ⊢
  have HYS := Lib.hid hys
  clear h hys
  go_enter Tryd.func39, Tryd.ntmps39
  go_wp2_with (first | (go_at_call 52; refine CN.mono ?_; rintro e w1 ⟨rfl, hi, hg⟩; have CX := next_ok i r V _ w0 w1 hi hlV; have HG := Lib.hid hg; clear hg hi) | (go_at_call 34; refine CX.mono ?_; rintro e w2 ⟨v, rfl, hv, hi, hg⟩; have HI2 := Lib.hid hi; have HG2 := Lib.hid hg; rw [← HYS.out] at hv; have CC := clone_any v ys w2 (hv.below hi.bel.1 (Nat.le_refl _)) (by omega); clear hg hi hv) | (go_at_call 33; refine CC.mono ?_; rintro e w3 ⟨A, c, rfl, hr, hn, hbl⟩; have HR3 := Lib.hid hr; have HN3 := Lib.hid hn; have HB3 := Lib.hid hbl; clear hr hn hbl))
  go_ret
  have hg1 := only_trans HG.out HG2.out
  refine ⟨A, c, by rw [← hyl]; rfl, ⟨by rw [← hyl]; exact HR3.out, hyl, fun h0 => ?_⟩, ?_, only_trans hg1 (only_of_below HB3.out _)⟩
  · obtain ⟨g, cs, e1, e2, e3⟩ := HN3.out (by omega)
    exact ⟨g, cs, e1, Nat.le_trans hg1.size e2, e3⟩
  · rw [← HDD.out]
    exact HI2.out.below HB3.out
end Go.Proofs.YtedlfafbehhkdaaDoor
