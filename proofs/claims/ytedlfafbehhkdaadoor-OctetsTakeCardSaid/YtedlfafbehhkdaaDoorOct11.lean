/- Reading, from below: an In that has too few bytes (next); a number (number), a copy of bytes (bytes.Clone). -/
import Derived.Test.YtedlfafbehhkdaaDoorOct10
namespace Go.Proofs.YtedlfafbehhkdaaDoor
open Go Go.RowKit
theorem next_short (i r n : Nat) (aS : Addr) (xs : List Nat) (w0 w : World) (h : InAt w0 w i r xs) (hn : xs.length < n) (hS : w.cell? ⟨2, 0, none⟩ = some (ev aS)) :
    Calls Tryd.prog 34 #[.pointer (some ⟨i, 0, none⟩), .int .i64 (n : Int)] w (Fails w r (ev aS)) := by
  obtain ⟨v, h, hr, _⟩ := h
  obtain ⟨A, c, rfl, hc, hA⟩ := hr
  clear hA
  have c0 : w.cell? ⟨i, 0, none⟩ = some (.pointer (some ⟨r, 0, none⟩)) := h.i_.cell 0
  have c1 : w.cell? ⟨r, 0, none⟩ = some (.slice A xs.length c) := h.r_.cell 0
  have c2 : w.cell? ⟨r, 1, none⟩ = some (.bool true) := h.r_.cell 1
  have c3 : w.cell? ⟨r, 2, none⟩ = some (.bool false) := h.r_.cell 2
  have i1 : (xs.length : Int) < (n : Int) := by omega
  have CF := fail_any i r _ aS w h
  clear h
  go_enter Tryd.func34, Tryd.ntmps34
  go_wp2_with (go_at_call 41; refine CF.mono ?_; rintro e w' ⟨rfl, hd, hg⟩)
  exact ⟨rfl, rfl, hd, hg⟩
theorem clone_any (v : Value) (xs : List Nat) (w : World) (hv : Rd w v xs) (hz : xs.length ≤ 1099511627776) :
    Calls Tryd.prog 33 #[v] w fun e w' => ∃ A c, e = .returned (.slice A xs.length c) ∧ Rd w' (.slice A xs.length c) xs ∧ (0 < xs.length → ∃ g cs, A = some ⟨g, 0, none⟩ ∧ w.heap.size ≤ g ∧ Blk w' g 5 cs) ∧ Below w.heap.size w w' := by
  have HV := Lib.hid hv
  obtain ⟨A, c, rfl, hc, hA⟩ := hv
  have qT : ∀ (w : World) (a : Option Addr) (n c n' c' : Nat), (binOp .eql 24 (.slice a n c) (.slice none n' c')).run Tryd.prog w = .ok (.bool a.isNone) w := fun w a n c n' c' => Lib.run_eql_slice_nil w _ _ a n c n' c' Tryd.underlying24
  cases A with
  | none =>
    have h0 : xs.length = 0 := by
      rcases Nat.eq_zero_or_pos xs.length with h | h
      · exact h
      · obtain ⟨b, o, ha, _⟩ := hA h
        cases ha
    have e := List.eq_nil_of_length_eq_zero h0
    subst e
    clear hA
    go_enter Tryd.func33, Tryd.ntmps33
    go_wp2
    go_ret
    exact ⟨_, _, rfl, ⟨_, _, rfl, Nat.le_refl _, fun h => absurd h (by simp)⟩, fun h => absurd h (by simp), Below.refl _ _⟩
  | some a =>
    clear hA
    obtain ⟨n, hn⟩ : ∃ n, n = xs.length := ⟨_, rfl⟩
    rw [← hn] at hc hz HV ⊢
    have HN := Lib.hid hn
    clear hn
    have HP : Hid (Pad w.heap.size w (.slice (some ⟨w.heap.size, 0, none⟩) 0 0) [] (w.alloc (.cells #[] 5))) := Lib.hid ⟨World.ownsRow_lit w #[] 0 (Nat.le_refl _) (by decide) rfl, (Below.refl _ _).alloc (Nat.le_refl _) _⟩
    have HR1 := Lib.hid (rd_alloc HV.out (.cells #[] 5))
    have HZ : Hid (([] : List Nat).length + xs.length ≤ 70368744177664) := Lib.hid (by rw [← HN.out]; simp; omega)
    go_enter Tryd.func33, Tryd.ntmps33
    go_wp2_with (refine wpList_appendB rfl (.tmp 5) (.tmp 6) rfl w.heap.size _ [] rfl HP.out.own HP.out.bel.size _ rfl xs HR1.out HZ.out ?_; intro v2 w2 ho2 hg2; rw [List.nil_append] at ho2; have HP2 : Hid (Pad w.heap.size w v2 xs w2) := Lib.hid ⟨ho2, below_own HP.out.bel HP.out.own (Nat.le_refl _) hg2⟩; clear ho2 hg2)
    go_ret
    obtain ⟨A2, c2, rfl⟩ := HP2.out.len
    refine ⟨A2, c2, by rw [HN.out]; rfl, by rw [HN.out]; exact HP2.out.rd, fun h0 => ?_, HP2.out.bel⟩
    rcases HP2.out.own.2 with ⟨_, h1⟩ | ⟨g, cap, cur, hv, hb, hh, _⟩
    · rw [HN.out] at h0; omega
    · injection hv with e1 e2 e3
      exact ⟨g, cur, e1, hb, hh⟩
theorem or_byte (n b : Nat) (hn : n < 72057594037927936) (hb : b < 256) : bits .or .u64 (((n * 256 : Nat)) : Int) (b : Int) = ((n * 256 + b : Nat) : Int) := by
  rw [u64_or (n * 256) b (by omega) (by omega)]
  have h := Nat.shiftLeft_add_eq_or_of_lt (i := 8) (b := b) (by omega) n
  rw [Nat.shiftLeft_eq] at h
  rw [show n * 256 = n * 2^8 from rfl, ← h]
end Go.Proofs.YtedlfafbehhkdaaDoor
