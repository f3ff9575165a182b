/- The mathematics of phases; rows of numbers; is a number in such a row. -/
import Derived.Test.YtagplmlhpocbjaaDoorHeld
import Derived.Test.YtagplmlhpocbjaaDoorErr
import Derived.Test.YtagplmlhpocbjaaDoorPau
namespace Go.Proofs.YtagplmlhpocbjaaDoor
open Go Go.RowKit
namespace Ph
/-- is a phase right? -/
def rt (s e : Int) : Bool := decide (0 ≤ s ∧ s < 6 ∧ 0 ≤ e ∧ e ≤ 1099511627776 ∧ (s = 0 ↔ e = 0))
/-- what an event comes to: the state, the epoch, the error's number -/
def move (s e s' e' : Int) (t : Bool) (xs : List Int) : Int × Int × Nat :=
  if rt s e = false then (s, e, 4) else if xs.contains s = false then (s, e, 19) else if t = false then (s, e, 18) else (s', e', 0)
def turn (s e s' e' : Int) (t : Bool) (xs : List Int) : Int × Int × Nat :=
  if e' < 1 ∨ 1099511627776 < e' then (s, e, 1) else move s e s' e' t xs
def run : Nat → Int → Int → Int → Int × Int × Nat
  | 0, s, e, x => turn s e 1 x (decide (e < x) || (decide (x = e) && [0, 4, 5].contains s)) [0, 1, 3, 4, 5]
  | 1, s, e, x => turn s e 2 x (decide (e < x)) [0, 1, 2, 3]
  | 2, s, e, x => turn s e 3 x (decide (x = e)) [2]
  | 3, s, e, x => turn s e 4 x (decide (e < x)) [1, 2, 3, 4]
  | _, s, e, _ => move s e 5 e true [4]
def admit (s e x : Int) : Nat := if rt s e = false then 16 else if x < e ∨ (x = e ∧ [4, 5].contains s = true) then 18 else if x = e ∧ s = 2 then 0 else 16
theorem admit_zero {s e x : Int} : admit s e x = 0 ↔ rt s e = true ∧ x = e ∧ s = 2 := by
  unfold admit
  cases h1 : rt s e with
  | false => simp
  | true =>
    rw [if_neg (by simp)]
    by_cases h2 : x < e ∨ (x = e ∧ [4, 5].contains s = true)
    · rw [if_pos h2]
      constructor
      · intro h; cases h
      · rintro ⟨_, rfl, rfl⟩
        rcases h2 with h | ⟨_, h⟩
        · omega
        · simp at h
    · rw [if_neg h2]
      by_cases h3 : x = e ∧ s = 2
      · rw [if_pos h3]; exact ⟨fun _ => ⟨rfl, h3⟩, fun _ => rfl⟩
      · rw [if_neg h3]
        exact ⟨fun h => (by cases h), fun h => absurd h.2 h3⟩
/-- what stands while events come: the greatest epoch by which it serves no more -/
def Inv (s e o : Int) : Prop := rt s e = true ∧ 0 ≤ o ∧ o ≤ e ∧ (s = 2 → o < e)
theorem Inv.start : Inv 0 0 0 := ⟨by decide, by omega, by omega, by intro h; cases h⟩
theorem move_err {s e s' e' : Int} {t : Bool} {xs : List Int} (h : (move s e s' e' t xs).2.2 ≠ 0) : (move s e s' e' t xs).1 = s ∧ (move s e s' e' t xs).2.1 = e := by
  unfold move at h ⊢
  split at h
  · rename_i h1; rw [if_pos h1]; exact ⟨rfl, rfl⟩
  · rename_i h1; rw [if_neg h1]
    split at h
    · rename_i h2; rw [if_pos h2]; exact ⟨rfl, rfl⟩
    · rename_i h2; rw [if_neg h2]
      split at h
      · rename_i h3; rw [if_pos h3]; exact ⟨rfl, rfl⟩
      · exact absurd rfl h
theorem turn_err {s e s' e' : Int} {t : Bool} {xs : List Int} (h : (turn s e s' e' t xs).2.2 ≠ 0) : (turn s e s' e' t xs).1 = s ∧ (turn s e s' e' t xs).2.1 = e := by
  unfold turn at h ⊢
  split at h
  · rename_i h1; rw [if_pos h1]; exact ⟨rfl, rfl⟩
  · rename_i h1; rw [if_neg h1]; exact move_err h
theorem run_err : ∀ {k : Nat} {s e x : Int}, (run k s e x).2.2 ≠ 0 → (run k s e x).1 = s ∧ (run k s e x).2.1 = e
  | 0, _, _, _, h => turn_err h
  | 1, _, _, _, h => turn_err h
  | 2, _, _, _, h => turn_err h
  | 3, _, _, _, h => turn_err h
  | _ + 4, _, _, _, h => move_err h
theorem move_ok {s e s' e' : Int} {t : Bool} {xs : List Int} (h : (move s e s' e' t xs).2.2 = 0) : move s e s' e' t xs = (s', e', 0) ∧ xs.contains s = true ∧ t = true := by
  unfold move at h ⊢
  split at h
  · cases h
  · rename_i h1
    split at h
    · cases h
    · rename_i h2
      split at h
      · cases h
      · rename_i h3
        rw [if_neg h1, if_neg h2, if_neg h3]
        exact ⟨rfl, by simpa using h2, by simpa using h3⟩
theorem turn_ok {s e s' e' : Int} {t : Bool} {xs : List Int} (h : (turn s e s' e' t xs).2.2 = 0) : turn s e s' e' t xs = (s', e', 0) ∧ 1 ≤ e' ∧ e' ≤ 1099511627776 ∧ xs.contains s = true ∧ t = true := by
  unfold turn at h ⊢
  split at h
  · cases h
  · rename_i h1
    rw [if_neg h1]
    obtain ⟨a, b, c⟩ := move_ok h
    exact ⟨a, by omega, by omega, b, c⟩
/-- an event that is allowed: the epoch doesn't fall, and who served no more by an epoch doesn't serve by it -/
theorem run_ok {k : Nat} {s e x o : Int} (hI : Inv s e o) (h : (run k s e x).2.2 = 0) :
    e ≤ (run k s e x).2.1 ∧ rt (run k s e x).1 (run k s e x).2.1 = true ∧
    Inv (run k s e x).1 (run k s e x).2.1 (if s = 2 ∧ ((run k s e x).1 ≠ 2 ∨ e < (run k s e x).2.1) then max o e else o) := by
  obtain ⟨hr, h0, h1, h2⟩ := hI
  have hrr := hr
  simp only [rt, decide_eq_true_eq] at hrr
  match k, h with
  | 0, h =>
    obtain ⟨q, a, b, c, d⟩ := turn_ok (show (turn s e 1 x _ _).2.2 = 0 from h)
    have q : run 0 s e x = (1, x, 0) := q
    rw [q]
    simp only [List.contains_cons, List.contains_nil, Bool.or_false, Bool.or_eq_true, Bool.and_eq_true, beq_iff_eq, decide_eq_true_eq] at c d
    have hx : e ≤ x := by rcases d with d | ⟨d, _⟩ <;> omega
    have hR : rt 1 x = true := by simp only [rt, decide_eq_true_eq]; omega
    refine ⟨hx, hR, hR, ?_, ?_, ?_⟩
    · split <;> omega
    · split
      · show max o e ≤ x; omega
      · show o ≤ x; omega
    · intro hc; cases hc
  | 1, h =>
    obtain ⟨q, a, b, c, d⟩ := turn_ok (show (turn s e 2 x _ _).2.2 = 0 from h)
    have q : run 1 s e x = (2, x, 0) := q
    rw [q]
    have d : e < x := by simpa using d
    have hR : rt 2 x = true := by simp only [rt, decide_eq_true_eq]; omega
    refine ⟨by show e ≤ x; omega, hR, hR, ?_, ?_, fun _ => ?_⟩
    · split <;> omega
    · split
      · show max o e ≤ x; omega
      · show o ≤ x; omega
    · split
      · show max o e < x; omega
      · show o < x; omega
  | 2, h =>
    obtain ⟨q, a, b, c, d⟩ := turn_ok (show (turn s e 3 x _ _).2.2 = 0 from h)
    have q : run 2 s e x = (3, x, 0) := q
    rw [q]
    have d : x = e := by simpa using d
    have hR : rt 3 x = true := by simp only [rt, decide_eq_true_eq]; omega
    refine ⟨by show e ≤ x; omega, hR, hR, ?_, ?_, ?_⟩
    · split <;> omega
    · split
      · show max o e ≤ x; omega
      · show o ≤ x; omega
    · intro hc; cases hc
  | 3, h =>
    obtain ⟨q, a, b, c, d⟩ := turn_ok (show (turn s e 4 x _ _).2.2 = 0 from h)
    have q : run 3 s e x = (4, x, 0) := q
    rw [q]
    have d : e < x := by simpa using d
    have hR : rt 4 x = true := by simp only [rt, decide_eq_true_eq]; omega
    refine ⟨by show e ≤ x; omega, hR, hR, ?_, ?_, ?_⟩
    · split <;> omega
    · split
      · show max o e ≤ x; omega
      · show o ≤ x; omega
    · intro hc; cases hc
  | k + 4, h =>
    obtain ⟨q, c, d⟩ := move_ok (show (move s e 5 e true [4]).2.2 = 0 from h)
    have q : run (k + 4) s e x = (5, e, 0) := q
    rw [q]
    have c : s = 4 := by simpa using c
    have hR : rt 5 e = true := by simp only [rt, decide_eq_true_eq]; omega
    refine ⟨Int.le_refl _, hR, hR, ?_, ?_, ?_⟩
    · split <;> omega
    · split
      · show max o e ≤ e; omega
      · show o ≤ e; omega
    · intro hc; cases hc
theorem Inv.none {s e o : Int} (h : Inv s e o) {x : Int} (hx : x ≤ o) : admit s e x ≠ 0 := by
  rw [Ne, admit_zero]
  rintro ⟨_, rfl, hs⟩
  have := h.2.2.2 hs
  omega
end Ph
/-- a phase -/
def phV (s e : Int) : Value := .agg #[.int .i64 s, .int .i64 e]
/-- an error, or none -/
def erV (a : Nat → Addr) (k : Nat) : Value := if k = 0 then .nilIface else ev (a (k - 1))
/-- a row of numbers -/
def RdI (w : World) (v : Value) (xs : List Int) : Prop :=
  ∃ A c, v = .slice A xs.length c ∧ xs.length ≤ c ∧ (0 < xs.length → ∃ b o, A = some ⟨b, o, none⟩ ∧ b < w.heap.size ∧ ∀ i x, xs[i]? = some x → w.cell? ⟨b, o + i, none⟩ = some (.int .i64 x))
theorem RdI.below {w w' : World} {v : Value} {xs : List Int} (h : RdI w v xs) {B : Nat} (hb : Below B w w') (hB : w.heap.size ≤ B) : RdI w' v xs := by
  obtain ⟨A, c, hv, hc, hA⟩ := h
  refine ⟨A, c, hv, hc, fun h0 => ?_⟩
  obtain ⟨b, o, ha, hl, hx⟩ := hA h0
  have := hb.size
  exact ⟨b, o, ha, by omega, fun i x hi => (hb.cell (p := ⟨b, o + i, none⟩) (by show b < B; omega)).trans (hx i x hi)⟩
theorem rdi_new (w : World) (xs : List Int) (t : TypeId) : RdI (w.alloc (.cells ((xs.map (fun x => Value.int .i64 x)).toArray) t)) (.slice (some ⟨w.heap.size, 0, none⟩) xs.length xs.length) xs :=
  ⟨_, _, rfl, Nat.le_refl _, fun _ => ⟨_, 0, rfl, by simp, fun i x hi => by
    rw [Nat.zero_add, (Blk.new w t _).cell, List.getElem?_toArray, List.getElem?_map, hi]; rfl⟩⟩
set_option maxRecDepth 100000 in
theorem index_any (v : Value) (xs : List Int) (s : Int) (w : World) (h : RdI w v xs) (hn : xs.length ≤ 100000) :
    Calls Tryd.prog 31 #[v, .int .i64 s] w fun e w' => (∃ r : Int, e = .returned (.int .i64 r) ∧ (0 ≤ r ↔ s ∈ xs)) ∧ w = w' := by
  obtain ⟨A, c, rfl, hc, hA⟩ := h
  have HA := Lib.hid hA
  have HR : Hid (xs.contains s = xs.contains s) := Lib.hid rfl
  clear hA
  obtain ⟨n, hl⟩ : ∃ n, n = xs.length := ⟨_, rfl⟩
  rw [← hl] at hc hn HA ⊢
  have HL := Lib.hid hl
  clear hl
  go_enter Tryd.func31, Tryd.ntmps31
  go_wp2
  go_loop [8] (fun i => ∃ k : Nat, k ≤ n ∧ i = .int .i64 k ∧ Hid ((xs.take k).contains s = false)) (fun i => n - (intOf i).toNat)
  case atStart => exact ⟨0, Nat.zero_le _, rfl, Lib.hid (by simp)⟩
  case round =>
    obtain ⟨k, hk, rfl, HK⟩ := hrel
    by_cases hlt : k < n
    · obtain ⟨b, o, rfl, hb, hx⟩ := HA.out (by omega)
      obtain ⟨x, hxk⟩ : ∃ x, xs[k]? = some x := ⟨_, List.getElem?_eq_getElem (by rw [← HL.out]; exact hlt)⟩
      have hcell := hx k x hxk
      have HX := Lib.hid hxk
      clear hx hxk
      by_cases hsx : s = x
      · subst hsx
        have H : Hid ((0 : Int) ≤ (k : Int) ↔ s ∈ xs) := Lib.hid ⟨fun _ => List.mem_of_getElem? HX.out, fun _ => by omega⟩
        go_wp2
        go_ret
        exact ⟨⟨_, rfl, H.out⟩, rfl⟩
      · have hne : (s == x) = false := by simpa using hsx
        have H : Hid ((xs.take (k + 1)).contains s = false) := Lib.hid (by
          have h1 := HK.out
          rw [List.take_add_one, HX.out]
          simp only [Option.toList]
          rw [Bool.eq_false_iff, Ne, List.contains_iff_mem] at h1 ⊢
          rw [List.mem_append]
          rintro (h | h)
          · exact h1 h
          · exact hsx (by simpa using h))
        go_wp2
        go_round
        case rel => exact ⟨k + 1, by omega, by go_num, H⟩
        case measure => simp [intOf]; omega
    · have H : Hid ((0 : Int) ≤ -1 ↔ s ∈ xs) := Lib.hid (by
        have h1 := HK.out
        rw [List.take_of_length_le (by rw [← HL.out]; omega), Bool.eq_false_iff, Ne, List.contains_iff_mem] at h1
        exact ⟨fun h => absurd h (by decide), fun h => absurd h h1⟩)
      go_wp2
      go_ret
      exact ⟨⟨_, rfl, H.out⟩, rfl⟩
theorem contains_any (v : Value) (xs : List Int) (s : Int) (w : World) (h : RdI w v xs) (hn : xs.length ≤ 100000) :
    Calls Tryd.prog 30 #[v, .int .i64 s] w fun e w' => e = .returned (.bool (xs.contains s)) ∧ w = w' := by
  have C := index_any v xs s w h hn
  have hv : ∃ A c, v = .slice A xs.length c := by obtain ⟨A, c, rfl, _⟩ := h; exact ⟨A, c, rfl⟩
  clear h
  obtain ⟨β, hβ⟩ : ∃ β : Bool, β = xs.contains s := ⟨_, rfl⟩
  have HB : Hid (β = true ↔ s ∈ xs) := Lib.hid (by rw [hβ, List.contains_iff_mem])
  rw [← hβ]
  clear hβ
  obtain ⟨A, c, rfl⟩ := hv
  generalize (s ∈ xs) = p at C HB
  generalize xs.length = n at C hn ⊢
  go_enter Tryd.func30, Tryd.ntmps30
  go_wp2_with (go_at_call 31; refine C.mono ?_; rintro e w' ⟨⟨r, rfl, hr⟩, rfl⟩)
  go_ret
  refine ⟨?_, rfl⟩
  show Ending.returned (.bool (decide (0 ≤ r))) = _
  congr 2
  rw [Bool.eq_iff_iff, decide_eq_true_eq]
  exact hr.trans HB.out.symm
end Go.Proofs.YtagplmlhpocbjaaDoor
