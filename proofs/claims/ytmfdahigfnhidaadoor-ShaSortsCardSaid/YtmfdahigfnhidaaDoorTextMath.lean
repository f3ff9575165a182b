/- Plain mathematics of figures that are read, and of the order of byte lists. Nothing of the program. -/
import Derived.Test.YtmfdahigfnhidaaDoorShaMath
namespace Go.Proofs.YtmfdahigfnhidaaDoor
namespace Sha
/-- a figure's number; below 0: it is none -/
def fgI (c : Nat) : Int := if 48 ≤ c ∧ c ≤ 57 then (c : Int) - 48 else if 97 ≤ c ∧ c ≤ 102 then (c : Int) - 87 else -1
theorem fgI_lo (c : Nat) : -1 ≤ fgI c := by unfold fgI; split <;> (try split) <;> omega
theorem fgI_hi (c : Nat) : fgI c < 16 := by unfold fgI; split <;> (try split) <;> omega
def fgN (c : Nat) : Nat := (fgI c).toNat
theorem fgN_lt (c : Nat) : fgN c < 16 := by have := fgI_hi c; unfold fgN; omega
def good (l : List Nat) : Prop := ∀ i, i < 64 → 0 ≤ fgI (l.getD i 0)
def unhex (l : List Nat) : List Nat := (List.range 32).map fun i => 16 * fgN (l.getD (2*i) 0) + fgN (l.getD (2*i+1) 0)
theorem unhex_len (l : List Nat) : (unhex l).length = 32 := by simp [unhex]
theorem unhex_get (l : List Nat) (i : Nat) (h : i < 32) : (unhex l).getD i 0 = 16 * fgN (l.getD (2*i) 0) + fgN (l.getD (2*i+1) 0) := by
  simp [unhex, List.getD, h]
theorem fgI_fig : ∀ n : Fin 16, fgI (fig n.val) = n.val := by decide
theorem fgI_fig' (n : Nat) (h : n < 16) : fgI (fig n) = n := fgI_fig ⟨n, h⟩
theorem fgN_fig (n : Nat) (h : n < 16) : fgN (fig n) = n := by unfold fgN; rw [fgI_fig' n h]; omega
theorem good_hex {bs : List Nat} (h : bs.length = 32) (hb : Byte bs) : good (hex bs) := fun i hi => by
  rcases Nat.mod_two_eq_zero_or_one i with e | e
  · obtain ⟨k, rfl⟩ : ∃ k, i = 2 * k := ⟨i / 2, by omega⟩
    have hk := hb k
    rw [hex_even bs k (by omega), fgI_fig' _ (by omega)]; omega
  · obtain ⟨k, rfl⟩ : ∃ k, i = 2 * k + 1 := ⟨i / 2, by omega⟩
    have hk := hb k
    rw [hex_odd bs k (by omega), fgI_fig' _ (by omega)]; omega
theorem unhex_hex {bs : List Nat} (h : bs.length = 32) (hb : Byte bs) : unhex (hex bs) = bs := by
  apply List.ext_getElem (by rw [unhex_len, h])
  intro i h1 h2
  rw [unhex_len] at h1
  have e := unhex_get (hex bs) i h1
  have hk := hb i
  rw [hex_even bs i (by omega), hex_odd bs i (by omega), fgN_fig _ (by omega), fgN_fig _ (by omega)] at e
  have e1 : (unhex (hex bs)).getD i 0 = (unhex (hex bs))[i]'(by rw [unhex_len]; exact h1) := by simp [List.getD, unhex_len, h1]
  have e2 : bs.getD i 0 = bs[i] := by simp [List.getD, h2]
  rw [← e1, e, ← e2]; omega
/-- which of two lists of bytes comes first: below 0, 0, above 0 -/
def cmpN : List Nat → List Nat → Int
  | [], [] => 0
  | [], _ :: _ => -1
  | _ :: _, [] => 1
  | a :: as, b :: bs => if a < b then -1 else if b < a then 1 else cmpN as bs
theorem cmpN_cases : ∀ (a b : List Nat), cmpN a b = -1 ∨ cmpN a b = 0 ∨ cmpN a b = 1
  | [], [] => by simp [cmpN]
  | [], _ :: _ => by simp [cmpN]
  | _ :: _, [] => by simp [cmpN]
  | a :: as, b :: bs => by
    have ih := cmpN_cases as bs
    unfold cmpN; split
    · simp
    · split
      · simp
      · exact ih
theorem cmpN_self : ∀ (a : List Nat), cmpN a a = 0
  | [] => rfl
  | a :: as => by simp [cmpN, cmpN_self as]
theorem cmpN_zero : ∀ (a b : List Nat), cmpN a b = 0 → a = b
  | [], [], _ => rfl
  | [], _ :: _, h => by simp [cmpN] at h
  | _ :: _, [], h => by simp [cmpN] at h
  | a :: as, b :: bs, h => by
    unfold cmpN at h
    split at h
    · omega
    · split at h
      · omega
      · rw [cmpN_zero as bs h, show a = b by omega]
theorem cmpN_anti : ∀ (a b : List Nat), cmpN a b = - cmpN b a
  | [], [] => rfl
  | [], _ :: _ => rfl
  | _ :: _, [] => rfl
  | a :: as, b :: bs => by
    have ih := cmpN_anti as bs
    unfold cmpN
    by_cases h1 : a < b
    · have h2 : ¬ b < a := by omega
      simp [h1, h2]
    · by_cases h2 : b < a
      · simp [h1, h2]
      · simp only [h1, h2, if_false]; exact ih
theorem cmpN_trans : ∀ (a b c : List Nat), cmpN a b < 0 → cmpN b c < 0 → cmpN a c < 0
  | [], [], _, h, _ => by simp [cmpN] at h
  | [], _ :: _, [], _, h => by simp [cmpN] at h
  | [], _ :: _, _ :: _, _, _ => by simp [cmpN]
  | _ :: _, [], _, h, _ => by simp [cmpN] at h
  | _ :: _, _ :: _, [], _, h => by simp [cmpN] at h
  | a :: as, b :: bs, c :: cs, h1, h2 => by
    have ih := cmpN_trans as bs cs
    unfold cmpN at h1 h2 ⊢
    split at h1
    · split at h2
      · rw [if_pos (by omega)]; decide
      · split at h2
        · exact absurd h2 (by decide)
        · rw [if_pos (by omega)]; decide
    · split at h1
      · exact absurd h1 (by decide)
      · split at h2
        · rw [if_pos (by omega)]; decide
        · split at h2
          · exact absurd h2 (by decide)
          · rw [if_neg (by omega), if_neg (by omega)]; exact ih h1 h2
/-- is a ahead of b? -/
def lexLt (a b : List Nat) : Bool := decide (cmpN a b < 0)
theorem cmpN_at : ∀ (k : Nat) (a b : List Nat), a.take k = b.take k → k < a.length → k < b.length → a.getD k 0 ≠ b.getD k 0 → lexLt a b = decide (a.getD k 0 < b.getD k 0)
  | 0, [], _, _, h, _, _ => by simp at h
  | 0, _ :: _, [], _, _, h, _ => by simp at h
  | 0, a :: as, b :: bs, _, _, _, hne => by
    simp only [List.getD_cons_zero] at hne ⊢
    unfold lexLt cmpN
    by_cases h : a < b
    · simp [h]
    · rw [if_neg h, if_pos (show b < a by omega)]; simp [h]
  | k + 1, [], _, _, h, _, _ => by simp at h
  | k + 1, _ :: _, [], _, _, h, _ => by simp at h
  | k + 1, a :: as, b :: bs, he, h1, h2, hne => by
    simp only [List.take_succ_cons, List.cons.injEq] at he
    obtain ⟨rfl, he⟩ := he
    have ih := cmpN_at k as bs he (by simpa using h1) (by simpa using h2) (by simpa using hne)
    simp only [List.getD_cons_succ]
    rw [← ih]
    unfold lexLt
    rw [cmpN, if_neg (Nat.lt_irrefl a), if_neg (Nat.lt_irrefl a)]
/-- a digest's first bytes as a number -/
def short (bs : List Nat) : Nat := (bs.take 8).foldl (fun n c => n * 256 + c) 0
def shortK (bs : List Nat) : Nat → Nat
  | 0 => 0
  | k + 1 => shortK bs k * 256 + bs.getD k 0
theorem shortK_lt {bs : List Nat} (hb : Byte bs) : ∀ k, k ≤ 8 → shortK bs k < 256 ^ k
  | 0, _ => by simp [shortK]
  | k + 1, h => by
    have ih := shortK_lt hb k (by omega)
    have := hb k
    rw [shortK, Nat.pow_succ]; omega
end Sha
end Go.Proofs.YtmfdahigfnhidaaDoor
