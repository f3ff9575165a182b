/- The mathematics of the document's own digest (cartageref01.Sum): the padding grown byte by byte, a word read byte by byte, the words' sum in another order. -/
import Derived.Test.YtgjcfmgaioiogaaDoorShaMsgMath
namespace Go.Proofs.YtgjcfmgaioiogaaDoor
namespace Sha
/-- how many bytes of 0 there are -/
def zeros (n : Nat) : Nat := (119 - n % 64) % 64
theorem zeros_go {n j : Nat} (hj : j ≤ zeros n) : (n + 1 + j) % 64 = 56 ↔ j = zeros n := by
  unfold zeros at *; omega
/-- the message and j bytes of 0 behind 128 -/
def padTo (bs : List Nat) (j : Nat) : List Nat := bs ++ [128] ++ List.replicate j 0
theorem padTo_len (bs : List Nat) (j : Nat) : (padTo bs j).length = bs.length + 1 + j := by simp [padTo]; omega
theorem padTo_succ (bs : List Nat) (j : Nat) : padTo bs j ++ [0] = padTo bs (j + 1) := by
  simp [padTo, List.replicate_succ']
theorem len8_at {n t : Nat} (h : t < 8) : (len8 n).getD t 0 = (8 * n) / 2^(56 - 8*t) % 256 := by
  have e : 8 * (7 - t) = 56 - 8 * t := by omega
  simp [len8, List.getD, h, e]
theorem len8_succ {n t : Nat} (h : t < 8) : (len8 n).take t ++ [(8 * n) / 2^(56 - 8*t) % 256] = (len8 n).take (t + 1) := by
  have h2 : t < (len8 n).length := by rw [len8_len]; exact h
  rw [List.take_succ_eq_append_getElem h2, ← len8_at h]
  simp [List.getD, h2]
theorem padded_eq (bs : List Nat) : padded bs = padTo bs (zeros bs.length) ++ (len8 bs.length).take 8 := by
  rw [List.take_of_length_le (by rw [len8_len]; omega)]; rfl
theorem padded_len (bs : List Nat) : (padded bs).length = 64 * ((bs.length + 72) / 64) := by
  rw [padded_eq, List.length_append, padTo_len, List.length_take, len8_len]; unfold zeros; omega
theorem padded_byte {bs : List Nat} (hb : Byte bs) : Byte (padded bs) := by
  refine ((hb.app ?_).app ?_).app ?_
  · intro i; rcases i with _ | i <;> simp
  · intro i
    by_cases h : i < (119 - bs.length % 64) % 64
    · simp [List.getD, h]
    · simp [List.getD, h]
  · intro i
    by_cases h : i < 8
    · rw [len8_at h]; exact Nat.mod_lt _ (by decide)
    · have e : (len8 bs.length)[i]? = none := List.getElem?_eq_none (by rw [len8_len]; omega)
      simp [List.getD, e]
/-- word i of a block as far as j of its bytes have been read -/
def part (bs : List Nat) (i : Nat) : Nat → Nat
  | 0 => 0
  | j + 1 => (part bs i j * 256 + bs.getD (4*i + j) 0)
theorem part_four (bs : List Nat) (i : Nat) : part bs i 4 = word bs i := by
  simp only [part, word, Nat.add_zero]; omega
theorem part_lt {bs : List Nat} (hb : Byte bs) (i : Nat) : ∀ j, j ≤ 4 → part bs i j < 256 ^ j
  | 0, _ => by simp [part]
  | j + 1, h => by
    have h1 := part_lt hb i j (by omega)
    have h2 := hb (4*i + j)
    simp only [part, Nat.pow_succ]; omega
theorem part_wrap {bs : List Nat} (hb : Byte bs) (i j : Nat) (h : j < 4) : (part bs i j * 256 % 4294967296 + bs.getD (4*i + j) 0) % 4294967296 = part bs i (j + 1) := by
  have h1 := part_lt hb i (j + 1) (by omega)
  have h3 : (256 : Nat) ^ (j + 1) ≤ 256 ^ 4 := Nat.pow_le_pow_right (by decide) (by omega)
  have h4 : (256 : Nat) ^ 4 = 4294967296 := by decide
  simp only [part] at h1 ⊢
  omega
/-- the next word, its terms in the order of the document's own function -/
theorem nextW_late {bs l : List Nat} (h : 16 ≤ l.length) : (((l.getD (l.length-16) 0 + l.getD (l.length-7) 0) % 4294967296 + low (l.getD (l.length-15) 0)) % 4294967296 + high (l.getD (l.length-2) 0)) % 4294967296 = nextW bs l := by
  unfold nextW; rw [if_neg (by omega)]; omega
theorem addS_get (l : List Nat) (s : S8) (i : Nat) (hi : i < 8) : (addS l s).getD i 0 = (l.getD i 0 + [s.a, s.b, s.c, s.d, s.e, s.f, s.g, s.h].getD i 0) % 4294967296 := by
  obtain h | h | h | h | h | h | h | h : i = 0 ∨ i = 1 ∨ i = 2 ∨ i = 3 ∨ i = 4 ∨ i = 5 ∨ i = 6 ∨ i = 7 := by omega
  all_goals (subst h; rfl)
end Sha
end Go.Proofs.YtgjcfmgaioiogaaDoor
