/- Plain mathematics of the document's own table: products of numbers of parts of 32 bits, roots bit by bit, the first primes; each as the reference reckons it, over natural numbers. -/
import Derived.Test.YteohhebpfdclhaaDoorShaMath
namespace Go.Proofs.YteohhebpfdclhaaDoor
namespace Roots
/-- the inner loop of a product: m parts of b have been met -/
def inn (out b : List Nat) (x i : Nat) : Nat → List Nat × Nat
  | 0 => (out, 0)
  | j + 1 =>
    let s := inn out b x i j
    let t := (x * b.getD j 0 + s.1.getD (i + j) 0 + s.2) % 18446744073709551616
    (s.1.set (i + j) (t % 4294967296), t / 4294967296)
/-- one part of a is done -/
def row (out b : List Nat) (x i : Nat) : List Nat :=
  let s := inn out b x i b.length
  s.1.set (i + b.length) ((s.1.getD (i + b.length) 0 + s.2) % 18446744073709551616)
def prod (a b : List Nat) : Nat → List Nat
  | 0 => List.replicate (a.length + b.length + 1) 0
  | i + 1 => row (prod a b i) b (a.getD i 0) i
def times (a b : List Nat) : List Nat := prod a b a.length
theorem inn_len (out b : List Nat) (x i : Nat) : ∀ j, (inn out b x i j).1.length = out.length
  | 0 => rfl
  | j + 1 => by simp [inn, inn_len out b x i j]
theorem prod_len (a b : List Nat) : ∀ i, (prod a b i).length = a.length + b.length + 1
  | 0 => by simp [prod]
  | i + 1 => by simp [prod, row, inn_len, prod_len a b i]
def U64 (l : List Nat) : Prop := ∀ i, l.getD i 0 < 18446744073709551616
theorem U64.set {l : List Nat} (h : U64 l) (i x : Nat) (hx : x < 18446744073709551616) : U64 (l.set i x) := fun j => by
  by_cases hj : j = i
  · subst hj
    by_cases hl : j < l.length
    · simpa [List.getD, hl] using hx
    · simp [List.getD, hl]
  · have := h j
    simp only [List.getD, List.getElem?_set] at this ⊢
    rw [if_neg (fun e => hj e.symm)]
    exact this
theorem inn_ok {out : List Nat} (h : U64 out) (b : List Nat) (x i : Nat) : ∀ j, U64 (inn out b x i j).1 ∧ (inn out b x i j).2 < 4294967296
  | 0 => ⟨h, by show 0 < _; decide⟩
  | j + 1 => by
    obtain ⟨h1, _⟩ := inn_ok h b x i j
    refine ⟨h1.set _ _ (Nat.lt_of_lt_of_le (Nat.mod_lt _ (by decide)) (by decide)), ?_⟩
    show _ / 4294967296 < 4294967296
    have : (x * b.getD j 0 + (inn out b x i j).1.getD (i + j) 0 + (inn out b x i j).2) % 18446744073709551616 < 18446744073709551616 := Nat.mod_lt _ (by decide)
    omega
theorem U64.zeros (n : Nat) : U64 (List.replicate n 0) := fun i => by
  rcases Nat.lt_or_ge i n with h | h <;> simp [List.getD, h]
theorem prod_ok (a b : List Nat) : ∀ i, U64 (prod a b i)
  | 0 => U64.zeros _
  | i + 1 => (inn_ok (prod_ok a b i) b _ i b.length).1.set _ _ (Nat.mod_lt _ (by decide))
/-- the parts of two numbers, the highest one first -/
def cmp (a b : List Nat) : Nat → Bool
  | 0 => false
  | n + 1 => if a.getD n 0 = b.getD n 0 then cmp a b n else decide (a.getD n 0 > b.getD n 0)
def power (a : List Nat) : Nat → List Nat
  | 0 => a
  | n + 1 => times (power a n) a
def halves (x : Nat) : List Nat := [x % 4294967296, x / 4294967296]
def above (x p : Nat) : Bool := cmp (power (halves x) 2) [0, 0, 0, p] 13
def bit (p k x : Nat) : Nat := if above (x ||| 2 ^ (35 - k)) p then x else x ||| 2 ^ (35 - k)
/-- the bits from 35 down: k of them are met -/
def root (p : Nat) : Nat → Nat
  | 0 => 0
  | k + 1 => bit p k (root p k)
def step (l : List Nat) (p : Nat) : List Nat := if l.all (fun q => p % q != 0) then l ++ [p] else l
/-- the primes below 2 + k -/
def upTo : Nat → List Nat
  | 0 => []
  | k + 1 => step (upTo k) (2 + k)
theorem step_len (l : List Nat) (p : Nat) : l.length ≤ (step l p).length ∧ (step l p).length ≤ l.length + 1 := by
  unfold step; split <;> simp
theorem upTo_mono (k : Nat) : ∀ d, (upTo k).length ≤ (upTo (k + d)).length
  | 0 => Nat.le_refl _
  | d + 1 => Nat.le_trans (upTo_mono k d) (step_len _ _).1
theorem upTo_ge : ∀ k, ∀ q ∈ upTo k, 2 ≤ q
  | 0, q, h => by simp [upTo] at h
  | k + 1, q, h => by
    unfold upTo step at h
    split at h
    · rcases List.mem_append.1 h with h | h
      · exact upTo_ge k q h
      · simp at h; omega
    · exact upTo_ge k q h
theorem last_len : (upTo 309).length = 63 ∧ (upTo 310).length = 64 := by decide +kernel
theorem upTo_lt {k : Nat} (h : k ≤ 309) : (upTo k).length < 64 := by
  have h1 := upTo_mono k (309 - k)
  rw [show k + (309 - k) = 309 by omega, last_len.1] at h1
  omega
theorem first : upTo 310 = [2, 3, 5, 7, 11, 13, 17, 19, 23, 29, 31, 37, 41, 43, 47, 53, 59, 61, 67, 71, 73, 79, 83, 89, 97, 101, 103, 107, 109, 113, 127, 131, 137, 139, 149, 151, 157, 163, 167, 173, 179, 181, 191, 193, 197, 199, 211, 223, 227, 229, 233, 239, 241, 251, 257, 263, 269, 271, 277, 281, 283, 293, 307, 311] := by decide +kernel
theorem rooted_all : (upTo 310).map (fun p => root p 36 % 4294967296) = Sha.K := by rw [first]; decide +kernel
theorem rooted (i : Nat) (h : i < 64) : root ((upTo 310).getD i 0) 36 % 4294967296 = Sha.K.getD i 0 := by
  rw [← rooted_all]
  simp [List.getD, last_len.2, h]
theorem root_lt (p : Nat) : ∀ k, k ≤ 36 → root p k < 68719476736
  | 0, _ => by show 0 < _; decide
  | k + 1, h => by
    have h1 := root_lt p k (by omega)
    unfold root bit
    split
    · exact h1
    · have h2 : 2 ^ (35 - k) < 2 ^ 36 := Nat.pow_lt_pow_right (by decide) (by omega)
      exact Nat.or_lt_two_pow (n := 36) h1 h2
end Roots
end Go.Proofs.YteohhebpfdclhaaDoor
