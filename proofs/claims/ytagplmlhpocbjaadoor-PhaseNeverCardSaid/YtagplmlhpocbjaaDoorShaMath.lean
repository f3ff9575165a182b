/- Plain mathematics of SHA-256 over natural numbers: the words of a block, the rounds, the digest of a list of bytes. Nothing of the program. -/
namespace Go.Proofs.YtagplmlhpocbjaaDoor
namespace Sha
def M : Nat := 4294967296
/-- a word of 32 bits turned to the left -/
def rl (x s : Nat) : Nat := (x * 2^s % 4294967296) ||| (x / 2^(32-s))
def K : List Nat := [
  0x428a2f98, 0x71374491, 0xb5c0fbcf, 0xe9b5dba5, 0x3956c25b, 0x59f111f1, 0x923f82a4, 0xab1c5ed5,
  0xd807aa98, 0x12835b01, 0x243185be, 0x550c7dc3, 0x72be5d74, 0x80deb1fe, 0x9bdc06a7, 0xc19bf174,
  0xe49b69c1, 0xefbe4786, 0x0fc19dc6, 0x240ca1cc, 0x2de92c6f, 0x4a7484aa, 0x5cb0a9dc, 0x76f988da,
  0x983e5152, 0xa831c66d, 0xb00327c8, 0xbf597fc7, 0xc6e00bf3, 0xd5a79147, 0x06ca6351, 0x14292967,
  0x27b70a85, 0x2e1b2138, 0x4d2c6dfc, 0x53380d13, 0x650a7354, 0x766a0abb, 0x81c2c92e, 0x92722c85,
  0xa2bfe8a1, 0xa81a664b, 0xc24b8b70, 0xc76c51a3, 0xd192e819, 0xd6990624, 0xf40e3585, 0x106aa070,
  0x19a4c116, 0x1e376c08, 0x2748774c, 0x34b0bcb5, 0x391c0cb3, 0x4ed8aa4a, 0x5b9cca4f, 0x682e6ff3,
  0x748f82ee, 0x78a5636f, 0x84c87814, 0x8cc70208, 0x90befffa, 0xa4506ceb, 0xbef9a3f7, 0xc67178f2]
def H0 : List Nat := [0x6a09e667, 0xbb67ae85, 0x3c6ef372, 0xa54ff53a, 0x510e527f, 0x9b05688c, 0x1f83d9ab, 0x5be0cd19]
/-- word i of a block of bytes -/
def word (bs : List Nat) (i : Nat) : Nat := bs.getD (4*i) 0 * 16777216 + bs.getD (4*i+1) 0 * 65536 + bs.getD (4*i+2) 0 * 256 + bs.getD (4*i+3) 0
def low (p : Nat) : Nat := rl p 25 ^^^ rl p 14 ^^^ (p / 8)
def high (q : Nat) : Nat := rl q 15 ^^^ rl q 13 ^^^ (q / 1024)
/-- the word that follows those of l -/
def nextW (bs l : List Nat) : Nat :=
  if l.length < 16 then word bs l.length
  else (l.getD (l.length-16) 0 + low (l.getD (l.length-15) 0) + l.getD (l.length-7) 0 + high (l.getD (l.length-2) 0)) % 4294967296
def sched (bs : List Nat) : Nat → List Nat
  | 0 => []
  | k + 1 => sched bs k ++ [nextW bs (sched bs k)]
structure S8 where
  a : Nat
  b : Nat
  c : Nat
  d : Nat
  e : Nat
  f : Nat
  g : Nat
  h : Nat
def S1 (e : Nat) : Nat := rl e 26 ^^^ rl e 21 ^^^ rl e 7
def S0 (a : Nat) : Nat := rl a 30 ^^^ rl a 19 ^^^ rl a 10
def ch (e f g : Nat) : Nat := (e &&& f) ^^^ ((4294967295 - e) &&& g)
def maj (a b c : Nat) : Nat := (a &&& b) ^^^ (a &&& c) ^^^ (b &&& c)
def t1 (s : S8) (k w : Nat) : Nat := (s.h + S1 s.e + ch s.e s.f s.g + k + w) % 4294967296
def t2 (s : S8) : Nat := (S0 s.a + maj s.a s.b s.c) % 4294967296
def rnd (s : S8) (k w : Nat) : S8 := ⟨(t1 s k w + t2 s) % 4294967296, s.a, s.b, s.c, (s.d + t1 s k w) % 4294967296, s.e, s.f, s.g⟩
def ofL (l : List Nat) : S8 := ⟨l.getD 0 0, l.getD 1 0, l.getD 2 0, l.getD 3 0, l.getD 4 0, l.getD 5 0, l.getD 6 0, l.getD 7 0⟩
def rounds (s : S8) (w : List Nat) : Nat → S8
  | 0 => s
  | i + 1 => rnd (rounds s w i) (K.getD i 0) (w.getD i 0)
def addS (l : List Nat) (s : S8) : List Nat :=
  [(l.getD 0 0 + s.a) % 4294967296, (l.getD 1 0 + s.b) % 4294967296, (l.getD 2 0 + s.c) % 4294967296, (l.getD 3 0 + s.d) % 4294967296,
   (l.getD 4 0 + s.e) % 4294967296, (l.getD 5 0 + s.f) % 4294967296, (l.getD 6 0 + s.g) % 4294967296, (l.getD 7 0 + s.h) % 4294967296]
def mix (l w : List Nat) : List Nat := addS l (rounds (ofL l) w 64)
/-- the eight words behind a block -/
def block (l bs : List Nat) : List Nat := mix l (sched bs 64)
/-- the eight words behind n whole blocks of bs -/
def blocks (bs : List Nat) : Nat → List Nat
  | 0 => H0
  | n + 1 => block (blocks bs n) ((bs.drop (64*n)).take 64)
def join (l : List Nat) : List Nat := (List.range 32).map fun i => l.getD (i/4) 0 / 2^(24 - 8*(i%4)) % 256
/-- the message with what is added at its end -/
def len8 (n : Nat) : List Nat := (List.range 8).map fun i => (8 * n) / 2^(8*(7-i)) % 256
def padded (bs : List Nat) : List Nat := bs ++ [128] ++ List.replicate ((119 - bs.length % 64) % 64) 0 ++ len8 bs.length
def sum (bs : List Nat) : List Nat := join (blocks (padded bs) ((padded bs).length / 64))

/-! bounds -/
theorem rl_lt (x s : Nat) (h : x < 4294967296) : rl x s < 4294967296 := by
  unfold rl
  have h1 : x / 2^(32-s) ≤ x := Nat.div_le_self _ _
  exact Nat.or_lt_two_pow (n := 32) (by omega) (by omega)
theorem xor_lt {a b : Nat} (ha : a < 4294967296) (hb : b < 4294967296) : a ^^^ b < 4294967296 := Nat.xor_lt_two_pow (n := 32) ha hb
theorem and_lt {a b : Nat} (ha : a < 4294967296) : a &&& b < 4294967296 := Nat.lt_of_le_of_lt Nat.and_le_left ha
theorem low_lt (p : Nat) (h : p < 4294967296) : low p < 4294967296 := by
  unfold low; exact xor_lt (xor_lt (rl_lt _ _ h) (rl_lt _ _ h)) (by omega)
theorem high_lt (p : Nat) (h : p < 4294967296) : high p < 4294967296 := by
  unfold high; exact xor_lt (xor_lt (rl_lt _ _ h) (rl_lt _ _ h)) (by omega)
theorem S1_lt (e : Nat) (h : e < 4294967296) : S1 e < 4294967296 := xor_lt (xor_lt (rl_lt _ _ h) (rl_lt _ _ h)) (rl_lt _ _ h)
theorem S0_lt (e : Nat) (h : e < 4294967296) : S0 e < 4294967296 := xor_lt (xor_lt (rl_lt _ _ h) (rl_lt _ _ h)) (rl_lt _ _ h)
theorem ch_lt (e f g : Nat) (h : e < 4294967296) : ch e f g < 4294967296 := xor_lt (and_lt h) (and_lt (by omega))
theorem maj_lt (a b c : Nat) (h : a < 4294967296) (hb : b < 4294967296) : maj a b c < 4294967296 := xor_lt (xor_lt (and_lt h) (and_lt h)) (and_lt hb)
def Byte (bs : List Nat) : Prop := ∀ i, bs.getD i 0 < 256
def W32 (l : List Nat) : Prop := ∀ i, l.getD i 0 < 4294967296
theorem W32.nil : W32 [] := fun i => by simp
theorem getD_append_lt {l r : List Nat} {i : Nat} (h : i < l.length) : (l ++ r).getD i 0 = l.getD i 0 := by
  simp [List.getD, List.getElem?_append_left h]
theorem getD_append_ge {l r : List Nat} {i : Nat} (h : l.length ≤ i) : (l ++ r).getD i 0 = r.getD (i - l.length) 0 := by
  simp [List.getD, List.getElem?_append_right h]
theorem W32.snoc {l : List Nat} {x : Nat} (h : W32 l) (hx : x < 4294967296) : W32 (l ++ [x]) := fun i => by
  by_cases hi : i < l.length
  · rw [getD_append_lt hi]; exact h i
  · rw [getD_append_ge (by omega)]
    rcases Nat.eq_zero_or_pos (i - l.length) with e | e
    · rw [e]; simpa using hx
    · obtain ⟨j, hj⟩ : ∃ j, i - l.length = j + 1 := ⟨i - l.length - 1, by omega⟩
      rw [hj]; simp
theorem word_lt {bs : List Nat} (hb : Byte bs) (i : Nat) : word bs i < 4294967296 := by
  have h0 := hb (4*i); have h1 := hb (4*i+1); have h2 := hb (4*i+2); have h3 := hb (4*i+3)
  unfold word; omega
theorem nextW_lt {bs : List Nat} (hb : Byte bs) (l : List Nat) : nextW bs l < 4294967296 := by
  unfold nextW; split
  · exact word_lt hb _
  · exact Nat.mod_lt _ (by decide)
theorem sched_len (bs : List Nat) : ∀ k, (sched bs k).length = k
  | 0 => rfl
  | k + 1 => by simp [sched, sched_len bs k]
theorem sched_lt {bs : List Nat} (hb : Byte bs) : ∀ k, W32 (sched bs k)
  | 0 => W32.nil
  | k + 1 => (sched_lt hb k).snoc (nextW_lt hb _)
def S8.ok (s : S8) : Prop := s.a < 4294967296 ∧ s.b < 4294967296 ∧ s.c < 4294967296 ∧ s.d < 4294967296 ∧ s.e < 4294967296 ∧ s.f < 4294967296 ∧ s.g < 4294967296 ∧ s.h < 4294967296
theorem ofL_ok {l : List Nat} (h : W32 l) : (ofL l).ok := ⟨h 0, h 1, h 2, h 3, h 4, h 5, h 6, h 7⟩
theorem rnd_ok {s : S8} (k w : Nat) (h : s.ok) : (rnd s k w).ok := by
  obtain ⟨ha, hb, hc, hd, he, hf, hg, hh⟩ := h
  exact ⟨Nat.mod_lt _ (by decide), ha, hb, hc, Nat.mod_lt _ (by decide), he, hf, hg⟩
theorem rounds_ok {s : S8} (w : List Nat) (h : s.ok) : ∀ i, (rounds s w i).ok
  | 0 => h
  | i + 1 => rnd_ok _ _ (rounds_ok w h i)
theorem addS_lt (l : List Nat) (s : S8) : W32 (addS l s) := fun i => by
  unfold addS
  rcases i with _ | _ | _ | _ | _ | _ | _ | _ | i <;> first | (simp; done) | exact Nat.mod_lt _ (by decide)
theorem addS_len (l : List Nat) (s : S8) : (addS l s).length = 8 := rfl
theorem mix_lt (l w : List Nat) : W32 (mix l w) := addS_lt _ _
theorem block_len (l bs : List Nat) : (block l bs).length = 8 := rfl
theorem blocks_len (bs : List Nat) : ∀ n, (blocks bs n).length = 8
  | 0 => rfl
  | _ + 1 => rfl
theorem blocks_lt (bs : List Nat) : ∀ n, W32 (blocks bs n)
  | 0 => fun i => by
      rcases i with _ | _ | _ | _ | _ | _ | _ | _ | i <;> first | (simp [blocks, H0]; done) | decide
  | _ + 1 => addS_lt _ _
theorem K_lt : W32 K := by
  have h : ∀ i, i < 64 → K.getD i 0 < 4294967296 := by decide
  intro i
  by_cases hi : i < 64
  · exact h i hi
  · have e : K[i]? = none := List.getElem?_eq_none (by show 64 ≤ i; omega)
    simp [List.getD, e]
theorem K_len : K.length = 64 := rfl
theorem join_len (l : List Nat) : (join l).length = 32 := by simp [join]
theorem join_get (l : List Nat) (i : Nat) (h : i < 32) : (join l).getD i 0 = l.getD (i/4) 0 / 2^(24 - 8*(i%4)) % 256 := by
  simp [join, List.getD, h]
theorem join_byte (l : List Nat) : Byte (join l) := fun i => by
  by_cases h : i < 32
  · rw [join_get l i h]; exact Nat.mod_lt _ (by decide)
  · have e : (join l)[i]? = none := List.getElem?_eq_none (by rw [join_len]; omega)
    simp [List.getD, e]
/-- figures -/
def fig (n : Nat) : Nat := if n < 10 then 48 + n else 87 + n
def hex (bs : List Nat) : List Nat := (List.range (2 * bs.length)).map fun i => if i % 2 = 0 then fig (bs.getD (i/2) 0 / 16) else fig (bs.getD (i/2) 0 % 16)
theorem hex_len (bs : List Nat) : (hex bs).length = 2 * bs.length := by simp [hex]
theorem hex_even (bs : List Nat) (k : Nat) (h : k < bs.length) : (hex bs).getD (2*k) 0 = fig (bs.getD k 0 / 16) := by
  simp [hex, List.getD, show 2 * k < 2 * bs.length by omega]
theorem hex_odd (bs : List Nat) (k : Nat) (h : k < bs.length) : (hex bs).getD (2*k+1) 0 = fig (bs.getD k 0 % 16) := by
  have e : (2 * k + 1) / 2 = k := by omega
  simp [hex, List.getD, show 2 * k + 1 < 2 * bs.length by omega, e]
end Sha
end Go.Proofs.YtagplmlhpocbjaaDoor
