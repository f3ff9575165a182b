/- Plain mathematics of SHA-256 over natural numbers: the words of a block, the rounds, the digest of a list of bytes. Nothing of the program. -/
import Derived.Test.YtlgljdefileeoaaDoorMBase
import Derived.Deep.Matrix
import Derived.ChangeMaps5
import Derived.OpenShut
import Derived.Shelf.Small.Strs
namespace Go.Proofs.YtlgljdefileeoaaDoor
namespace Sha
def M : Nat := 4294967296
/-- a word of 32 bits turned to the left -/
def rl (x s : Nat) : Nat := (x * 2^s % 4294967296) ||| (x / 2^(32-s))
def K : List Nat := [
  0x428a2f98, 0x71374491, 0xb5c0fbcf, 0xe9b5dba5, 0x3956c25b, 0x59f111f1, 0x923f82a4, 0xab1c5ed5,
  0xd807aa98, 0x12835b01, 0x243185be, 0x550c7dc3, 0x72be5d74, 0x80deb1fe, 0x9bdc06a7, 0xc19bf174,
  0xe49b69c1, 0xefbe4786, 0x0fc19dc6, 0x240ca1cc, 0x2de92c6f, 0x4a7484aa, 0x5cb0a9dc, 0x76f988da,
  0x983e5152, 0xa831c66d, 0xb00327c8, 0xbf597fc7, 0xc6e00bf3, 0xd5a79147, 0x06ca6351, 0x14292967,
  0x27b70a85, 0x2e1b2138, 0x4d2c6dfc, 0x53380d13, 0x650a7354, 0x766a0abb, 0x81c2c92e, 0x92722c85,
  0xa2bfe8a1, 0xa81a664b, 0xc24b8b70, 0xc76c51a3, 0xd192e819, 0xd6990624, 0xf40e3585, 0x106aa070,
  0x19a4c116, 0x1e376c08, 0x2748774c, 0x34b0bcb5, 0x391c0cb3, 0x4ed8aa4a, 0x5b9cca4f, 0x682e6ff3,
  0x748f82ee, 0x78a5636f, 0x84c87814, 0x8cc70208, 0x90befffa, 0xa4506ceb, 0xbef9a3f7, 0xc67178f2]
def H0 : List Nat := [0x6a09e667, 0xbb67ae85, 0x3c6ef372, 0xa54ff53a, 0x510e527f, 0x9b05688c, 0x1f83d9ab, 0x5be0cd19]
/-- word i of a block of bytes -/
def word (bs : List Nat) (i : Nat) : Nat := bs.getD (4*i) 0 * 16777216 + bs.getD (4*i+1) 0 * 65536 + bs.getD (4*i+2) 0 * 256 + bs.getD (4*i+3) 0
def low (p : Nat) : Nat := rl p 25 ^^^ rl p 14 ^^^ (p / 8)
def high (q : Nat) : Nat := rl q 15 ^^^ rl q 13 ^^^ (q / 1024)
/-- the word that follows those of l -/
def nextW (bs l : List Nat) : Nat :=
  if l.length < 16 then word bs l.length
  else (l.getD (l.length-16) 0 + low (l.getD (l.length-15) 0) + l.getD (l.length-7) 0 + high (l.getD (l.length-2) 0)) % 4294967296
def sched (bs : List Nat) : Nat → List Nat
  | 0 => []
  | k + 1 => sched bs k ++ [nextW bs (sched bs k)]
structure S8 where
  a : Nat
  b : Nat
  c : Nat
  d : Nat
  e : Nat
  f : Nat
  g : Nat
  h : Nat
def S1 (e : Nat) : Nat := rl e 26 ^^^ rl e 21 ^^^ rl e 7
def S0 (a : Nat) : Nat := rl a 30 ^^^ rl a 19 ^^^ rl a 10
def ch (e f g : Nat) : Nat := (e &&& f) ^^^ ((4294967295 - e) &&& g)
def maj (a b c : Nat) : Nat := (a &&& b) ^^^ (a &&& c) ^^^ (b &&& c)
def t1 (s : S8) (k w : Nat) : Nat := (s.h + S1 s.e + ch s.e s.f s.g + k + w) % 4294967296
def t2 (s : S8) : Nat := (S0 s.a + maj s.a s.b s.c) % 4294967296
def rnd (s : S8) (k w : Nat) : S8 := ⟨(t1 s k w + t2 s) % 4294967296, s.a, s.b, s.c, (s.d + t1 s k w) % 4294967296, s.e, s.f, s.g⟩
def ofL (l : List Nat) : S8 := ⟨l.getD 0 0, l.getD 1 0, l.getD 2 0, l.getD 3 0, l.getD 4 0, l.getD 5 0, l.getD 6 0, l.getD 7 0⟩
def rounds (s : S8) (w : List Nat) : Nat → S8
  | 0 => s
  | i + 1 => rnd (rounds s w i) (K.getD i 0) (w.getD i 0)
def addS (l : List Nat) (s : S8) : List Nat :=
  [(l.getD 0 0 + s.a) % 4294967296, (l.getD 1 0 + s.b) % 4294967296, (l.getD 2 0 + s.c) % 4294967296, (l.getD 3 0 + s.d) % 4294967296,
   (l.getD 4 0 + s.e) % 4294967296, (l.getD 5 0 + s.f) % 4294967296, (l.getD 6 0 + s.g) % 4294967296, (l.getD 7 0 + s.h) % 4294967296]
def mix (l w : List Nat) : List Nat := addS l (rounds (ofL l) w 64)
/-- the eight words behind a block -/
def block (l bs : List Nat) : List Nat := mix l (sched bs 64)
/-- the eight words behind n whole blocks of bs -/
def blocks (bs : List Nat) : Nat → List Nat
  | 0 => H0
  | n + 1 => block (blocks bs n) ((bs.drop (64*n)).take 64)
def join (l : List Nat) : List Nat := (List.range 32).map fun i => l.getD (i/4) 0 / 2^(24 - 8*(i%4)) % 256
/-- the message with what is added at its end -/
def len8 (n : Nat) : List Nat := (List.range 8).map fun i => (8 * n) / 2^(8*(7-i)) % 256
def padded (bs : List Nat) : List Nat := bs ++ [128] ++ List.replicate ((119 - bs.length % 64) % 64) 0 ++ len8 bs.length
def sum (bs : List Nat) : List Nat := join (blocks (padded bs) ((padded bs).length / 64))

/-! bounds -/
theorem rl_lt (x s : Nat) (h : x < 4294967296) : rl x s < 4294967296 := by
  unfold rl
  have h1 : x / 2^(32-s) ≤ x := Nat.div_le_self _ _
  exact Nat.or_lt_two_pow (n := 32) (by omega) (by omega)
theorem xor_lt {a b : Nat} (ha : a < 4294967296) (hb : b < 4294967296) : a ^^^ b < 4294967296 := Nat.xor_lt_two_pow (n := 32) ha hb
theorem and_lt {a b : Nat} (ha : a < 4294967296) : a &&& b < 4294967296 := Nat.lt_of_le_of_lt Nat.and_le_left ha
theorem low_lt (p : Nat) (h : p < 4294967296) : low p < 4294967296 := by
  unfold low; exact xor_lt (xor_lt (rl_lt _ _ h) (rl_lt _ _ h)) (by omega)
theorem high_lt (p : Nat) (h : p < 4294967296) : high p < 4294967296 := by
  unfold high; exact xor_lt (xor_lt (rl_lt _ _ h) (rl_lt _ _ h)) (by omega)
theorem S1_lt (e : Nat) (h : e < 4294967296) : S1 e < 4294967296 := xor_lt (xor_lt (rl_lt _ _ h) (rl_lt _ _ h)) (rl_lt _ _ h)
theorem S0_lt (e : Nat) (h : e < 4294967296) : S0 e < 4294967296 := xor_lt (xor_lt (rl_lt _ _ h) (rl_lt _ _ h)) (rl_lt _ _ h)
theorem ch_lt (e f g : Nat) (h : e < 4294967296) : ch e f g < 4294967296 := xor_lt (and_lt h) (and_lt (by omega))
theorem maj_lt (a b c : Nat) (h : a < 4294967296) (hb : b < 4294967296) : maj a b c < 4294967296 := xor_lt (xor_lt (and_lt h) (and_lt h)) (and_lt hb)
def Byte (bs : List Nat) : Prop := ∀ i, bs.getD i 0 < 256
def W32 (l : List Nat) : Prop := ∀ i, l.getD i 0 < 4294967296
theorem W32.nil : W32 [] := fun i => by simp
theorem getD_append_lt {l r : List Nat} {i : Nat} (h : i < l.length) : (l ++ r).getD i 0 = l.getD i 0 := by
  simp [List.getD, List.getElem?_append_left h]
theorem getD_append_ge {l r : List Nat} {i : Nat} (h : l.length ≤ i) : (l ++ r).getD i 0 = r.getD (i - l.length) 0 := by
  simp [List.getD, List.getElem?_append_right h]
theorem W32.snoc {l : List Nat} {x : Nat} (h : W32 l) (hx : x < 4294967296) : W32 (l ++ [x]) := fun i => by
  by_cases hi : i < l.length
  · rw [getD_append_lt hi]; exact h i
  · rw [getD_append_ge (by omega)]
    rcases Nat.eq_zero_or_pos (i - l.length) with e | e
    · rw [e]; simpa using hx
    · obtain ⟨j, hj⟩ : ∃ j, i - l.length = j + 1 := ⟨i - l.length - 1, by omega⟩
      rw [hj]; simp
theorem word_lt {bs : List Nat} (hb : Byte bs) (i : Nat) : word bs i < 4294967296 := by
  have h0 := hb (4*i); have h1 := hb (4*i+1); have h2 := hb (4*i+2); have h3 := hb (4*i+3)
  unfold word; omega
theorem nextW_lt {bs : List Nat} (hb : Byte bs) (l : List Nat) : nextW bs l < 4294967296 := by
  unfold nextW; split
  · exact word_lt hb _
  · exact Nat.mod_lt _ (by decide)
theorem sched_len (bs : List Nat) : ∀ k, (sched bs k).length = k
  | 0 => rfl
  | k + 1 => by simp [sched, sched_len bs k]
theorem sched_lt {bs : List Nat} (hb : Byte bs) : ∀ k, W32 (sched bs k)
  | 0 => W32.nil
  | k + 1 => (sched_lt hb k).snoc (nextW_lt hb _)
def S8.ok (s : S8) : Prop := s.a < 4294967296 ∧ s.b < 4294967296 ∧ s.c < 4294967296 ∧ s.d < 4294967296 ∧ s.e < 4294967296 ∧ s.f < 4294967296 ∧ s.g < 4294967296 ∧ s.h < 4294967296
theorem ofL_ok {l : List Nat} (h : W32 l) : (ofL l).ok := ⟨h 0, h 1, h 2, h 3, h 4, h 5, h 6, h 7⟩
theorem rnd_ok {s : S8} (k w : Nat) (h : s.ok) : (rnd s k w).ok := by
  obtain ⟨ha, hb, hc, hd, he, hf, hg, hh⟩ := h
  exact ⟨Nat.mod_lt _ (by decide), ha, hb, hc, Nat.mod_lt _ (by decide), he, hf, hg⟩
theorem rounds_ok {s : S8} (w : List Nat) (h : s.ok) : ∀ i, (rounds s w i).ok
  | 0 => h
  | i + 1 => rnd_ok _ _ (rounds_ok w h i)
theorem addS_lt (l : List Nat) (s : S8) : W32 (addS l s) := fun i => by
  unfold addS
  rcases i with _ | _ | _ | _ | _ | _ | _ | _ | i <;> first | (simp; done) | exact Nat.mod_lt _ (by decide)
theorem addS_len (l : List Nat) (s : S8) : (addS l s).length = 8 := rfl
theorem mix_lt (l w : List Nat) : W32 (mix l w) := addS_lt _ _
theorem block_len (l bs : List Nat) : (block l bs).length = 8 := rfl
theorem blocks_len (bs : List Nat) : ∀ n, (blocks bs n).length = 8
  | 0 => rfl
  | _ + 1 => rfl
theorem blocks_lt (bs : List Nat) : ∀ n, W32 (blocks bs n)
  | 0 => fun i => by
      rcases i with _ | _ | _ | _ | _ | _ | _ | _ | i <;> first | (simp [blocks, H0]; done) | decide
  | _ + 1 => addS_lt _ _
theorem K_lt : W32 K := by
  have h : ∀ i, i < 64 → K.getD i 0 < 4294967296 := by decide
  intro i
  by_cases hi : i < 64
  · exact h i hi
  · have e : K[i]? = none := List.getElem?_eq_none (by show 64 ≤ i; omega)
    simp [List.getD, e]
theorem K_len : K.length = 64 := rfl
theorem join_len (l : List Nat) : (join l).length = 32 := by simp [join]
theorem join_get (l : List Nat) (i : Nat) (h : i < 32) : (join l).getD i 0 = l.getD (i/4) 0 / 2^(24 - 8*(i%4)) % 256 := by
  simp [join, List.getD, h]
theorem join_byte (l : List Nat) : Byte (join l) := fun i => by
  by_cases h : i < 32
  · rw [join_get l i h]; exact Nat.mod_lt _ (by decide)
  · have e : (join l)[i]? = none := List.getElem?_eq_none (by rw [join_len]; omega)
    simp [List.getD, e]
/-- figures -/
def fig (n : Nat) : Nat := if n < 10 then 48 + n else 87 + n
def hex (bs : List Nat) : List Nat := (List.range (2 * bs.length)).map fun i => if i % 2 = 0 then fig (bs.getD (i/2) 0 / 16) else fig (bs.getD (i/2) 0 % 16)
theorem hex_len (bs : List Nat) : (hex bs).length = 2 * bs.length := by simp [hex]
theorem hex_even (bs : List Nat) (k : Nat) (h : k < bs.length) : (hex bs).getD (2*k) 0 = fig (bs.getD k 0 / 16) := by
  simp [hex, List.getD, show 2 * k < 2 * bs.length by omega]
theorem hex_odd (bs : List Nat) (k : Nat) (h : k < bs.length) : (hex bs).getD (2*k+1) 0 = fig (bs.getD k 0 % 16) := by
  have e : (2 * k + 1) / 2 = k := by omega
  simp [hex, List.getD, show 2 * k + 1 < 2 * bs.length by omega, e]
end Sha
end Go.Proofs.YtlgljdefileeoaaDoor
/- What a message's state is: plain mathematics. -/
namespace Go.Proofs.YtlgljdefileeoaaDoor
namespace Sha
theorem getD_take {l : List Nat} {n i : Nat} (h : i < n) : (l.take n).getD i 0 = l.getD i 0 := by
  simp [List.getD, h]
theorem getD_drop {l : List Nat} {n i : Nat} : (l.drop n).getD i 0 = l.getD (n + i) 0 := by
  simp [List.getD]
theorem ext_getD {a b : List Nat} (hl : a.length = b.length) (h : ∀ i, i < a.length → a.getD i 0 = b.getD i 0) : a = b := by
  apply List.ext_getElem hl
  intro i h1 h2
  have := h i h1
  simpa [List.getD, h1, h2] using this
theorem blocks_app (bs ps : List Nat) : ∀ n, 64 * n ≤ bs.length → blocks (bs ++ ps) n = blocks bs n
  | 0, _ => rfl
  | n + 1, h => by
    show block (blocks (bs ++ ps) n) (((bs ++ ps).drop (64*n)).take 64) = block (blocks bs n) ((bs.drop (64*n)).take 64)
    rw [blocks_app bs ps n (by omega)]
    congr 1
    rw [List.drop_append_of_le_length (by omega), List.take_append_of_le_length (by rw [List.length_drop]; omega)]
/-- the block's bytes in which the last ones of bs stand -/
structure Tail (bs blk : List Nat) : Prop where
  len : blk.length = 64
  byte : Byte blk
  same : ∀ i, i < bs.length % 64 → blk.getD i 0 = bs.getD (64 * (bs.length / 64) + i) 0
theorem Byte.nil : Byte [] := fun i => by simp
theorem Byte.app {a b : List Nat} (ha : Byte a) (hb : Byte b) : Byte (a ++ b) := fun i => by
  by_cases h : i < a.length
  · rw [getD_append_lt h]; exact ha i
  · rw [getD_append_ge (by omega)]; exact hb _
theorem Byte.take {a : List Nat} (ha : Byte a) (n : Nat) : Byte (a.take n) := fun i => by
  by_cases h : i < n
  · rw [getD_take h]; exact ha i
  · have e : (a.take n)[i]? = none := List.getElem?_eq_none (by rw [List.length_take]; omega)
    simp [List.getD, e]
theorem Byte.drop {a : List Nat} (ha : Byte a) (n : Nat) : Byte (a.drop n) := fun i => by rw [getD_drop]; exact ha _
/-- a chunk is laid behind them -/
def lay (blk c : List Nat) (f : Nat) : List Nat := blk.take f ++ c ++ blk.drop (f + c.length)
theorem lay_len {blk c : List Nat} {f : Nat} (h : f + c.length ≤ blk.length) : (lay blk c f).length = blk.length := by
  simp [lay]; omega
theorem lay_byte {blk c : List Nat} {f : Nat} (hb : Byte blk) (hc : Byte c) : Byte (lay blk c f) := ((hb.take f).app hc).app (hb.drop _)
theorem lay_lo {blk c : List Nat} {f i : Nat} (hf : f ≤ blk.length) (h : i < f) : (lay blk c f).getD i 0 = blk.getD i 0 := by
  unfold lay
  rw [List.append_assoc, getD_append_lt (by rw [List.length_take]; omega), getD_take h]
theorem lay_mid {blk c : List Nat} {f i : Nat} (hf : f ≤ blk.length) (h : f ≤ i) (h2 : i < f + c.length) : (lay blk c f).getD i 0 = c.getD (i - f) 0 := by
  unfold lay
  have e : (blk.take f).length = f := by rw [List.length_take]; omega
  rw [List.append_assoc, getD_append_ge (by omega), e, getD_append_lt (by omega)]
theorem Tail.part {bs blk c : List Nat} (h : Tail bs blk) (hc : Byte c) (hn : bs.length % 64 + c.length < 64) : Tail (bs ++ c) (lay blk c (bs.length % 64)) := by
  have hq : (bs ++ c).length / 64 = bs.length / 64 := by rw [List.length_append]; omega
  have hr : (bs ++ c).length % 64 = bs.length % 64 + c.length := by rw [List.length_append]; omega
  have hlen := h.len
  refine ⟨by rw [lay_len (by omega), hlen], lay_byte h.byte hc, fun i hi => ?_⟩
  rw [hq]
  rw [hr] at hi
  by_cases hlt : i < bs.length % 64
  · rw [lay_lo (by omega) hlt, h.same i hlt, getD_append_lt (by omega)]
  · rw [lay_mid (by omega) (by omega) hi, getD_append_ge (by omega)]
    congr 1; omega
theorem Tail.whole {bs blk c : List Nat} (h : Tail bs blk) (hn : bs.length % 64 + c.length = 64) :
    blocks (bs ++ c) ((bs ++ c).length / 64) = block (blocks bs (bs.length / 64)) (lay blk c (bs.length % 64)) ∧ (bs ++ c).length % 64 = 0 := by
  have hq : (bs ++ c).length / 64 = bs.length / 64 + 1 := by rw [List.length_append]; omega
  have hlen := h.len
  refine ⟨?_, by rw [List.length_append]; omega⟩
  rw [hq]
  show block (blocks (bs ++ c) (bs.length / 64)) _ = _
  rw [blocks_app bs c _ (by omega)]
  congr 1
  have hl : (bs ++ c).length = 64 * (bs.length / 64) + 64 := by rw [List.length_append]; omega
  refine ext_getD ?_ (fun i hi => ?_)
  · rw [List.length_take, List.length_drop, lay_len (by omega), hlen, hl]; omega
  · rw [List.length_take, List.length_drop, hl] at hi
    rw [getD_take (by omega), getD_drop]
    by_cases hlt : i < bs.length % 64
    · rw [lay_lo (by omega) hlt, h.same i hlt, getD_append_lt (by omega)]
    · rw [lay_mid (by omega) (by omega) (by omega), getD_append_ge (by omega)]
      congr 1; omega
theorem Tail.fresh {bs blk : List Nat} (hl : blk.length = 64) (hb : Byte blk) (h0 : bs.length % 64 = 0) : Tail bs blk := ⟨hl, hb, fun i hi => by omega⟩
theorem lay_nil (blk : List Nat) (f : Nat) : lay blk [] f = blk := by simp [lay]
theorem lay_snoc {blk c : List Nat} {f : Nat} (x : Nat) (h : f + c.length < blk.length) : (lay blk c f).set (f + c.length) x = lay blk (c ++ [x]) f := by
  unfold lay
  have e : (blk.take f ++ c).length = f + c.length := by rw [List.length_append, List.length_take]; omega
  rw [List.set_append_right _ _ (by omega), e, Nat.sub_self, List.drop_eq_getElem_cons h, List.set_cons_zero]
  simp [Nat.add_assoc]
theorem len8_len (n : Nat) : (len8 n).length = 8 := by simp [len8]
theorem len8_get (n k : Nat) (h : k < 8) : (len8 n).getD k 0 = 8 * n / 2^(8*(7-k)) % 256 := by simp [len8, List.getD, h]
theorem len8_byte (n : Nat) : Byte (len8 n) := fun i => by
  by_cases h : i < 8
  · rw [len8_get n i h]; exact Nat.mod_lt _ (by decide)
  · have e : (len8 n)[i]? = none := List.getElem?_eq_none (by rw [len8_len]; omega)
    simp [List.getD, e]
theorem take_snoc {l : List Nat} {k : Nat} (h : k < l.length) : l.take (k + 1) = l.take k ++ [l.getD k 0] := by
  rw [List.take_add_one]; simp [List.getD, h]
theorem Byte.zeros (n : Nat) : Byte (List.replicate n 0) := fun i => by
  rcases Nat.lt_or_ge i n with h | h
  · simp [List.getD, h]
  · simp [List.getD, h]
theorem Byte.one {x : Nat} (h : x < 256) : Byte [x] := fun i => by
  rcases i with _ | i
  · simpa using h
  · simp
/-- how many noughts come -/
def gap (n : Nat) : Nat := (119 - n % 64) % 64
def upTo (bs : List Nat) (z : Nat) : List Nat := bs ++ [128] ++ List.replicate z 0
theorem upTo_len (bs : List Nat) (z : Nat) : (upTo bs z).length = bs.length + 1 + z := by simp [upTo]; omega
theorem upTo_succ (bs : List Nat) (z : Nat) : upTo bs (z + 1) = upTo bs z ++ [0] := by
  simp [upTo, List.replicate_succ']
theorem sum_upTo {bs blk : List Nat} (h : Tail (upTo bs (gap bs.length)) blk) :
    sum bs = join (block (blocks (upTo bs (gap bs.length)) ((upTo bs (gap bs.length)).length / 64)) (lay blk (len8 bs.length) 56)) := by
  have h56 : (upTo bs (gap bs.length)).length % 64 = 56 := by rw [upTo_len]; unfold gap; omega
  have hw := (h.whole (c := len8 bs.length) (by rw [h56, len8_len])).1
  rw [h56] at hw
  rw [← hw]
  rfl
end Sha
end Go.Proofs.YtlgljdefileeoaaDoor
/- Bytes that a slice value holds. -/
namespace Go.Proofs.YtlgljdefileeoaaDoor
open Go Go.RowKit
/-- Bytes that a slice value holds, outside block p. -/
def RdB (w : World) (p : Nat) (v : Value) (xs : List Nat) : Prop :=
  ∃ A c, v = .slice A xs.length c ∧ xs.length ≤ c ∧ (0 < xs.length → ∃ b o, A = some ⟨b, o, none⟩ ∧ b ≠ p ∧ b < w.heap.size ∧ ∀ i, i < xs.length → w.cell? ⟨b, o + i, none⟩ = some (.int .u8 ((xs.getD i 0 : Nat) : Int)))
theorem RdB.only {w w' : World} {p : Nat} {v : Value} {xs : List Nat} (h : RdB w p v xs) (k : w.grownBy w' (some p)) : RdB w' p v xs := by
  obtain ⟨A, c, hv, hc, hA⟩ := h
  refine ⟨A, c, hv, hc, fun h0 => ?_⟩
  obtain ⟨b, o, ha, hb, hl, hx⟩ := hA h0
  exact ⟨b, o, ha, hb, Nat.lt_of_lt_of_le hl k.size, fun i hi => k.cell (hx i hi) (fun e => hb (by injection e))⟩
/-- what a cut leaves -/
theorem RdB.cut {w : World} {p : Nat} {A : Option Addr} {n c : Nat} {xs : List Nat} (h : RdB w p (.slice A n c) xs) {k : Nat} (hk : k ≤ xs.length) :
    RdB w p (.slice (if c = k then A else A.map (·.add k)) (n - k) (c - k)) (xs.drop k) := by
  obtain ⟨A', c', hv, hc, hA⟩ := h
  injection hv with e1 e2 e3
  subst e1 e2 e3
  refine ⟨_, _, by rw [List.length_drop], by rw [List.length_drop]; omega, fun h0 => ?_⟩
  rw [List.length_drop] at h0
  obtain ⟨b, o, ha, hb, hl, hx⟩ := hA (by omega)
  refine ⟨b, o + k, ?_, hb, hl, fun i hi => ?_⟩
  · rw [if_neg (by omega), ha]
    show some ((⟨b, o, none⟩ : Addr).add k) = _
    rw [Addr.add_mid]
  · rw [List.length_drop] at hi
    rw [Nat.add_assoc, hx (k + i) (by omega), Sha.getD_drop]
theorem RdB.only' {w w' : World} {p b o n c : Nat} {xs : List Nat} {s2 : Value} (h : RdB w p (.slice (some ⟨b, o, none⟩) n c) xs) (k : w.grownBy w' (some p)) {m : Nat} (hk : m ≤ xs.length)
    (e : s2 = Value.slice (if c = m then some ⟨b, o, none⟩ else (some (⟨b, o, none⟩ : Addr)).map (·.add m)) (n - m) (c - m)) : RdB w' p s2 (xs.drop m) := by
  rw [e]; exact (h.only k).cut hk
/-- Bytes that a slice value holds. -/
def Rd (w : World) (v : Value) (xs : List Nat) : Prop :=
  ∃ A c, v = .slice A xs.length c ∧ xs.length ≤ c ∧ (0 < xs.length → ∃ b o, A = some ⟨b, o, none⟩ ∧ b < w.heap.size ∧ ∀ i, i < xs.length → w.cell? ⟨b, o + i, none⟩ = some (.int .u8 ((xs.getD i 0 : Nat) : Int)))
theorem Rd.below {w w' : World} {v : Value} {xs : List Nat} (h : Rd w v xs) {B : Nat} (hb : Below B w w') (hB : w.heap.size ≤ B) : Rd w' v xs := by
  obtain ⟨A, c, hv, hc, hA⟩ := h
  refine ⟨A, c, hv, hc, fun h0 => ?_⟩
  obtain ⟨b, o, ha, hl, hx⟩ := hA h0
  have := hb.size
  exact ⟨b, o, ha, by omega, fun i hi => (hb.cell (p := ⟨b, o + i, none⟩) (by show b < B; omega)).trans (hx i hi)⟩
theorem Rd.out {w : World} {v : Value} {xs : List Nat} (h : Rd w v xs) {p : Nat} (hp : w.heap.size ≤ p) : RdB w p v xs := by
  obtain ⟨A, c, hv, hc, hA⟩ := h
  refine ⟨A, c, hv, hc, fun h0 => ?_⟩
  obtain ⟨b, o, ha, hl, hx⟩ := hA h0
  exact ⟨b, o, ha, by omega, hl, hx⟩
theorem Rd.outB {w w' : World} {v : Value} {xs : List Nat} (h : Rd w v xs) {p : Nat} (hp : w.heap.size ≤ p) (hb : Below w.heap.size w w') : RdB w' p v xs := by
  obtain ⟨A, c, hv, hc, hA⟩ := h
  refine ⟨A, c, hv, hc, fun h0 => ?_⟩
  obtain ⟨b, o, ha, hl, hx⟩ := hA h0
  have := hb.size
  exact ⟨b, o, ha, by omega, by omega, fun i hi => (hb.cell (p := ⟨b, o + i, none⟩) (by show b < _; omega)).trans (hx i hi)⟩
/-- A slice of such slices: vs are its cells. -/
def RdL (w : World) (v : Value) (vs : List Value) : Prop :=
  ∃ A c, v = .slice A vs.length c ∧ vs.length ≤ c ∧ (0 < vs.length → ∃ b o, A = some ⟨b, o, none⟩ ∧ b < w.heap.size ∧ ∀ i u, vs[i]? = some u → w.cell? ⟨b, o + i, none⟩ = some u)
end Go.Proofs.YtlgljdefileeoaaDoor
/- Arguments of laws, opened: slices of bytes. -/
namespace Go.Proofs.YtlgljdefileeoaaDoor
open Go Go.RowKit Go.WideShapes Go.ChangeShapes Go.Deep
section
variable {H : Type} {enc : TypeId × Value → H} {P : Program} {W : World} {held : Bool} {t e q : TypeId}
theorem spot_free {w : World} {b o : Nat} {s : Option Nat} {v : Value} (h : w.cell? ⟨b, o, s⟩ = some v) : s = none := by
  cases s with
  | none => rfl
  | some k =>
    exfalso
    unfold World.cell? at h
    split at h <;> simp_all
theorem u8_nat {n : Int} (h : (Lit.int .u8 n).wf = true) : ((n.toNat : Nat) : Int) = n ∧ n.toNat < 256 := by
  have h2 : (decide (IntKind.u8.min ≤ n) && decide (n ≤ IntKind.u8.max)) = true := h
  rw [Bool.and_eq_true, decide_eq_true_eq, decide_eq_true_eq] at h2
  have h3 : (0 : Int) ≤ n ∧ n ≤ 255 := h2
  omega
theorem slice_cells (ht : P.underlying t = some (.slice e)) {r : Reach} {b0 : Nat} {v : Value} (hval : Value.okWide P W r b0 t v) : v.cells.toList = [v] := by
  simp only [Value.okWide, ht] at hval
  cases v <;> first | rfl | (simp [Cell.okWide, ht] at hval; done) | (exfalso; simp_all [Cell.okWide, Cell.ok])
/-- bytes that are read, in a cell -/
theorem rd_of_ints {fuel : Nat} {v : Value} {x : DataW H × List MemPlace} (ht : P.underlying t = some (.slice e)) (he : P.underlying e = some (.int .u8)) (hc : P.cellsOf e = 1)
    (h : DataW.trod enc P W 0 (fun _ => true) held fuel t [v] = some x) : ∃ xs : List Nat, Rd W v xs ∧ Sha.Byte xs ∧ xs.length ≤ maxLen := by
  rcases open_ints ht he hc h with ⟨h0, _⟩ | ⟨a, len, cap, zs, h0, _, hl, hm, hz, _, hx, hw⟩
  · obtain rfl : v = .slice none 0 0 := by simpa using h0
    exact ⟨[], ⟨none, 0, rfl, Nat.le_refl _, fun h => absurd h (by simp)⟩, fun i => by simp, Nat.zero_le _⟩
  · obtain rfl : v = .slice (some a) len cap := by simpa using h0
    simp only [if_true] at hz
    have hl1 : ((zs.take len).map Int.toNat).length = len := by rw [List.length_map, List.length_take]; omega
    have hget : ∀ i, i < len → (((zs.getD i 0).toNat : Nat) : Int) = zs.getD i 0 ∧ (zs.getD i 0).toNat < 256 ∧ ((zs.take len).map Int.toNat).getD i 0 = (zs.getD i 0).toNat := fun i hi => by
      have hiz : i < zs.length := by omega
      have e1 : zs.getD i 0 = zs[i] := by rw [List.getD_eq_getElem?_getD, List.getElem?_eq_getElem hiz]; rfl
      obtain ⟨g1, g2⟩ := u8_nat (hw _ (List.getElem_mem hiz))
      refine ⟨by rw [e1]; exact g1, by rw [e1]; exact g2, ?_⟩
      rw [List.getD_eq_getElem?_getD, List.getElem?_map, List.getElem?_take_of_lt hi, List.getElem?_eq_getElem hiz, e1]; rfl
    refine ⟨(zs.take len).map Int.toNat, ⟨some a, cap, by rw [hl1], by rw [hl1]; exact hl, fun h0 => ?_⟩, fun i => ?_, by rw [hl1]; omega⟩
    · rw [hl1] at h0
      obtain ⟨b, o, s⟩ := a
      have hc0 := hx 0 (by omega)
      rw [show (⟨b, o, s⟩ : Addr).add 0 = ⟨b, o, s⟩ from by simp [Addr.add]] at hc0
      obtain rfl := spot_free hc0
      refine ⟨b, o, rfl, block_lt_of_cell hc0, fun i hi => ?_⟩
      rw [hl1] at hi
      have e1 := hx i (by omega)
      rw [show (⟨b, o, none⟩ : Addr).add i = ⟨b, o + i, none⟩ from by simp [Addr.add]] at e1
      obtain ⟨g1, _, g3⟩ := hget i hi
      rw [e1, g3, g1]
    · by_cases hi : i < len
      · obtain ⟨_, g2, g3⟩ := hget i hi
        rw [g3]; exact g2
      · rw [List.getD_eq_getElem?_getD, List.getElem?_eq_none (by rw [hl1]; omega)]; decide
theorem open_u8s (ht : P.underlying t = some (.slice e)) (he : P.underlying e = some (.int .u8)) (hc : P.cellsOf e = 1) {r : Reach} {b0 : Nat} {v : Value} {d : DataW H} {ps : List MemPlace}
    (hval : Value.okWide P W r b0 t v) (hd : DataW.Trod enc P W 0 (fun _ => true) held t v d ps) : ∃ xs : List Nat, Rd W v xs ∧ Sha.Byte xs ∧ xs.length ≤ maxLen := by
  obtain ⟨fuel, hf⟩ := hd
  rw [slice_cells ht hval] at hf
  exact rd_of_ints ht he hc hf
end
end Go.Proofs.YtlgljdefileeoaaDoor
/- The library's contracts that layer 3 leans on, laid at this program's numbers. -/
namespace Go.Proofs.YtlgljdefileeoaaDoor
open Go Go.RowKit
/-! strings.IndexByte -/
section
open Go.Shelf
def ixb_ren : Go.Shelf.Ren := ⟨fun | 137 => 29 | 217 => 44 | 266 => 51 | n => n, fun | 9 => 9 | 5 => 5 | 3 => 3 | n => n, fun | n => n⟩
theorem ixb_lays : Go.Proofs.Lays.n137 Tryd.prog ixb_ren := {
  mixed := by kernel_rfl
  f137 := Tryd.func29.trans (congrArg some (by kernel_rfl))
  f217 := Tryd.func44.trans (congrArg some (by kernel_rfl))
  f266 := Tryd.func51.trans (congrArg some (by kernel_rfl))
  t3 := Tryd.underlying3
  a3 := Tryd.isAgg3
  z3 := Tryd.sizeOf3
  v3 := Tryd.zeroValue3
  t5 := Tryd.underlying5
  a5 := Tryd.isAgg5
  z5 := Tryd.sizeOf5
  v5 := Tryd.zeroValue5
  t9 := Tryd.underlying9
  a9 := Tryd.isAgg9
  z9 := Tryd.sizeOf9
  v9 := Tryd.zeroValue9 }
end
end Go.Proofs.YtlgljdefileeoaaDoor
