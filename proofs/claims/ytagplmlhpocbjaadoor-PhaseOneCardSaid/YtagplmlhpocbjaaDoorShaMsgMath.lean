/- What a message's state is: plain mathematics. -/
import Derived.Test.YtagplmlhpocbjaaDoorShaMath
namespace Go.Proofs.YtagplmlhpocbjaaDoor
namespace Sha
theorem getD_take {l : List Nat} {n i : Nat} (h : i < n) : (l.take n).getD i 0 = l.getD i 0 := by
  simp [List.getD, h]
theorem getD_drop {l : List Nat} {n i : Nat} : (l.drop n).getD i 0 = l.getD (n + i) 0 := by
  simp [List.getD]
theorem ext_getD {a b : List Nat} (hl : a.length = b.length) (h : ∀ i, i < a.length → a.getD i 0 = b.getD i 0) : a = b := by
  apply List.ext_getElem hl
  intro i h1 h2
  have := h i h1
  simpa [List.getD, h1, h2] using this
theorem blocks_app (bs ps : List Nat) : ∀ n, 64 * n ≤ bs.length → blocks (bs ++ ps) n = blocks bs n
  | 0, _ => rfl
  | n + 1, h => by
    show block (blocks (bs ++ ps) n) (((bs ++ ps).drop (64*n)).take 64) = block (blocks bs n) ((bs.drop (64*n)).take 64)
    rw [blocks_app bs ps n (by omega)]
    congr 1
    rw [List.drop_append_of_le_length (by omega), List.take_append_of_le_length (by rw [List.length_drop]; omega)]
/-- the block's bytes in which the last ones of bs stand -/
structure Tail (bs blk : List Nat) : Prop where
  len : blk.length = 64
  byte : Byte blk
  same : ∀ i, i < bs.length % 64 → blk.getD i 0 = bs.getD (64 * (bs.length / 64) + i) 0
theorem Byte.nil : Byte [] := fun i => by simp
theorem Byte.app {a b : List Nat} (ha : Byte a) (hb : Byte b) : Byte (a ++ b) := fun i => by
  by_cases h : i < a.length
  · rw [getD_append_lt h]; exact ha i
  · rw [getD_append_ge (by omega)]; exact hb _
theorem Byte.take {a : List Nat} (ha : Byte a) (n : Nat) : Byte (a.take n) := fun i => by
  by_cases h : i < n
  · rw [getD_take h]; exact ha i
  · have e : (a.take n)[i]? = none := List.getElem?_eq_none (by rw [List.length_take]; omega)
    simp [List.getD, e]
theorem Byte.drop {a : List Nat} (ha : Byte a) (n : Nat) : Byte (a.drop n) := fun i => by rw [getD_drop]; exact ha _
/-- a chunk is laid behind them -/
def lay (blk c : List Nat) (f : Nat) : List Nat := blk.take f ++ c ++ blk.drop (f + c.length)
theorem lay_len {blk c : List Nat} {f : Nat} (h : f + c.length ≤ blk.length) : (lay blk c f).length = blk.length := by
  simp [lay]; omega
theorem lay_byte {blk c : List Nat} {f : Nat} (hb : Byte blk) (hc : Byte c) : Byte (lay blk c f) := ((hb.take f).app hc).app (hb.drop _)
theorem lay_lo {blk c : List Nat} {f i : Nat} (hf : f ≤ blk.length) (h : i < f) : (lay blk c f).getD i 0 = blk.getD i 0 := by
  unfold lay
  rw [List.append_assoc, getD_append_lt (by rw [List.length_take]; omega), getD_take h]
theorem lay_mid {blk c : List Nat} {f i : Nat} (hf : f ≤ blk.length) (h : f ≤ i) (h2 : i < f + c.length) : (lay blk c f).getD i 0 = c.getD (i - f) 0 := by
  unfold lay
  have e : (blk.take f).length = f := by rw [List.length_take]; omega
  rw [List.append_assoc, getD_append_ge (by omega), e, getD_append_lt (by omega)]
theorem Tail.part {bs blk c : List Nat} (h : Tail bs blk) (hc : Byte c) (hn : bs.length % 64 + c.length < 64) : Tail (bs ++ c) (lay blk c (bs.length % 64)) := by
  have hq : (bs ++ c).length / 64 = bs.length / 64 := by rw [List.length_append]; omega
  have hr : (bs ++ c).length % 64 = bs.length % 64 + c.length := by rw [List.length_append]; omega
  have hlen := h.len
  refine ⟨by rw [lay_len (by omega), hlen], lay_byte h.byte hc, fun i hi => ?_⟩
  rw [hq]
  rw [hr] at hi
  by_cases hlt : i < bs.length % 64
  · rw [lay_lo (by omega) hlt, h.same i hlt, getD_append_lt (by omega)]
  · rw [lay_mid (by omega) (by omega) hi, getD_append_ge (by omega)]
    congr 1; omega
theorem Tail.whole {bs blk c : List Nat} (h : Tail bs blk) (hn : bs.length % 64 + c.length = 64) :
    blocks (bs ++ c) ((bs ++ c).length / 64) = block (blocks bs (bs.length / 64)) (lay blk c (bs.length % 64)) ∧ (bs ++ c).length % 64 = 0 := by
  have hq : (bs ++ c).length / 64 = bs.length / 64 + 1 := by rw [List.length_append]; omega
  have hlen := h.len
  refine ⟨?_, by rw [List.length_append]; omega⟩
  rw [hq]
  show block (blocks (bs ++ c) (bs.length / 64)) _ = _
  rw [blocks_app bs c _ (by omega)]
  congr 1
  have hl : (bs ++ c).length = 64 * (bs.length / 64) + 64 := by rw [List.length_append]; omega
  refine ext_getD ?_ (fun i hi => ?_)
  · rw [List.length_take, List.length_drop, lay_len (by omega), hlen, hl]; omega
  · rw [List.length_take, List.length_drop, hl] at hi
    rw [getD_take (by omega), getD_drop]
    by_cases hlt : i < bs.length % 64
    · rw [lay_lo (by omega) hlt, h.same i hlt, getD_append_lt (by omega)]
    · rw [lay_mid (by omega) (by omega) (by omega), getD_append_ge (by omega)]
      congr 1; omega
theorem Tail.fresh {bs blk : List Nat} (hl : blk.length = 64) (hb : Byte blk) (h0 : bs.length % 64 = 0) : Tail bs blk := ⟨hl, hb, fun i hi => by omega⟩
theorem lay_nil (blk : List Nat) (f : Nat) : lay blk [] f = blk := by simp [lay]
theorem lay_snoc {blk c : List Nat} {f : Nat} (x : Nat) (h : f + c.length < blk.length) : (lay blk c f).set (f + c.length) x = lay blk (c ++ [x]) f := by
  unfold lay
  have e : (blk.take f ++ c).length = f + c.length := by rw [List.length_append, List.length_take]; omega
  rw [List.set_append_right _ _ (by omega), e, Nat.sub_self, List.drop_eq_getElem_cons h, List.set_cons_zero]
  simp [Nat.add_assoc]
theorem len8_len (n : Nat) : (len8 n).length = 8 := by simp [len8]
theorem len8_get (n k : Nat) (h : k < 8) : (len8 n).getD k 0 = 8 * n / 2^(8*(7-k)) % 256 := by simp [len8, List.getD, h]
theorem len8_byte (n : Nat) : Byte (len8 n) := fun i => by
  by_cases h : i < 8
  · rw [len8_get n i h]; exact Nat.mod_lt _ (by decide)
  · have e : (len8 n)[i]? = none := List.getElem?_eq_none (by rw [len8_len]; omega)
    simp [List.getD, e]
theorem take_snoc {l : List Nat} {k : Nat} (h : k < l.length) : l.take (k + 1) = l.take k ++ [l.getD k 0] := by
  rw [List.take_add_one]; simp [List.getD, h]
theorem Byte.zeros (n : Nat) : Byte (List.replicate n 0) := fun i => by
  rcases Nat.lt_or_ge i n with h | h
  · simp [List.getD, h]
  · simp [List.getD, h]
theorem Byte.one {x : Nat} (h : x < 256) : Byte [x] := fun i => by
  rcases i with _ | i
  · simpa using h
  · simp
/-- how many noughts come -/
def gap (n : Nat) : Nat := (119 - n % 64) % 64
def upTo (bs : List Nat) (z : Nat) : List Nat := bs ++ [128] ++ List.replicate z 0
theorem upTo_len (bs : List Nat) (z : Nat) : (upTo bs z).length = bs.length + 1 + z := by simp [upTo]; omega
theorem upTo_succ (bs : List Nat) (z : Nat) : upTo bs (z + 1) = upTo bs z ++ [0] := by
  simp [upTo, List.replicate_succ']
theorem sum_upTo {bs blk : List Nat} (h : Tail (upTo bs (gap bs.length)) blk) :
    sum bs = join (block (blocks (upTo bs (gap bs.length)) ((upTo bs (gap bs.length)).length / 64)) (lay blk (len8 bs.length) 56)) := by
  have h56 : (upTo bs (gap bs.length)).length % 64 = 56 := by rw [upTo_len]; unfold gap; omega
  have hw := (h.whole (c := len8 bs.length) (by rw [h56, len8_len])).1
  rw [h56] at hw
  rw [← hw]
  rfl
end Sha
end Go.Proofs.YtagplmlhpocbjaaDoor
