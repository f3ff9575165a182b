/- What a message's state is: plain mathematics. -/
import Derived.Test.YtjkneidoochfjaaGreatDoorMBases
import Derived.Deep.Matrix
import Derived.ChangeMaps5
import Derived.OpenShut
import Derived.RowKit
import Derived.Carry
import Derived.OrdersHeld
import Derived.Stop.BytesEq
import Derived.Laws.AppendOwn
import Derived.Deep.MidRow
import Derived.Laws.OwnMore
namespace Go.Proofs.YtjkneidoochfjaaGreatDoor
namespace Sha
theorem getD_take {l : List Nat} {n i : Nat} (h : i < n) : (l.take n).getD i 0 = l.getD i 0 := by
  simp [List.getD, h]
theorem getD_drop {l : List Nat} {n i : Nat} : (l.drop n).getD i 0 = l.getD (n + i) 0 := by
  simp [List.getD]
theorem ext_getD {a b : List Nat} (hl : a.length = b.length) (h : ∀ i, i < a.length → a.getD i 0 = b.getD i 0) : a = b := by
  apply List.ext_getElem hl
  intro i h1 h2
  have := h i h1
  simpa [List.getD, h1, h2] using this
theorem blocks_app (bs ps : List Nat) : ∀ n, 64 * n ≤ bs.length → blocks (bs ++ ps) n = blocks bs n
  | 0, _ => rfl
  | n + 1, h => by
    show block (blocks (bs ++ ps) n) (((bs ++ ps).drop (64*n)).take 64) = block (blocks bs n) ((bs.drop (64*n)).take 64)
    rw [blocks_app bs ps n (by omega)]
    congr 1
    rw [List.drop_append_of_le_length (by omega), List.take_append_of_le_length (by rw [List.length_drop]; omega)]
/-- the block's bytes in which the last ones of bs stand -/
structure Tail (bs blk : List Nat) : Prop where
  len : blk.length = 64
  byte : Byte blk
  same : ∀ i, i < bs.length % 64 → blk.getD i 0 = bs.getD (64 * (bs.length / 64) + i) 0
theorem Byte.nil : Byte [] := fun i => by simp
theorem Byte.app {a b : List Nat} (ha : Byte a) (hb : Byte b) : Byte (a ++ b) := fun i => by
  by_cases h : i < a.length
  · rw [getD_append_lt h]; exact ha i
  · rw [getD_append_ge (by omega)]; exact hb _
theorem Byte.take {a : List Nat} (ha : Byte a) (n : Nat) : Byte (a.take n) := fun i => by
  by_cases h : i < n
  · rw [getD_take h]; exact ha i
  · have e : (a.take n)[i]? = none := List.getElem?_eq_none (by rw [List.length_take]; omega)
    simp [List.getD, e]
theorem Byte.drop {a : List Nat} (ha : Byte a) (n : Nat) : Byte (a.drop n) := fun i => by rw [getD_drop]; exact ha _
/-- a chunk is laid behind them -/
def lay (blk c : List Nat) (f : Nat) : List Nat := blk.take f ++ c ++ blk.drop (f + c.length)
theorem lay_len {blk c : List Nat} {f : Nat} (h : f + c.length ≤ blk.length) : (lay blk c f).length = blk.length := by
  simp [lay]; omega
theorem lay_byte {blk c : List Nat} {f : Nat} (hb : Byte blk) (hc : Byte c) : Byte (lay blk c f) := ((hb.take f).app hc).app (hb.drop _)
theorem lay_lo {blk c : List Nat} {f i : Nat} (hf : f ≤ blk.length) (h : i < f) : (lay blk c f).getD i 0 = blk.getD i 0 := by
  unfold lay
  rw [List.append_assoc, getD_append_lt (by rw [List.length_take]; omega), getD_take h]
theorem lay_mid {blk c : List Nat} {f i : Nat} (hf : f ≤ blk.length) (h : f ≤ i) (h2 : i < f + c.length) : (lay blk c f).getD i 0 = c.getD (i - f) 0 := by
  unfold lay
  have e : (blk.take f).length = f := by rw [List.length_take]; omega
  rw [List.append_assoc, getD_append_ge (by omega), e, getD_append_lt (by omega)]
theorem Tail.part {bs blk c : List Nat} (h : Tail bs blk) (hc : Byte c) (hn : bs.length % 64 + c.length < 64) : Tail (bs ++ c) (lay blk c (bs.length % 64)) := by
  have hq : (bs ++ c).length / 64 = bs.length / 64 := by rw [List.length_append]; omega
  have hr : (bs ++ c).length % 64 = bs.length % 64 + c.length := by rw [List.length_append]; omega
  have hlen := h.len
  refine ⟨by rw [lay_len (by omega), hlen], lay_byte h.byte hc, fun i hi => ?_⟩
  rw [hq]
  rw [hr] at hi
  by_cases hlt : i < bs.length % 64
  · rw [lay_lo (by omega) hlt, h.same i hlt, getD_append_lt (by omega)]
  · rw [lay_mid (by omega) (by omega) hi, getD_append_ge (by omega)]
    congr 1; omega
theorem Tail.whole {bs blk c : List Nat} (h : Tail bs blk) (hn : bs.length % 64 + c.length = 64) :
    blocks (bs ++ c) ((bs ++ c).length / 64) = block (blocks bs (bs.length / 64)) (lay blk c (bs.length % 64)) ∧ (bs ++ c).length % 64 = 0 := by
  have hq : (bs ++ c).length / 64 = bs.length / 64 + 1 := by rw [List.length_append]; omega
  have hlen := h.len
  refine ⟨?_, by rw [List.length_append]; omega⟩
  rw [hq]
  show block (blocks (bs ++ c) (bs.length / 64)) _ = _
  rw [blocks_app bs c _ (by omega)]
  congr 1
  have hl : (bs ++ c).length = 64 * (bs.length / 64) + 64 := by rw [List.length_append]; omega
  refine ext_getD ?_ (fun i hi => ?_)
  · rw [List.length_take, List.length_drop, lay_len (by omega), hlen, hl]; omega
  · rw [List.length_take, List.length_drop, hl] at hi
    rw [getD_take (by omega), getD_drop]
    by_cases hlt : i < bs.length % 64
    · rw [lay_lo (by omega) hlt, h.same i hlt, getD_append_lt (by omega)]
    · rw [lay_mid (by omega) (by omega) (by omega), getD_append_ge (by omega)]
      congr 1; omega
theorem Tail.fresh {bs blk : List Nat} (hl : blk.length = 64) (hb : Byte blk) (h0 : bs.length % 64 = 0) : Tail bs blk := ⟨hl, hb, fun i hi => by omega⟩
theorem take_snoc {l : List Nat} {k : Nat} (h : k < l.length) : l.take (k + 1) = l.take k ++ [l.getD k 0] := by
  rw [List.take_add_one]; simp [List.getD, h]
theorem Byte.one {x : Nat} (h : x < 256) : Byte [x] := fun i => by
  rcases i with _ | i
  · simpa using h
  · simp
end Sha
end Go.Proofs.YtjkneidoochfjaaGreatDoor
/- Bytes that a slice value holds. -/
namespace Go.Proofs.YtjkneidoochfjaaGreatDoor
open Go Go.RowKit
/-- Bytes that a slice value holds, outside block p. -/
def RdB (w : World) (p : Nat) (v : Value) (xs : List Nat) : Prop :=
  ∃ A c, v = .slice A xs.length c ∧ xs.length ≤ c ∧ (0 < xs.length → ∃ b o, A = some ⟨b, o, none⟩ ∧ b ≠ p ∧ b < w.heap.size ∧ ∀ i, i < xs.length → w.cell? ⟨b, o + i, none⟩ = some (.int .u8 ((xs.getD i 0 : Nat) : Int)))
theorem RdB.only {w w' : World} {p : Nat} {v : Value} {xs : List Nat} (h : RdB w p v xs) (k : w.grownBy w' (some p)) : RdB w' p v xs := by
  obtain ⟨A, c, hv, hc, hA⟩ := h
  refine ⟨A, c, hv, hc, fun h0 => ?_⟩
  obtain ⟨b, o, ha, hb, hl, hx⟩ := hA h0
  exact ⟨b, o, ha, hb, Nat.lt_of_lt_of_le hl k.size, fun i hi => k.cell (hx i hi) (fun e => hb (by injection e))⟩
/-- what a cut leaves -/
theorem RdB.cut {w : World} {p : Nat} {A : Option Addr} {n c : Nat} {xs : List Nat} (h : RdB w p (.slice A n c) xs) {k : Nat} (hk : k ≤ xs.length) :
    RdB w p (.slice (if c = k then A else A.map (·.add k)) (n - k) (c - k)) (xs.drop k) := by
  obtain ⟨A', c', hv, hc, hA⟩ := h
  injection hv with e1 e2 e3
  subst e1 e2 e3
  refine ⟨_, _, by rw [List.length_drop], by rw [List.length_drop]; omega, fun h0 => ?_⟩
  rw [List.length_drop] at h0
  obtain ⟨b, o, ha, hb, hl, hx⟩ := hA (by omega)
  refine ⟨b, o + k, ?_, hb, hl, fun i hi => ?_⟩
  · rw [if_neg (by omega), ha]
    show some ((⟨b, o, none⟩ : Addr).add k) = _
    rw [Addr.add_mid]
  · rw [List.length_drop] at hi
    rw [Nat.add_assoc, hx (k + i) (by omega), Sha.getD_drop]
/-- Bytes that a slice value holds. -/
def Rd (w : World) (v : Value) (xs : List Nat) : Prop :=
  ∃ A c, v = .slice A xs.length c ∧ xs.length ≤ c ∧ (0 < xs.length → ∃ b o, A = some ⟨b, o, none⟩ ∧ b < w.heap.size ∧ ∀ i, i < xs.length → w.cell? ⟨b, o + i, none⟩ = some (.int .u8 ((xs.getD i 0 : Nat) : Int)))
theorem Rd.below {w w' : World} {v : Value} {xs : List Nat} (h : Rd w v xs) {B : Nat} (hb : Below B w w') (hB : w.heap.size ≤ B) : Rd w' v xs := by
  obtain ⟨A, c, hv, hc, hA⟩ := h
  refine ⟨A, c, hv, hc, fun h0 => ?_⟩
  obtain ⟨b, o, ha, hl, hx⟩ := hA h0
  have := hb.size
  exact ⟨b, o, ha, by omega, fun i hi => (hb.cell (p := ⟨b, o + i, none⟩) (by show b < B; omega)).trans (hx i hi)⟩
theorem Rd.out {w : World} {v : Value} {xs : List Nat} (h : Rd w v xs) {p : Nat} (hp : w.heap.size ≤ p) : RdB w p v xs := by
  obtain ⟨A, c, hv, hc, hA⟩ := h
  refine ⟨A, c, hv, hc, fun h0 => ?_⟩
  obtain ⟨b, o, ha, hl, hx⟩ := hA h0
  exact ⟨b, o, ha, by omega, hl, hx⟩
/-- A slice of such slices: vs are its cells. -/
def RdL (w : World) (v : Value) (vs : List Value) : Prop :=
  ∃ A c, v = .slice A vs.length c ∧ vs.length ≤ c ∧ (0 < vs.length → ∃ b o, A = some ⟨b, o, none⟩ ∧ b < w.heap.size ∧ ∀ i u, vs[i]? = some u → w.cell? ⟨b, o + i, none⟩ = some u)
end Go.Proofs.YtjkneidoochfjaaGreatDoor
/- Arguments of laws, opened: slices of bytes. -/
namespace Go.Proofs.YtjkneidoochfjaaGreatDoor
open Go Go.RowKit Go.WideShapes Go.ChangeShapes Go.Deep
section
variable {H : Type} {enc : TypeId × Value → H} {P : Program} {W : World} {held : Bool} {t e q : TypeId}
theorem spot_free {w : World} {b o : Nat} {s : Option Nat} {v : Value} (h : w.cell? ⟨b, o, s⟩ = some v) : s = none := by
  cases s with
  | none => rfl
  | some k =>
    exfalso
    unfold World.cell? at h
    split at h <;> simp_all
theorem u8_nat {n : Int} (h : (Lit.int .u8 n).wf = true) : ((n.toNat : Nat) : Int) = n ∧ n.toNat < 256 := by
  have h2 : (decide (IntKind.u8.min ≤ n) && decide (n ≤ IntKind.u8.max)) = true := h
  rw [Bool.and_eq_true, decide_eq_true_eq, decide_eq_true_eq] at h2
  have h3 : (0 : Int) ≤ n ∧ n ≤ 255 := h2
  omega
theorem slice_cells (ht : P.underlying t = some (.slice e)) {r : Reach} {b0 : Nat} {v : Value} (hval : Value.okWide P W r b0 t v) : v.cells.toList = [v] := by
  simp only [Value.okWide, ht] at hval
  cases v <;> first | rfl | (simp [Cell.okWide, ht] at hval; done) | (exfalso; simp_all [Cell.okWide, Cell.ok])
/-- bytes that are read, in a cell -/
theorem rd_of_ints {fuel : Nat} {v : Value} {x : DataW H × List MemPlace} (ht : P.underlying t = some (.slice e)) (he : P.underlying e = some (.int .u8)) (hc : P.cellsOf e = 1)
    (h : DataW.trod enc P W 0 (fun _ => true) held fuel t [v] = some x) : ∃ xs : List Nat, Rd W v xs ∧ Sha.Byte xs ∧ xs.length ≤ maxLen := by
  rcases open_ints ht he hc h with ⟨h0, _⟩ | ⟨a, len, cap, zs, h0, _, hl, hm, hz, _, hx, hw⟩
  · obtain rfl : v = .slice none 0 0 := by simpa using h0
    exact ⟨[], ⟨none, 0, rfl, Nat.le_refl _, fun h => absurd h (by simp)⟩, fun i => by simp, Nat.zero_le _⟩
  · obtain rfl : v = .slice (some a) len cap := by simpa using h0
    simp only [if_true] at hz
    have hl1 : ((zs.take len).map Int.toNat).length = len := by rw [List.length_map, List.length_take]; omega
    have hget : ∀ i, i < len → (((zs.getD i 0).toNat : Nat) : Int) = zs.getD i 0 ∧ (zs.getD i 0).toNat < 256 ∧ ((zs.take len).map Int.toNat).getD i 0 = (zs.getD i 0).toNat := fun i hi => by
      have hiz : i < zs.length := by omega
      have e1 : zs.getD i 0 = zs[i] := by rw [List.getD_eq_getElem?_getD, List.getElem?_eq_getElem hiz]; rfl
      obtain ⟨g1, g2⟩ := u8_nat (hw _ (List.getElem_mem hiz))
      refine ⟨by rw [e1]; exact g1, by rw [e1]; exact g2, ?_⟩
      rw [List.getD_eq_getElem?_getD, List.getElem?_map, List.getElem?_take_of_lt hi, List.getElem?_eq_getElem hiz, e1]; rfl
    refine ⟨(zs.take len).map Int.toNat, ⟨some a, cap, by rw [hl1], by rw [hl1]; exact hl, fun h0 => ?_⟩, fun i => ?_, by rw [hl1]; omega⟩
    · rw [hl1] at h0
      obtain ⟨b, o, s⟩ := a
      have hc0 := hx 0 (by omega)
      rw [show (⟨b, o, s⟩ : Addr).add 0 = ⟨b, o, s⟩ from by simp [Addr.add]] at hc0
      obtain rfl := spot_free hc0
      refine ⟨b, o, rfl, block_lt_of_cell hc0, fun i hi => ?_⟩
      rw [hl1] at hi
      have e1 := hx i (by omega)
      rw [show (⟨b, o, none⟩ : Addr).add i = ⟨b, o + i, none⟩ from by simp [Addr.add]] at e1
      obtain ⟨g1, _, g3⟩ := hget i hi
      rw [e1, g3, g1]
    · by_cases hi : i < len
      · obtain ⟨_, g2, g3⟩ := hget i hi
        rw [g3]; exact g2
      · rw [List.getD_eq_getElem?_getD, List.getElem?_eq_none (by rw [hl1]; omega)]; decide
theorem open_u8s (ht : P.underlying t = some (.slice e)) (he : P.underlying e = some (.int .u8)) (hc : P.cellsOf e = 1) {r : Reach} {b0 : Nat} {v : Value} {d : DataW H} {ps : List MemPlace}
    (hval : Value.okWide P W r b0 t v) (hd : DataW.Trod enc P W 0 (fun _ => true) held t v d ps) : ∃ xs : List Nat, Rd W v xs ∧ Sha.Byte xs ∧ xs.length ≤ maxLen := by
  obtain ⟨fuel, hf⟩ := hd
  rw [slice_cells ht hval] at hf
  exact rd_of_ints ht he hc hf
end
end Go.Proofs.YtjkneidoochfjaaGreatDoor
/- Arguments of laws, opened: slices of slices of bytes. -/
namespace Go.Proofs.YtjkneidoochfjaaGreatDoor
open Go Go.RowKit Go.WideShapes Go.ChangeShapes Go.Deep
section
variable {H : Type} {enc : TypeId × Value → H} {P : Program} {W : World} {held : Bool} {t e q : TypeId}
theorem open_partsT (ht : P.underlying t = some (.slice e)) (he : P.underlying e = some (.slice q)) (hq : P.underlying q = some (.int .u8)) (ce : P.cellsOf e = 1) (cq : P.cellsOf q = 1) {fuel : Nat} {v : Value} {y : DataW H × List MemPlace}
    (hf : DataW.trod enc P W 0 (fun _ => true) held fuel t [v] = some y) :
    ∃ (vs : List Value) (pss : List (List Nat)), RdL W v vs ∧ pss.length = vs.length ∧ (∀ i u, vs[i]? = some u → Rd W u (pss.getD i [])) ∧ (∀ ps ∈ pss, Sha.Byte ps) ∧ vs.length ≤ maxLen ∧ ∀ ps ∈ pss, ps.length ≤ maxLen := by
  rcases open_int_rows ht he hq ce cq hf with ⟨hc, _⟩ | ⟨a, len, cap, A, L, C, Z, hc, _, hlc, hcm, _, hx⟩
  · obtain rfl : v = .slice none 0 0 := by simpa using hc
    exact ⟨[], [], ⟨none, 0, rfl, Nat.le_refl _, fun h => by simp at h⟩, rfl, fun i u h => by simp at h, fun ps h => by simp at h, Nat.zero_le _, fun ps h => by simp at h⟩
  · obtain rfl : v = .slice (some a) len cap := by simpa using hc
    have hvl : ((List.range len).map fun r => Value.slice (A r) (L r) (C r)).length = len := by simp
    have hpl : ((List.range len).map fun r => ((Z r).take (L r)).map Int.toNat).length = len := by simp
    have hzl : ∀ r, r < cap → (((Z r).take (L r)).map Int.toNat).length = L r := fun r hr => by
      obtain ⟨_, h1, _, h2, _⟩ := hx r hr
      rw [List.length_map, List.length_take]; omega
    have hget : ∀ r, r < cap → ∀ i, i < L r → (((Z r).getD i 0).toNat : Int) = (Z r).getD i 0 ∧ ((Z r).getD i 0).toNat < 256 ∧ (((Z r).take (L r)).map Int.toNat).getD i 0 = ((Z r).getD i 0).toNat := fun r hr i hi => by
      obtain ⟨_, h1, _, h2, h3, _⟩ := hx r hr
      have hiz : i < (Z r).length := by omega
      have e1 : (Z r).getD i 0 = (Z r)[i] := by rw [List.getD_eq_getElem?_getD, List.getElem?_eq_getElem hiz]; rfl
      obtain ⟨g1, g2⟩ := u8_nat (h3 _ (List.getElem_mem hiz))
      refine ⟨by rw [e1]; exact g1, by rw [e1]; exact g2, ?_⟩
      rw [List.getD_eq_getElem?_getD, List.getElem?_map, List.getElem?_take_of_lt hi, List.getElem?_eq_getElem hiz, e1]; rfl
    refine ⟨(List.range len).map fun r => .slice (A r) (L r) (C r), (List.range len).map fun r => ((Z r).take (L r)).map Int.toNat, ⟨some a, cap, by rw [hvl], by rw [hvl]; exact hlc, fun h0 => ?_⟩, by rw [hvl, hpl], fun i u hu => ?_, fun ps hp => ?_, by rw [hvl]; omega, fun ps hp => ?_⟩
    · rw [hvl] at h0
      obtain ⟨b, o, s⟩ := a
      have hc0 := (hx 0 (by omega)).1
      rw [show (⟨b, o, s⟩ : Addr).add 0 = ⟨b, o, s⟩ from by simp [Addr.add]] at hc0
      obtain rfl := spot_free hc0
      refine ⟨b, o, rfl, block_lt_of_cell hc0, fun i u hu => ?_⟩
      have hi : i < len := by have := (List.getElem?_eq_some_iff.1 hu).1; rwa [hvl] at this
      have e1 := (hx i (by omega)).1
      rw [show (⟨b, o, none⟩ : Addr).add i = ⟨b, o + i, none⟩ from by simp [Addr.add]] at e1
      rw [e1, ← hu, List.getElem?_map, List.getElem?_range hi]; rfl
    · have hi : i < len := by have := (List.getElem?_eq_some_iff.1 hu).1; rwa [hvl] at this
      rw [List.getElem?_map, List.getElem?_range hi] at hu
      cases hu
      have hpi : ((List.range len).map fun r => ((Z r).take (L r)).map Int.toNat).getD i [] = ((Z i).take (L i)).map Int.toNat := by
        rw [List.getD_eq_getElem?_getD, List.getElem?_map, List.getElem?_range hi]; rfl
      rw [hpi]
      obtain ⟨_, h1, h2, h3, _, h5, h6⟩ := hx i (by omega)
      refine ⟨A i, C i, by rw [hzl i (by omega)], by rw [hzl i (by omega)]; exact h1, fun h0 => ?_⟩
      rw [hzl i (by omega)] at h0
      cases hA : A i with
      | none => have := h5 hA; omega
      | some a' =>
        obtain ⟨b, o, s⟩ := a'
        obtain ⟨_, h7⟩ := h6 _ hA
        have hc0 := h7 0 (by omega)
        rw [show (⟨b, o, s⟩ : Addr).add 0 = ⟨b, o, s⟩ from by simp [Addr.add]] at hc0
        obtain rfl := spot_free hc0
        refine ⟨b, o, rfl, block_lt_of_cell hc0, fun j hj => ?_⟩
        rw [hzl i (by omega)] at hj
        have e1 := h7 j (by omega)
        rw [show (⟨b, o, none⟩ : Addr).add j = ⟨b, o + j, none⟩ from by simp [Addr.add]] at e1
        obtain ⟨g1, _, g3⟩ := hget i (by omega) j hj
        rw [e1, g3, g1]
    · obtain ⟨r, hr, rfl⟩ := List.mem_map.1 hp
      have hr' := List.mem_range.1 hr
      intro i
      by_cases hi : i < L r
      · obtain ⟨_, g2, g3⟩ := hget r (by omega) i hi
        rw [g3]; exact g2
      · rw [List.getD_eq_getElem?_getD, List.getElem?_eq_none (by rw [hzl r (by omega)]; omega)]; decide
    · obtain ⟨r, hr, rfl⟩ := List.mem_map.1 hp
      have hr' := List.mem_range.1 hr
      obtain ⟨_, h1, h2, _⟩ := hx r (by omega)
      rw [hzl r (by omega)]; omega
end
end Go.Proofs.YtjkneidoochfjaaGreatDoor
/- Arguments of laws, opened: arrays of bytes, texts. -/
namespace Go.Proofs.YtjkneidoochfjaaGreatDoor
open Go Go.RowKit Go.WideShapes Go.ChangeShapes
section
variable {H : Type} {enc : TypeId × Value → H} {P : Program} {W : World} {base : Nat} {sp : Nat → Bool} {held : Bool} {t e : TypeId} {n : Nat}
theorem byte_wf {x : Int} (h : (Lit.int .u8 x).wf = true) : 0 ≤ x ∧ x < 256 := by
  have h1 : IntKind.u8.min = 0 := rfl
  have h2 : IntKind.u8.max = 255 := rfl
  simp only [Lit.wf, Bool.and_eq_true, decide_eq_true_eq] at h
  omega
theorem mapM_u8 (he : P.underlying e = some (.int .u8)) {m c : Nat} {cs : List Value} : ∀ (L : List Nat) (xs : List (DataW H × List MemPlace)),
    L.mapM (fun i => DataW.trod enc P W base sp held m e ((cs.drop (i * c)).take c)) = some xs → ∀ i ∈ L, ∃ a : Nat, a < 256 ∧ (cs.drop (i * c)).take c = [.int .u8 (a : Int)]
  | [], _, _, i, hi => by simp at hi
  | j :: L, xs, h, i, hi => by
    rw [List.mapM_cons] at h
    simp only [bind, Option.bind_eq_some_iff, pure, Option.some.injEq] at h
    obtain ⟨y, hy, ys, hys, rfl⟩ := h
    rcases List.mem_cons.1 hi with rfl | hi
    · obtain ⟨a, ea, rfl, wa⟩ := DataW.trod_int he hy
      have hb := byte_wf wa
      obtain ⟨n, rfl⟩ := Int.eq_ofNat_of_zero_le hb.1
      exact ⟨n, by have := hb.2; omega, ea⟩
    · exact mapM_u8 he L ys hys i hi
end
end Go.Proofs.YtjkneidoochfjaaGreatDoor
/- A goal set aside: the walk stands still at it. -/
namespace Go.Proofs.YtjkneidoochfjaaGreatDoor
/-- A walk rests here. -/
def Paused (p : Prop) : Prop := p
theorem pause {p : Prop} (h : Paused p) : p := h
end Go.Proofs.YtjkneidoochfjaaGreatDoor
/- Words for regions that draw their order and hold loads of whole arrays beside calls that make memory; arrays of bytes compared. -/
namespace Go.Proofs.YtjkneidoochfjaaGreatDoor
open Go Go.RowKit
/-- In each world that S allows, the row stands. -/
theorem takes_row {P : Program} {ops : Array Oper} {S : World → Prop} {o : Oper} {a : Act} (ty : TypeId) (x : Operand) (ho : o.op = .load ty x) (hw : Region.wanted o (yielded ops a.tmps) = true)
    (g : Nat) (hx : a.eval x = .pointer (some ⟨g, 0, none⟩)) (t : TypeId) (cs : Array Value) (d : TypeDesc) (hg : ∀ w, S w → Blk w g t cs)
    (hu : P.underlying ty = some d) (hd : (match d with | .struct _ | .array _ _ => true | _ => false) = true) (hi : (P.info? ty).map (·.size) = some cs.size) : YieldsIf P ops S o (.agg cs) a :=
  Or.inl ⟨hw, fun w h => by
    unfold execOp
    simp only [ho, hx, Instr.loadAt, Instr.sureAddr, Sem.run_bind, Sem.run_pure, Result.andThen_ok, run_loadVar_row w g t ty cs (0, 0) d (hg w h) hu hd hi]⟩
/-- A load of a whole row in a region that keeps its order, whatever its guard, if it is carried out. -/
theorem wpList_row_w {P : Program} {ops : Array Oper} {rest : List Oper} {o : Oper} {a : Act} {w : World} {Q : Exit → Act → World → Prop} (hw : Region.wanted o (yielded ops a.tmps) = true) (ty : TypeId) (x : Operand) (ho : o.op = .load ty x)
    (g : Nat) (hx : a.eval x = .pointer (some ⟨g, 0, none⟩)) (t : TypeId) (cs : Array Value) (d : TypeDesc) (hg : Blk w g t cs)
    (hu : P.underlying ty = some d) (hd : (match d with | .struct _ | .array _ _ => true | _ => false) = true) (hi : (P.info? ty).map (·.size) = some cs.size)
    (h : wpList P ops Q rest (a.put o.dst (.agg cs)) w) : wpList P ops Q (o :: rest) a w :=
  wpList_step fun K hK => by
    simp only [hw, if_true]
    exact wp_load_row ty x ho g hx t cs (0, 0) d hg hu hd hi (hK _ _ h)
theorem all_one {P : Program} {md : Region.Mode} {ops : Array Oper} {Q : Exit → Act → World → Prop} {S : World → Prop} {i : Nat} {oi : Oper} {fuel : Nat} {listed : Array Bool} {a : Act} {w : World}
    (hr : Region.ready md ops listed = [i]) (hi : ops[i]? = some oi) (wi : Region.wanted oi (yielded ops a.tmps) = true)
    (h1 : ∀ K : Act → World → Prop, (∀ a' w', S w' → wpAnyH P md ops Q S fuel (listed.setIfInBounds i true) a' w' → K a' w') → oi.wp P a w K Q) : wpAnyH P md ops Q S (fuel + 1) listed a w := by
  refine wpAnyH_all hr (by simp) fun k hk => ?_
  obtain rfl := List.mem_singleton.1 hk
  unfold wpOp
  simp only [hi, wi, if_true]
  exact Or.inl (h1 (fun a' w' => S w' ∧ wpAnyH P md ops Q S fuel (listed.setIfInBounds k true) a' w') fun _ _ hs hh => ⟨hs, hh⟩)
/-! arrays of bytes compared -/
theorem u8s_cell (xs : List Nat) (hb : Sha.Byte xs) : u8s xs = ((xs.map UInt8.ofNat).map Extern.Stop.cell).toArray := by
  unfold u8s
  congr 1
  rw [List.map_map]
  apply List.map_congr_left
  intro x hx
  obtain ⟨i, hi, rfl⟩ := List.mem_iff_getElem.1 hx
  have h : xs[i] < 256 := by have := hb i; simpa [List.getD, hi] using this
  simp [Extern.Stop.cell, Nat.mod_eq_of_lt h]
theorem ofNat_inj : ∀ (xs ys : List Nat), Sha.Byte xs → Sha.Byte ys → (xs.map UInt8.ofNat == ys.map UInt8.ofNat) = (xs == ys)
  | [], [], _, _ => rfl
  | [], _ :: _, _, _ => rfl
  | _ :: _, [], _, _ => rfl
  | x :: xs, y :: ys, hx, hy => by
    have ih := ofNat_inj xs ys (fun i => by simpa using hx (i + 1)) (fun i => by simpa using hy (i + 1))
    have h1 : x < 256 := by simpa using hx 0
    have h2 : y < 256 := by simpa using hy 0
    rw [List.map_cons, List.map_cons, List.cons_beq_cons, List.cons_beq_cons, ih]
    congr 1
    rw [Bool.eq_iff_iff]
    simp only [beq_iff_eq, ← UInt8.toNat_inj]
    simp [Nat.mod_eq_of_lt h1, Nat.mod_eq_of_lt h2]
theorem run_equalIn_u8s {P : Program} (w : World) (t e : TypeId) (n : Nat) (ht : P.underlying t = some (.array n e)) (he : P.underlying e = some (.int .u8)) (hsz : ∀ w, (sizeOf e).run P w = .ok 1 w)
    (xs ys : List Nat) (hx : xs.length = n) (hy : ys.length = n) (hbx : Sha.Byte xs) (hby : Sha.Byte ys) :
    (Op.equalIn 10000 t (.agg (u8s xs)) (.agg (u8s ys))).run P w = .ok (xs == ys) w := by
  rw [u8s_cell xs hbx, u8s_cell ys hby, ← ofNat_inj xs ys hbx hby]
  exact run_equalIn_bytes w 9998 t e n ht he hsz (xs.map UInt8.ofNat) (ys.map UInt8.ofNat) (by rw [List.length_map, hx]) (by rw [List.length_map, hy])
end Go.Proofs.YtjkneidoochfjaaGreatDoor
/- Rows of bytes of the call's own: append, what a slice holds, bytes as a text. -/
namespace Go.Proofs.YtjkneidoochfjaaGreatDoor
open Go Go.RowKit
def cellsB (x : List Nat) : List Value := x.map fun (n : Nat) => Value.int .u8 (n : Int)
theorem cellsB_len (x : List Nat) : (cellsB x).length = x.length := by simp [cellsB]
theorem cellsB_one (x : List Nat) : ∀ v ∈ cellsB x, v.oneCell' = true := by
  intro v hv
  obtain ⟨n, _, rfl⟩ := List.mem_map.1 hv
  rfl
theorem cellsB_get {x : List Nat} {i : Nat} (h : i < x.length) : (cellsB x)[i]? = some (.int .u8 ((x.getD i 0 : Nat) : Int)) := by
  simp [cellsB, List.getD, h]
theorem byte_info : (Tryz.prog.info? 5).map (fun i => (i.zero, i.size, i.bytes)) = some (some (.int .u8 0), 1, 1) := by kernel_rfl
/-- append of bytes, wherever they come from, onto a row of the call's own -/
theorem wpList_appendB {ops : Array Oper} {rest : List Oper} {o : Oper} {a : Act} {w : World} {Q : Exit → Act → World → Prop} (hgd : o.guard = none) (s x : Operand)
    (ho : o.op = .call { callee := .builtin .append, args := #[s, x], argTypes := #[32, 32] }) (base : Nat) (v : Value) (ys : List Nat) (hs : a.eval s = v) (hown : w.ownsRow base 5 1 v ys.length (cellsB ys)) (hbase : base ≤ w.heap.size)
    (u : Value) (hx : a.eval x = u) (xs : List Nat) (hu : Rd w u xs) (hz : ys.length + xs.length ≤ 70368744177664)
    (h : ∀ v' w', w'.ownsRow base 5 1 v' (ys ++ xs).length (cellsB (ys ++ xs)) → w.grownBy w' v.ownBlock → wpList Tryz.prog ops Q rest (a.put o.dst v') w') : wpList Tryz.prog ops Q (o :: rest) a w := by
  obtain ⟨i0, hi0, hiz, his, hib⟩ := info_parts byte_info
  obtain ⟨A, c, rfl, hc, hA⟩ := hu
  have e0 : cellsB ys ++ cellsB xs = cellsB (ys ++ xs) := by simp [cellsB]
  cases A with
  | some ad =>
    refine wpList_append_own w hgd s x 32 ho base 5 i0 _ 1 1 Tryz.underlying32 hi0 hiz his hib rfl (by decide) v ys.length (cellsB ys) hs hown ad xs.length c (cellsB xs) hx (by rw [cellsB_len, Nat.mul_one]) ?_ (cellsB_one _) (by unfold maxLen; omega) (by omega) hbase ?_
    · intro j t hj
      have hjl : j < xs.length := by have := (List.getElem?_eq_some_iff.1 hj).1; rwa [cellsB_len] at this
      obtain ⟨b, o', ha, _, hxx⟩ := hA (by omega)
      obtain rfl := Option.some.inj ha
      rw [cellsB_get hjl] at hj
      rw [Addr.add_mid, hxx j hjl, hj]
    · intro v' w' h1 h2 _
      rw [e0, ← List.length_append] at h1
      exact h v' w' h1 h2
  | none =>
    have hn : xs.length = 0 := by
      rcases Nat.eq_zero_or_pos xs.length with h0 | h0
      · exact h0
      · obtain ⟨b, o', ha, _⟩ := hA h0
        cases ha
    have e : xs = [] := List.eq_nil_of_length_eq_zero hn
    subst e
    refine wpList_plain hgd fun K hK => ?_
    have hrun : ∀ ty, (Builtin.append_ #[32, 32] ty #[v, .slice none 0 c]).run Tryz.prog w = .ok v w := fun ty => by
      rcases hown.2 with ⟨hv, hn0⟩ | ⟨g, cap, cur, hv, _, _, hnc, _⟩
      · rw [hv]
        simp [Builtin.append_, run_underlying Tryz.underlying32, sizeOf, typeInfo, hi0, Builtin.lenOf, Builtin.firstCells]
      · rw [hv]
        simp [Builtin.append_, run_underlying Tryz.underlying32, sizeOf, typeInfo, hi0, Builtin.lenOf, Builtin.firstCells, hnc, storeCells]
    unfold Oper.wp execOp
    simp only [ho, resolve, invoke, builtin, Sem.run_bind, Sem.run_pure, Result.andThen_ok, List.map_toArray, List.map_cons, List.map_nil, hs, hx]
    rw [show ([] : List Nat).length = 0 from rfl, hrun]
    exact hK _ _ (h _ _ (by rw [List.append_nil]; exact hown) (World.grownBy.refl w _))
theorem ownsRow_alloc {w : World} {base : Nat} {e : TypeId} {size n : Nat} {v : Value} {xs : List Value} (h : w.ownsRow base e size v n xs) (o : Obj) : (w.alloc o).ownsRow base e size v n xs := by
  refine ⟨h.1, ?_⟩
  rcases h.2 with hn | ⟨g, cap, cur, rfl, hb, hgg, hr⟩
  · exact .inl hn
  · exact .inr ⟨g, cap, cur, rfl, hb, by rw [heap_alloc_old _ _ (Array.getElem?_eq_some_iff.1 hgg).1]; exact hgg, hr⟩
theorem rd_of_lit (w : World) (l : List Nat) (t : TypeId) (_h0 : 0 < l.length) : Rd (w.alloc (.cells (u8s l) t)) (.slice (some ⟨w.heap.size, 0, none⟩) l.length l.length) l := by
  have hB : Blk (w.alloc (.cells (u8s l) t)) w.heap.size t (u8s l) := Blk.new w _ _
  refine ⟨_, _, rfl, Nat.le_refl _, fun _ => ⟨w.heap.size, 0, rfl, hB.lt, fun i hi => ?_⟩⟩
  rw [Nat.zero_add, hB.cell i, u8s_get _ _ hi]
theorem rd_alloc {w : World} {v : Value} {xs : List Nat} (h : Rd w v xs) (o : Obj) : Rd (w.alloc o) v xs := h.below ((Below.refl _ _).alloc (Nat.le_refl _) _) (Nat.le_refl _)
theorem below_own {a b c : World} {base size n : Nat} {e : TypeId} {v : Value} {xs : List Value} (h : Below a.heap.size a b) (ho : b.ownsRow base e size v n xs) (hb : a.heap.size ≤ base) (k : b.grownBy c v.ownBlock) : Below a.heap.size a c := by
  cases hv : v.ownBlock with
  | none =>
    rw [hv] at k
    exact ⟨k.os.trans h.os, k.tape.trans h.tape, k.output.trans h.output, Nat.le_trans h.size k.size, fun i hi => (k.block i (Nat.lt_of_lt_of_le hi h.size) (by simp)).trans (h.block i hi)⟩
  | some g =>
    rw [hv] at k
    exact below_of_only h k (Nat.le_trans hb (ho.lt g hv).1)
theorem takes_conv {P : Program} {ops : Array Oper} {S : World → Prop} {o : Oper} {a : Act} (s d : TypeId) (x : Operand) (ho : o.op = .convert s d x) (hw : Region.wanted o (yielded ops a.tmps) = true) (v u : Value) (hx : a.eval x = v)
    (hS : ∀ w, S w → (convert s d v).run P w = .ok u w) : YieldsIf P ops S o u a :=
  Or.inl ⟨hw, fun w h => by
    have hk := hS w h
    unfold execOp
    simp [ho, hx, hk]⟩
theorem conv_rd {w : World} {v : Value} {xs : List Nat} (h : Rd w v xs) : (convert 32 9 v).run Tryz.prog w = .ok (.string (textOf xs)) w := by
  obtain ⟨A, c, rfl, hc, hA⟩ := h
  rcases Nat.eq_zero_or_pos xs.length with h0 | h0
  · have e : xs = [] := List.eq_nil_of_length_eq_zero h0
    subst e
    cases A with
    | none => exact run_convert_bytes_nil w 32 5 Tryz.underlying32 Tryz.underlying5 0 c 9 Tryz.underlying9
    | some a =>
      have hl : (loadCells a 0).run Tryz.prog w = .ok #[] w := by simpa using run_loadCells_list (P := Tryz.prog) w a [] (by simp)
      rw [run_convert_bytes_string w 32 9 5 _ _ c Tryz.underlying32 Tryz.underlying5 Tryz.underlying9]
      simp [Conv.bytesToString, hl, textOf]
      try rfl
  · obtain ⟨b, o, rfl, hb, hx⟩ := hA h0
    exact run_text w 32 9 5 Tryz.underlying32 Tryz.underlying5 Tryz.underlying9 b o xs.length c xs rfl hx
theorem rd_of_own {w : World} {base n : Nat} {v : Value} {l : List Nat} (h : w.ownsRow base 5 1 v n (cellsB l)) (hn : n = l.length) : Rd w v l := by
  subst hn
  rcases h.2 with ⟨rfl, h0⟩ | ⟨g, cap, cur, rfl, _, hh, hcap, _, hcs, hxs⟩
  · exact ⟨none, 0, by rw [h0], by omega, fun h1 => by omega⟩
  · refine ⟨_, _, rfl, hcap, fun _ => ⟨g, 0, rfl, (Array.getElem?_eq_some_iff.1 hh).1, fun i hi => ?_⟩⟩
    rw [Nat.zero_add, cell_of_row _ _ _ _ _ _ hh]
    have h := congrArg (·[i]?) hxs
    simp only [List.getElem?_take, if_pos (show i < l.length * 1 by omega)] at h
    rw [show cur[i]? = cur.toList[i]? by simp, h]
    exact cellsB_get hi
/-- what the padding's loops keep: the bytes so far are the call's own row -/
structure Pad (B : Nat) (w : World) (s : Value) (ys : List Nat) (wr : World) : Prop where
  own : wr.ownsRow B 5 1 s ys.length (cellsB ys)
  bel : Below B w wr
theorem below_ownB {a b c : World} {B size n : Nat} {e : TypeId} {v : Value} {xs : List Value} (hB : a.heap.size = B) (h : Below B a b) (ho : b.ownsRow B e size v n xs) (k : b.grownBy c v.ownBlock) : Below B a c := by
  subst hB
  exact below_own h ho (Nat.le_refl _) k
theorem Pad.len {B : Nat} {w : World} {s : Value} {ys : List Nat} {wr : World} (h : Pad B w s ys wr) : ∃ A c, s = .slice A ys.length c := by
  rcases h.own.2 with ⟨hv, hn⟩ | ⟨g, cap, cur, hv, _⟩
  · exact ⟨none, 0, by rw [hv, hn]⟩
  · exact ⟨_, cap, hv⟩
theorem Pad.rd {B : Nat} {w : World} {s : Value} {ys : List Nat} {wr : World} (h : Pad B w s ys wr) : Rd wr s ys := rd_of_own h.own rfl
end Go.Proofs.YtjkneidoochfjaaGreatDoor
