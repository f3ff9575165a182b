/- Words for slices of digests in memory: rows of 32 cells each; copy and clear of such slices. -/
import Derived.Test.YtmfdahigfnhidaaDoorSortMath
import Derived.Test.YtmfdahigfnhidaaDoorHeld
import Derived.Laws.IdiomCopy
import Derived.Deep.MidRow
namespace Go.Proofs.YtmfdahigfnhidaaDoor
open Go Go.RowKit
def cellsN (x : List Nat) : List Value := x.map fun (n : Nat) => Value.int .u8 (n : Int)
theorem cellsN_len (x : List Nat) : (cellsN x).length = x.length := by simp [cellsN]
theorem cellsN_arr (x : List Nat) : (cellsN x).toArray = u8s x := rfl
theorem cellsN_one (x : List Nat) : ∀ v ∈ cellsN x, v.oneCell' = true := by
  intro v hv
  obtain ⟨n, _, rfl⟩ := List.mem_map.1 hv
  rfl
/-- Block b holds these digests from its beginning on, and may be written there. -/
structure OidRow (w : World) (b : Nat) (l : List (List Nat)) : Prop where
  at_ : ∀ i, i < l.length → w.rangeAt b (32 * i) (cellsN (l.getD i []))
  room : w.there b 0 (32 * l.length)
theorem OidRow.drewN {w : World} {b : Nat} {l : List (List Nat)} (h : OidRow w b l) (n : Nat) : OidRow (w.drewN n) b l := ⟨h.at_, h.room⟩
theorem OidRow.lt {w : World} {b : Nat} {l : List (List Nat)} (h : OidRow w b l) (h0 : 0 < l.length) : b < w.heap.size := by
  obtain ⟨u, hu⟩ := Option.isSome_iff_exists.1 (h.room 0 (by omega)).1
  exact block_lt_of_cell hu
theorem OidRow.there {w : World} {b : Nat} {l : List (List Nat)} (h : OidRow w b l) {k : Nat} (hk : k < l.length) : w.there b (32 * k) 32 := fun j hj => by
  have := h.room (32 * k + j) (by omega)
  rwa [Nat.zero_add] at this
theorem OidRow.set {w : World} {b : Nat} {l : List (List Nat)} (h : OidRow w b l) (hl : Sha.Oids l) {k : Nat} (hk : k < l.length) {x : List Nat} (hx : x.length = 32) :
    OidRow (w.setCells b (32 * k) (cellsN x)) b (l.set k x) := by
  refine ⟨fun i hi => ?_, ?_⟩
  · rw [List.length_set] at hi
    by_cases e : i = k
    · subst e
      have e1 : (l.set i x).getD i [] = x := by simp [List.getD, hi]
      rw [e1]
      exact World.rangeAt_setCells_same w b (32 * i) _ (by rw [cellsN_len, hx]; exact h.there hi)
    · have e1 : (l.set k x).getD i [] = l.getD i [] := by simp [List.getD, List.getElem?_set, Ne.symm e]
      rw [e1]
      refine World.rangeAt_setCells_apart (h.at_ i hi) b (32 * k) _ (Or.inr ?_)
      rw [cellsN_len, cellsN_len, hx, (hl.getD hi).1]
      omega
  · rw [List.length_set]
    exact World.there_setCells h.room b _ _
theorem below_setCells {B b : Nat} {w0 : World} (hB : B ≤ b) : ∀ (vs : List Value) (o : Nat) (w : World), Below B w0 w → Below B w0 (w.setCells b o vs)
  | [], _, _, h => h
  | v :: r, o, w, h => below_setCells hB r (o + 1) _ (h.setCell (p := ⟨b, o, none⟩) hB v)
/-- copy of n elements of k cells each into cells that may be written -/
theorem run_copy_k {P : Program} (w : World) (dT sT ty elem : TypeId) (k n : Nat) (b o dCap : Nat) (a : Addr) (sCap : Nat) (cs : List Value)
    (hu : P.underlying dT = some (.slice elem)) (hs : (P.info? elem).map (·.size) = some k) (hn : cs.length = n * k)
    (hsrc : ∀ j v, cs[j]? = some v → w.cell? (a.add j) = some v) (ht : w.there b o cs.length) (h1 : ∀ v ∈ cs, v.oneCell' = true) :
    (Builtin.copy_ #[dT, sT] ty #[.slice (some ⟨b, o, none⟩) n dCap, .slice (some a) n sCap]).run P w = .ok (goInt n) (w.setCells b o cs) := by
  have hl := run_loadCells_list (P := P) w a cs hsrc
  have hst := run_storeCells_cells (P := P) b o cs 0 w (by simpa using fun j hj => (ht j hj).1) (by simpa using fun j hj => (ht j hj).2) h1
  cases hq : P.info? elem with
  | none => simp [hq] at hs
  | some i =>
    have hi : i.size = k := by simpa [hq] using hs
    rw [hn] at hl
    simp only [Nat.add_zero] at hst
    have hm : n.min n = n := Nat.min_self n
    simp [Builtin.copy_, run_underlying hu, Builtin.lenOf, Builtin.firstCells, sizeOf, typeInfo, hq, hi, hm, hl, hst]
/-- clear of n elements of k cells each -/
theorem run_clear_k {P : Program} (w : World) (t e ty : TypeId) (z : Value) (n : Nat) (b o c : Nat) (ht : P.underlying t = some (.slice e)) (hv : ∀ w, (zeroValue e).run P w = .ok z w) (h1 : ∀ v ∈ (Builtin.zeroCells z.cells n).toList, v.oneCell' = true)
    (hr : w.there b o (Builtin.zeroCells z.cells n).toList.length) (hn : 0 < n) :
    (Builtin.clear_ #[t] ty #[.slice (some ⟨b, o, none⟩) n c]).run P w = .ok (.tuple #[]) (w.setCells b o (Builtin.zeroCells z.cells n).toList) := by
  have hst := run_storeCells_cells (P := P) b o (Builtin.zeroCells z.cells n).toList 0 w (by simpa using fun j hj => (hr j (by simpa using hj)).1) (by simpa using fun j hj => (hr j (by simpa using hj)).2) h1
  simp only [Nat.add_zero] at hst
  obtain ⟨m, rfl⟩ : ∃ m, n = m + 1 := ⟨n - 1, by omega⟩
  simp [Builtin.clear_, run_underlying ht, hv, hst]
theorem run_clear_0 {P : Program} (w : World) (t e ty : TypeId) (A : Option Addr) (c : Nat) (ht : P.underlying t = some (.slice e)) :
    (Builtin.clear_ #[t] ty #[.slice A 0 c]).run P w = .ok (.tuple #[]) w := by
  cases A <;> simp [Builtin.clear_, run_underlying ht]
theorem run_sliceLo_k {P : Program} {t e : TypeId} {k : Nat} (ht : P.underlying t = some (.slice e)) (hi : (P.info? e).map (·.size) = some k) (b o len cap l : Nat) (h1 : l ≤ len) (h2 : l < cap)
    {lo : Int} (el : lo = l) (w : World) :
    (Instr.slice t (.slice (some ⟨b, o, none⟩) len cap) (some (.int .i64 lo)) none none).run P w = .ok (.slice (some ⟨b, o + k * l, none⟩) (len - l) (cap - l)) w := by
  subst el
  cases hq : P.info? e with
  | none => simp [hq] at hi
  | some i =>
    have hs : i.size = k := by simpa [hq] using hi
    have hn : ((l : Nat) : Int) ≤ len := by omega
    have hc : ¬ cap = l := by omega
    simp [Instr.slice, run_underlying ht, Instr.sliceBounds, run_sliceBound, sizeOf, typeInfo, hq, hs, hn, hc, Addr.add_mid, Nat.mul_comm]
theorem run_sliceHi_k {P : Program} {t e : TypeId} {k : Nat} (ht : P.underlying t = some (.slice e)) (hi : (P.info? e).map (·.size) = some k) (b o len cap h : Nat) (h1 : h ≤ cap) (h2 : 0 < cap)
    {hh : Int} (el : hh = h) (w : World) :
    (Instr.slice t (.slice (some ⟨b, o, none⟩) len cap) none (some (.int .i64 hh)) none).run P w = .ok (.slice (some ⟨b, o, none⟩) h cap) w := by
  subst el
  cases hq : P.info? e with
  | none => simp [hq] at hi
  | some i =>
    have hs : i.size = k := by simpa [hq] using hi
    have hn : ((h : Nat) : Int) ≤ cap := by omega
    have hc : ¬ cap = 0 := by omega
    simp [Instr.slice, run_underlying ht, Instr.sliceBounds, run_sliceBound, sizeOf, typeInfo, hq, hs, hn, hc, Addr.add]
/-- the address of an element of k cells -/
theorem run_index_k {P : Program} {t e : TypeId} {k : Nat} (ht : P.underlying t = some (.slice e)) (hi : (P.info? e).map (·.size) = some k) (b o n c i : Nat) (h : i < n) {ii : Int} (ei : ii = i) (w : World) :
    (Instr.indexAt t (.slice (some ⟨b, o, none⟩) n c) (.int .i64 ii)).run P w = .ok (.pointer (some ⟨b, o + k * i, none⟩)) w := by
  subst ei
  cases hq : P.info? e with
  | none => simp [hq] at hi
  | some d =>
    have hs : d.size = k := by simpa [hq] using hi
    have ha : (⟨b, o, none⟩ : Addr).add (i * k) = ⟨b, o + k * i, none⟩ := by
      rw [Addr.add_mid, Nat.mul_comm]
    simp [Instr.indexAt, asIntOf, run_underlying ht, h, sizeOf, typeInfo, hq, hs, ha]
end Go.Proofs.YtmfdahigfnhidaaDoor
