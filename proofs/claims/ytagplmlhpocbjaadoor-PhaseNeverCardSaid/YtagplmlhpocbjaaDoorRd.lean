/- Bytes that a slice value holds. -/
import Derived.Test.YtagplmlhpocbjaaDoorBase
import Derived.Test.YtagplmlhpocbjaaDoorShaMsgMath
namespace Go.Proofs.YtagplmlhpocbjaaDoor
open Go Go.RowKit
/-- Bytes that a slice value holds, outside block p. -/
def RdB (w : World) (p : Nat) (v : Value) (xs : List Nat) : Prop :=
  ∃ A c, v = .slice A xs.length c ∧ xs.length ≤ c ∧ (0 < xs.length → ∃ b o, A = some ⟨b, o, none⟩ ∧ b ≠ p ∧ b < w.heap.size ∧ ∀ i, i < xs.length → w.cell? ⟨b, o + i, none⟩ = some (.int .u8 ((xs.getD i 0 : Nat) : Int)))
theorem RdB.only {w w' : World} {p : Nat} {v : Value} {xs : List Nat} (h : RdB w p v xs) (k : w.grownBy w' (some p)) : RdB w' p v xs := by
  obtain ⟨A, c, hv, hc, hA⟩ := h
  refine ⟨A, c, hv, hc, fun h0 => ?_⟩
  obtain ⟨b, o, ha, hb, hl, hx⟩ := hA h0
  exact ⟨b, o, ha, hb, Nat.lt_of_lt_of_le hl k.size, fun i hi => k.cell (hx i hi) (fun e => hb (by injection e))⟩
/-- what a cut leaves -/
theorem RdB.cut {w : World} {p : Nat} {A : Option Addr} {n c : Nat} {xs : List Nat} (h : RdB w p (.slice A n c) xs) {k : Nat} (hk : k ≤ xs.length) :
    RdB w p (.slice (if c = k then A else A.map (·.add k)) (n - k) (c - k)) (xs.drop k) := by
  obtain ⟨A', c', hv, hc, hA⟩ := h
  injection hv with e1 e2 e3
  subst e1 e2 e3
  refine ⟨_, _, by rw [List.length_drop], by rw [List.length_drop]; omega, fun h0 => ?_⟩
  rw [List.length_drop] at h0
  obtain ⟨b, o, ha, hb, hl, hx⟩ := hA (by omega)
  refine ⟨b, o + k, ?_, hb, hl, fun i hi => ?_⟩
  · rw [if_neg (by omega), ha]
    show some ((⟨b, o, none⟩ : Addr).add k) = _
    rw [Addr.add_mid]
  · rw [List.length_drop] at hi
    rw [Nat.add_assoc, hx (k + i) (by omega), Sha.getD_drop]
theorem RdB.only' {w w' : World} {p b o n c : Nat} {xs : List Nat} {s2 : Value} (h : RdB w p (.slice (some ⟨b, o, none⟩) n c) xs) (k : w.grownBy w' (some p)) {m : Nat} (hk : m ≤ xs.length)
    (e : s2 = Value.slice (if c = m then some ⟨b, o, none⟩ else (some (⟨b, o, none⟩ : Addr)).map (·.add m)) (n - m) (c - m)) : RdB w' p s2 (xs.drop m) := by
  rw [e]; exact (h.only k).cut hk
/-- Bytes that a slice value holds. -/
def Rd (w : World) (v : Value) (xs : List Nat) : Prop :=
  ∃ A c, v = .slice A xs.length c ∧ xs.length ≤ c ∧ (0 < xs.length → ∃ b o, A = some ⟨b, o, none⟩ ∧ b < w.heap.size ∧ ∀ i, i < xs.length → w.cell? ⟨b, o + i, none⟩ = some (.int .u8 ((xs.getD i 0 : Nat) : Int)))
theorem Rd.below {w w' : World} {v : Value} {xs : List Nat} (h : Rd w v xs) {B : Nat} (hb : Below B w w') (hB : w.heap.size ≤ B) : Rd w' v xs := by
  obtain ⟨A, c, hv, hc, hA⟩ := h
  refine ⟨A, c, hv, hc, fun h0 => ?_⟩
  obtain ⟨b, o, ha, hl, hx⟩ := hA h0
  have := hb.size
  exact ⟨b, o, ha, by omega, fun i hi => (hb.cell (p := ⟨b, o + i, none⟩) (by show b < B; omega)).trans (hx i hi)⟩
theorem Rd.out {w : World} {v : Value} {xs : List Nat} (h : Rd w v xs) {p : Nat} (hp : w.heap.size ≤ p) : RdB w p v xs := by
  obtain ⟨A, c, hv, hc, hA⟩ := h
  refine ⟨A, c, hv, hc, fun h0 => ?_⟩
  obtain ⟨b, o, ha, hl, hx⟩ := hA h0
  exact ⟨b, o, ha, by omega, hl, hx⟩
theorem Rd.outB {w w' : World} {v : Value} {xs : List Nat} (h : Rd w v xs) {p : Nat} (hp : w.heap.size ≤ p) (hb : Below w.heap.size w w') : RdB w' p v xs := by
  obtain ⟨A, c, hv, hc, hA⟩ := h
  refine ⟨A, c, hv, hc, fun h0 => ?_⟩
  obtain ⟨b, o, ha, hl, hx⟩ := hA h0
  have := hb.size
  exact ⟨b, o, ha, by omega, by omega, fun i hi => (hb.cell (p := ⟨b, o + i, none⟩) (by show b < _; omega)).trans (hx i hi)⟩
/-- A slice of such slices: vs are its cells. -/
def RdL (w : World) (v : Value) (vs : List Value) : Prop :=
  ∃ A c, v = .slice A vs.length c ∧ vs.length ≤ c ∧ (0 < vs.length → ∃ b o, A = some ⟨b, o, none⟩ ∧ b < w.heap.size ∧ ∀ i u, vs[i]? = some u → w.cell? ⟨b, o + i, none⟩ = some u)
end Go.Proofs.YtagplmlhpocbjaaDoor
