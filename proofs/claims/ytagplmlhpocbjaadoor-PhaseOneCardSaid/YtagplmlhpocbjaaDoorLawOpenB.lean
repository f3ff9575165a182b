/- Arguments of laws, opened: slices of bytes. -/
import Derived.Test.YtagplmlhpocbjaaDoorRd
import Derived.Deep.Matrix
import Derived.ChangeMaps5
import Derived.OpenShut
namespace Go.Proofs.YtagplmlhpocbjaaDoor
open Go Go.RowKit Go.WideShapes Go.ChangeShapes Go.Deep
section
variable {H : Type} {enc : TypeId × Value → H} {P : Program} {W : World} {held : Bool} {t e q : TypeId}
theorem spot_free {w : World} {b o : Nat} {s : Option Nat} {v : Value} (h : w.cell? ⟨b, o, s⟩ = some v) : s = none := by
  cases s with
  | none => rfl
  | some k =>
    exfalso
    unfold World.cell? at h
    split at h <;> simp_all
theorem u8_nat {n : Int} (h : (Lit.int .u8 n).wf = true) : ((n.toNat : Nat) : Int) = n ∧ n.toNat < 256 := by
  have h2 : (decide (IntKind.u8.min ≤ n) && decide (n ≤ IntKind.u8.max)) = true := h
  rw [Bool.and_eq_true, decide_eq_true_eq, decide_eq_true_eq] at h2
  have h3 : (0 : Int) ≤ n ∧ n ≤ 255 := h2
  omega
theorem slice_cells (ht : P.underlying t = some (.slice e)) {r : Reach} {b0 : Nat} {v : Value} (hval : Value.okWide P W r b0 t v) : v.cells.toList = [v] := by
  simp only [Value.okWide, ht] at hval
  cases v <;> first | rfl | (simp [Cell.okWide, ht] at hval; done) | (exfalso; simp_all [Cell.okWide, Cell.ok])
/-- bytes that are read, in a cell -/
theorem rd_of_ints {fuel : Nat} {v : Value} {x : DataW H × List MemPlace} (ht : P.underlying t = some (.slice e)) (he : P.underlying e = some (.int .u8)) (hc : P.cellsOf e = 1)
    (h : DataW.trod enc P W 0 (fun _ => true) held fuel t [v] = some x) : ∃ xs : List Nat, Rd W v xs ∧ Sha.Byte xs ∧ xs.length ≤ maxLen := by
  rcases open_ints ht he hc h with ⟨h0, _⟩ | ⟨a, len, cap, zs, h0, _, hl, hm, hz, _, hx, hw⟩
  · obtain rfl : v = .slice none 0 0 := by simpa using h0
    exact ⟨[], ⟨none, 0, rfl, Nat.le_refl _, fun h => absurd h (by simp)⟩, fun i => by simp, Nat.zero_le _⟩
  · obtain rfl : v = .slice (some a) len cap := by simpa using h0
    simp only [if_true] at hz
    have hl1 : ((zs.take len).map Int.toNat).length = len := by rw [List.length_map, List.length_take]; omega
    have hget : ∀ i, i < len → (((zs.getD i 0).toNat : Nat) : Int) = zs.getD i 0 ∧ (zs.getD i 0).toNat < 256 ∧ ((zs.take len).map Int.toNat).getD i 0 = (zs.getD i 0).toNat := fun i hi => by
      have hiz : i < zs.length := by omega
      have e1 : zs.getD i 0 = zs[i] := by rw [List.getD_eq_getElem?_getD, List.getElem?_eq_getElem hiz]; rfl
      obtain ⟨g1, g2⟩ := u8_nat (hw _ (List.getElem_mem hiz))
      refine ⟨by rw [e1]; exact g1, by rw [e1]; exact g2, ?_⟩
      rw [List.getD_eq_getElem?_getD, List.getElem?_map, List.getElem?_take_of_lt hi, List.getElem?_eq_getElem hiz, e1]; rfl
    refine ⟨(zs.take len).map Int.toNat, ⟨some a, cap, by rw [hl1], by rw [hl1]; exact hl, fun h0 => ?_⟩, fun i => ?_, by rw [hl1]; omega⟩
    · rw [hl1] at h0
      obtain ⟨b, o, s⟩ := a
      have hc0 := hx 0 (by omega)
      rw [show (⟨b, o, s⟩ : Addr).add 0 = ⟨b, o, s⟩ from by simp [Addr.add]] at hc0
      obtain rfl := spot_free hc0
      refine ⟨b, o, rfl, block_lt_of_cell hc0, fun i hi => ?_⟩
      rw [hl1] at hi
      have e1 := hx i (by omega)
      rw [show (⟨b, o, none⟩ : Addr).add i = ⟨b, o + i, none⟩ from by simp [Addr.add]] at e1
      obtain ⟨g1, _, g3⟩ := hget i hi
      rw [e1, g3, g1]
    · by_cases hi : i < len
      · obtain ⟨_, g2, g3⟩ := hget i hi
        rw [g3]; exact g2
      · rw [List.getD_eq_getElem?_getD, List.getElem?_eq_none (by rw [hl1]; omega)]; decide
theorem open_u8s (ht : P.underlying t = some (.slice e)) (he : P.underlying e = some (.int .u8)) (hc : P.cellsOf e = 1) {r : Reach} {b0 : Nat} {v : Value} {d : DataW H} {ps : List MemPlace}
    (hval : Value.okWide P W r b0 t v) (hd : DataW.Trod enc P W 0 (fun _ => true) held t v d ps) : ∃ xs : List Nat, Rd W v xs ∧ Sha.Byte xs ∧ xs.length ≤ maxLen := by
  obtain ⟨fuel, hf⟩ := hd
  rw [slice_cells ht hval] at hf
  exact rd_of_ints ht he hc hf
end
end Go.Proofs.YtagplmlhpocbjaaDoor
