/- Arguments of laws, opened: slices of slices of bytes. -/
import Derived.Test.YthagldpgibpbdaaDoorRd
import Derived.Test.YthagldpgibpbdaaDoorLawOpenB
import Derived.Deep.Matrix
import Derived.OpenShut
namespace Go.Proofs.YthagldpgibpbdaaDoor
open Go Go.RowKit Go.WideShapes Go.ChangeShapes Go.Deep
section
variable {H : Type} {enc : TypeId × Value → H} {P : Program} {W : World} {held : Bool} {t e q : TypeId}
theorem open_parts (ht : P.underlying t = some (.slice e)) (he : P.underlying e = some (.slice q)) (hq : P.underlying q = some (.int .u8)) (ce : P.cellsOf e = 1) (cq : P.cellsOf q = 1) {r : Reach} {b0 : Nat} {v : Value} {d : DataW H} {ps : List MemPlace}
    (hval : Value.okWide P W r b0 t v) (hd : DataW.Trod enc P W 0 (fun _ => true) held t v d ps) :
    ∃ (vs : List Value) (pss : List (List Nat)), RdL W v vs ∧ pss.length = vs.length ∧ (∀ i u, vs[i]? = some u → Rd W u (pss.getD i [])) ∧ (∀ ps ∈ pss, Sha.Byte ps) ∧ vs.length ≤ maxLen ∧ ∀ ps ∈ pss, ps.length ≤ maxLen := by
  have hv1 : v.cells.toList = [v] := by
    simp only [Value.okWide, ht] at hval
    cases v <;> first | rfl | (simp [Cell.okWide, ht] at hval; done) | (exfalso; simp_all [Cell.okWide, Cell.ok])
  obtain ⟨fuel, hf⟩ := hd
  rw [hv1] at hf
  rcases open_int_rows ht he hq ce cq hf with ⟨hc, _⟩ | ⟨a, len, cap, A, L, C, Z, hc, _, hlc, hcm, _, hx⟩
  · obtain rfl : v = .slice none 0 0 := by simpa using hc
    exact ⟨[], [], ⟨none, 0, rfl, Nat.le_refl _, fun h => by simp at h⟩, rfl, fun i u h => by simp at h, fun ps h => by simp at h, Nat.zero_le _, fun ps h => by simp at h⟩
  · obtain rfl : v = .slice (some a) len cap := by simpa using hc
    have hvl : ((List.range len).map fun r => Value.slice (A r) (L r) (C r)).length = len := by simp
    have hpl : ((List.range len).map fun r => ((Z r).take (L r)).map Int.toNat).length = len := by simp
    have hzl : ∀ r, r < cap → (((Z r).take (L r)).map Int.toNat).length = L r := fun r hr => by
      obtain ⟨_, h1, _, h2, _⟩ := hx r hr
      rw [List.length_map, List.length_take]; omega
    have hget : ∀ r, r < cap → ∀ i, i < L r → (((Z r).getD i 0).toNat : Int) = (Z r).getD i 0 ∧ ((Z r).getD i 0).toNat < 256 ∧ (((Z r).take (L r)).map Int.toNat).getD i 0 = ((Z r).getD i 0).toNat := fun r hr i hi => by
      obtain ⟨_, h1, _, h2, h3, _⟩ := hx r hr
      have hiz : i < (Z r).length := by omega
      have e1 : (Z r).getD i 0 = (Z r)[i] := by rw [List.getD_eq_getElem?_getD, List.getElem?_eq_getElem hiz]; rfl
      obtain ⟨g1, g2⟩ := u8_nat (h3 _ (List.getElem_mem hiz))
      refine ⟨by rw [e1]; exact g1, by rw [e1]; exact g2, ?_⟩
      rw [List.getD_eq_getElem?_getD, List.getElem?_map, List.getElem?_take_of_lt hi, List.getElem?_eq_getElem hiz, e1]; rfl
    refine ⟨(List.range len).map fun r => .slice (A r) (L r) (C r), (List.range len).map fun r => ((Z r).take (L r)).map Int.toNat, ⟨some a, cap, by rw [hvl], by rw [hvl]; exact hlc, fun h0 => ?_⟩, by rw [hvl, hpl], fun i u hu => ?_, fun ps hp => ?_, by rw [hvl]; omega, fun ps hp => ?_⟩
    · rw [hvl] at h0
      obtain ⟨b, o, s⟩ := a
      have hc0 := (hx 0 (by omega)).1
      rw [show (⟨b, o, s⟩ : Addr).add 0 = ⟨b, o, s⟩ from by simp [Addr.add]] at hc0
      obtain rfl := spot_free hc0
      refine ⟨b, o, rfl, block_lt_of_cell hc0, fun i u hu => ?_⟩
      have hi : i < len := by have := (List.getElem?_eq_some_iff.1 hu).1; rwa [hvl] at this
      have e1 := (hx i (by omega)).1
      rw [show (⟨b, o, none⟩ : Addr).add i = ⟨b, o + i, none⟩ from by simp [Addr.add]] at e1
      rw [e1, ← hu, List.getElem?_map, List.getElem?_range hi]; rfl
    · have hi : i < len := by have := (List.getElem?_eq_some_iff.1 hu).1; rwa [hvl] at this
      rw [List.getElem?_map, List.getElem?_range hi] at hu
      cases hu
      have hpi : ((List.range len).map fun r => ((Z r).take (L r)).map Int.toNat).getD i [] = ((Z i).take (L i)).map Int.toNat := by
        rw [List.getD_eq_getElem?_getD, List.getElem?_map, List.getElem?_range hi]; rfl
      rw [hpi]
      obtain ⟨_, h1, h2, h3, _, h5, h6⟩ := hx i (by omega)
      refine ⟨A i, C i, by rw [hzl i (by omega)], by rw [hzl i (by omega)]; exact h1, fun h0 => ?_⟩
      rw [hzl i (by omega)] at h0
      cases hA : A i with
      | none => have := h5 hA; omega
      | some a' =>
        obtain ⟨b, o, s⟩ := a'
        obtain ⟨_, h7⟩ := h6 _ hA
        have hc0 := h7 0 (by omega)
        rw [show (⟨b, o, s⟩ : Addr).add 0 = ⟨b, o, s⟩ from by simp [Addr.add]] at hc0
        obtain rfl := spot_free hc0
        refine ⟨b, o, rfl, block_lt_of_cell hc0, fun j hj => ?_⟩
        rw [hzl i (by omega)] at hj
        have e1 := h7 j (by omega)
        rw [show (⟨b, o, none⟩ : Addr).add j = ⟨b, o + j, none⟩ from by simp [Addr.add]] at e1
        obtain ⟨g1, _, g3⟩ := hget i (by omega) j hj
        rw [e1, g3, g1]
    · obtain ⟨r, hr, rfl⟩ := List.mem_map.1 hp
      have hr' := List.mem_range.1 hr
      intro i
      by_cases hi : i < L r
      · obtain ⟨_, g2, g3⟩ := hget r (by omega) i hi
        rw [g3]; exact g2
      · rw [List.getD_eq_getElem?_getD, List.getElem?_eq_none (by rw [hzl r (by omega)]; omega)]; decide
    · obtain ⟨r, hr, rfl⟩ := List.mem_map.1 hp
      have hr' := List.mem_range.1 hr
      obtain ⟨_, h1, h2, _⟩ := hx r (by omega)
      rw [hzl r (by omega)]; omega
end
end Go.Proofs.YthagldpgibpbdaaDoor
