/- Arguments of laws, opened: slices of arrays of 32 bytes. -/
import Derived.Test.YtmfdahigfnhidaaDoorLawOpen
import Derived.Test.YtmfdahigfnhidaaDoorSort
namespace Go.Proofs.YtmfdahigfnhidaaDoor
open Go Go.RowKit Go.WideShapes Go.ChangeShapes
section
variable {H : Type} {enc : TypeId × Value → H} {P : Program} {W : World} {base : Nat} {sp : Nat → Bool} {held : Bool} {t e : TypeId} {n : Nat}
theorem trod_u8arr (ht : P.underlying t = some (.array n e)) (he : P.underlying e = some (.int .u8)) (h1 : P.cellsOf e = 1) (hn : P.cellsOf t = n) {fuel : Nat} {cs : List Value} {y : DataW H × List MemPlace}
    (hf : DataW.trod enc P W base sp held fuel t cs = some y) : ∃ xs : List Nat, cs = cellsN xs ∧ xs.length = n ∧ Sha.Byte xs := by
  cases fuel with
  | zero => simp [DataW.trod] at hf
  | succ m =>
    rw [DataW.trod_step] at hf
    unfold DataW.trodStep at hf
    simp only [ht] at hf
    by_cases hz : cs.length = P.cellsOf t
    · rw [if_pos hz] at hf
      simp only [Option.map_eq_some_iff] at hf
      obtain ⟨ys, hy, _⟩ := hf
      rw [h1] at hy
      rw [hn] at hz
      have hall := mapM_u8 he _ _ hy
      have hget : ∀ i, i < n → ∃ a : Nat, a < 256 ∧ cs[i]? = some (.int .u8 (a : Int)) := fun i hi => by
        obtain ⟨a, ha, hc⟩ := hall i (List.mem_range.2 hi)
        refine ⟨a, ha, ?_⟩
        have := congrArg (fun l => l[0]?) hc
        simpa [List.getElem?_take, List.getElem?_drop] using this
      let f : Value → Nat := fun v => match v with | .int _ a => a.toNat | _ => 0
      refine ⟨cs.map f, ?_, by rw [List.length_map, hz], ?_⟩
      · unfold cellsN
        rw [List.map_map]
        apply List.ext_getElem?
        intro i
        rcases Nat.lt_or_ge i n with hi | hi
        · obtain ⟨a, ha, hc⟩ := hget i hi
          rw [List.getElem?_map, hc]
          simp [f]
        · rw [List.getElem?_eq_none (by omega), List.getElem?_eq_none (by rw [List.length_map]; omega)]
      · intro i
        rcases Nat.lt_or_ge i n with hi | hi
        · obtain ⟨a, ha, hc⟩ := hget i hi
          simp [List.getD, List.getElem?_map, hc, f, ha]
        · simp [List.getD, List.getElem?_eq_none (show cs.length ≤ i by omega)]
    · rw [if_neg hz] at hf
      cases hf
theorem mapM_cells {w : World} {a : Addr} : ∀ (L : List Nat) (cs : List Value), L.mapM (fun i => w.cell? (a.add i)) = some cs → ∀ j, j < L.length → ∃ v, cs[j]? = some v ∧ w.cell? (a.add (L.getD j 0)) = some v
  | [], _, _, j, hj => by simp at hj
  | i :: L, cs, h, j, hj => by
    rw [List.mapM_cons] at h
    simp only [bind, Option.bind_eq_some_iff, pure, Option.some.injEq] at h
    obtain ⟨y, hy, ys, hys, rfl⟩ := h
    cases j with
    | zero => exact ⟨y, rfl, by simpa using hy⟩
    | succ j =>
      obtain ⟨v, h1, h2⟩ := mapM_cells L ys hys j (by simpa using hj)
      exact ⟨v, by simpa using h1, by simpa using h2⟩
theorem spot_none {w : World} {b o : Nat} {s : Option Nat} {v : Value} (h : w.cell? ⟨b, o, s⟩ = some v) : s = none := by
  cases s with
  | none => rfl
  | some k =>
    exfalso
    unfold World.cell? at h
    split at h <;> simp_all
theorem open_oids {ts : TypeId} (hs : P.underlying ts = some (.slice t)) (ht : P.underlying t = some (.array 32 e)) (he : P.underlying e = some (.int .u8)) (h1 : P.cellsOf e = 1) (hn : P.cellsOf t = 32) {r : Reach} {b0 : Nat} {v : Value} {d : DataW H} {ps : List MemPlace}
    (hval : Value.okWide P W r b0 ts v) (hd : DataW.Trod enc P W base sp held ts v d ps) : ∃ l : List (List Nat), RdO W v l ∧ Sha.Oids l ∧ l.length ≤ maxLen := by
  have hv1 : v.cells.toList = [v] := by
    simp only [Value.okWide, hs] at hval
    cases v <;> first | rfl | (simp [Cell.okWide, hs] at hval; done) | (exfalso; simp_all [Cell.okWide, Cell.ok])
  obtain ⟨fuel, hf⟩ := hd
  rw [hv1] at hf
  rcases DataW.trod_slice hs hf with ⟨hc, _⟩ | ⟨a, len, cap, elems, rest, m, _, hc, _, hba, hlc, hcm, hlen, hel, _⟩
  · obtain rfl : v = .slice none 0 0 := by simpa using hc
    exact ⟨[], ⟨none, 0, rfl, Nat.le_refl _, fun h => by simp at h⟩, fun o h => by simp at h, Nat.zero_le _⟩
  · obtain rfl : v = .slice (some a) len cap := by simpa using hc
    rw [hn] at hel
    have hx : ∀ i, i < len → ∃ xs : List Nat, xs.length = 32 ∧ Sha.Byte xs ∧ ∀ j u, (cellsN xs)[j]? = some u → W.cell? ((a.add (i * 32)).add j) = some u := fun i hi => by
      have h := hel i hi
      rw [List.getElem?_eq_getElem (by omega)] at h
      simp only [Option.bind_eq_some_iff] at h
      obtain ⟨cs, hcs, hy⟩ := h
      obtain ⟨xs, rfl, hxl, hxb⟩ := trod_u8arr ht he h1 hn hy
      refine ⟨xs, hxl, hxb, fun j u hu => ?_⟩
      unfold World.cells? at hcs
      split at hcs
      · have hj : j < 32 := by have := (List.getElem?_eq_some_iff.1 hu).1; rw [cellsN_len, hxl] at this; exact this
        obtain ⟨u', h1, h2⟩ := mapM_cells _ _ hcs j (by simpa using hj)
        rw [hu] at h1
        obtain rfl := Option.some.inj h1
        have e : (List.range 32).getD j 0 = j := by simp [List.getD, hj]
        rw [e] at h2
        exact h2
      · cases hcs
    let g : Nat → List Nat := fun i => if h : i < len then Classical.choose (hx i h) else []
    have hg : ∀ i, i < len → (g i).length = 32 ∧ Sha.Byte (g i) ∧ ∀ j u, (cellsN (g i))[j]? = some u → W.cell? ((a.add (i * 32)).add j) = some u := fun i hi => by
      have : g i = Classical.choose (hx i hi) := by simp only [g, hi, dif_pos]
      rw [this]; exact Classical.choose_spec (hx i hi)
    have hlen2 : ((List.range len).map g).length = len := by simp
    have hgd : ∀ i, i < len → ((List.range len).map g).getD i [] = g i := fun i hi => by simp [List.getD, hi]
    refine ⟨(List.range len).map g, ⟨some a, cap, by rw [hlen2], by rw [hlen2]; exact hlc, fun h0 => ?_⟩, fun o ho => ?_, by rw [hlen2]; omega⟩
    · rw [hlen2] at h0
      obtain ⟨b, o, s⟩ := a
      have hz := hg 0 h0
      have hc0 := hz.2.2 0 ((cellsN (g 0))[0]'(by rw [cellsN_len, hz.1]; omega)) (List.getElem?_eq_getElem _)
      have e0 : ((⟨b, o, s⟩ : Addr).add (0 * 32)).add 0 = ⟨b, o, s⟩ := by simp [Addr.add]
      rw [e0] at hc0
      obtain rfl := spot_none hc0
      refine ⟨b, o, rfl, block_lt_of_cell hc0, fun i hi j u hu => ?_⟩
      rw [hlen2] at hi
      rw [hgd i hi] at hu
      have := (hg i hi).2.2 j u hu
      rw [Addr.add_mid, Addr.add_mid] at this
      rw [Nat.mul_comm 32 i]; exact this
    · obtain ⟨i, hi, rfl⟩ := List.mem_map.1 ho
      have hi := List.mem_range.1 hi
      exact ⟨(hg i hi).1, (hg i hi).2.1⟩
end
end Go.Proofs.YtmfdahigfnhidaaDoor
