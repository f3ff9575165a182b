/- Arguments of laws, opened: phases, rows of numbers, rows of events. -/
import Derived.Test.YtagplmlhpocbjaaDoorLawOpenB
import Derived.Test.YtagplmlhpocbjaaDoorPh9
import Derived.Deep.Strs
namespace Go.Proofs.YtagplmlhpocbjaaDoor
open Go Go.RowKit Go.WideShapes Go.ChangeShapes Go.Deep
theorem two_of {L : List Value} (h : L.length = 2) {a b : Value} (h0 : L[0] = a) (h1 : L[1] = b) : L = [a, b] := by
  match L, h with
  | [x, y], _ =>
    have e0 : x = a := h0
    have e1 : y = b := h1
    rw [e0, e1]
theorem drop_one {l : List Value} {i : Nat} (h : i < l.length) : (l.drop i).take 1 = [l[i]] := by
  rw [List.drop_eq_getElem_cons h]; rfl
/-- a struct of two numbers -/
theorem open_two {H : Type} {enc : TypeId × Value → H} {W : World} {held : Bool} {t : TypeId} {fuel : Nat} {cs : List Value} {y : DataW H × List MemPlace}
    (hu : Tryd.prog.underlying t = some (.struct (Tryd.prog.fieldsOf t))) (hF : (Tryd.prog.fieldsOf t).toList.map (fun f => (f.type, f.offset)) = [(3, 0), (3, 1)]) (hc : Tryd.prog.cellsOf t = 2)
    (hf : DataW.trod enc Tryd.prog W 0 (fun _ => true) held fuel t cs = some y) : ∃ s e : Int, cs = [.int .i64 s, .int .i64 e] := by
  obtain ⟨f0, f1, hfs⟩ : ∃ f0 f1, Tryd.prog.fieldsOf t = #[f0, f1] := by
    have h := congrArg List.length hF
    rw [List.length_map] at h
    match hq : (Tryd.prog.fieldsOf t).toList, h with
    | [f0, f1], _ => exact ⟨f0, f1, by apply Array.ext'; rw [hq]⟩
  rw [hfs] at hF hu
  have hF2 : (f0.type = 3 ∧ f0.offset = 0) ∧ (f1.type = 3 ∧ f1.offset = 1) := by simpa using hF
  obtain ⟨y0, y1, m', _, hcl, e0, e1⟩ := trod_struct2 hu hf
  rw [hc] at hcl
  rw [hF2.1.1, hF2.1.2, show Tryd.prog.cellsOf 3 = 1 by kernel_rfl, drop_one (by omega)] at e0
  rw [hF2.2.1, hF2.2.2, show Tryd.prog.cellsOf 3 = 1 by kernel_rfl, drop_one (by omega)] at e1
  obtain ⟨s, q0, _, _⟩ := DataW.trod_int Tryd.underlying3 e0
  obtain ⟨e, q1, _, _⟩ := DataW.trod_int Tryd.underlying3 e1
  exact ⟨s, e, two_of hcl (by simpa using q0) (by simpa using q1)⟩
theorem open_ph {H : Type} {enc : TypeId × Value → H} {W : World} {held : Bool} {v : Value} {d : DataW H} {ps : List MemPlace}
    (hd : DataW.Trod enc Tryd.prog W 0 (fun _ => true) held 23 v d ps) : ∃ s e : Int, v = phV s e := by
  obtain ⟨fuel, hf⟩ := hd
  obtain ⟨s, e, hc⟩ := open_two ph_under (by kernel_rfl) (by kernel_rfl) hf
  refine ⟨s, e, ?_⟩
  have hv : ∃ cs, v = .agg cs := by
    have hl := congrArg List.length hc
    cases v <;> first | exact ⟨_, rfl⟩ | (exfalso; simp [Value.cells] at hl)
  obtain ⟨cs, rfl⟩ := hv
  have h : cs.toList = [.int .i64 s, .int .i64 e] := hc
  unfold phV
  congr 1
  exact Array.ext' h
theorem open_rdi {H : Type} {enc : TypeId × Value → H} {W : World} {held : Bool} {r : Reach} {b0 : Nat} {v : Value} {d : DataW H} {ps : List MemPlace}
    (hval : Value.okWide Tryd.prog W r b0 46 v) (hd : DataW.Trod enc Tryd.prog W 0 (fun _ => true) held 46 v d ps) : ∃ xs : List Int, RdI W v xs := by
  obtain ⟨fuel, hf⟩ := hd
  rw [slice_cells Tryd.underlying46 hval] at hf
  rcases open_ints Tryd.underlying46 Tryd.underlying3 (by kernel_rfl) hf with ⟨h0, _⟩ | ⟨a, len, cap, zs, h0, _, hl, hm, hz, _, hx, hw⟩
  · obtain rfl : v = .slice none 0 0 := by simpa using h0
    exact ⟨[], none, 0, rfl, Nat.le_refl _, fun h => absurd h (by simp)⟩
  · obtain rfl : v = .slice (some a) len cap := by simpa using h0
    simp only [if_true] at hz
    have hl1 : (zs.take len).length = len := by rw [List.length_take]; omega
    refine ⟨zs.take len, some a, cap, by rw [hl1], by rw [hl1]; exact hl, fun hi => ?_⟩
    rw [hl1] at hi
    obtain ⟨b, o, s⟩ := a
    have hc0 := hx 0 (by omega)
    rw [show (⟨b, o, s⟩ : Addr).add 0 = ⟨b, o, s⟩ from by simp [Addr.add]] at hc0
    obtain rfl := spot_free hc0
    refine ⟨b, o, rfl, block_lt_of_cell hc0, fun j z hj => ?_⟩
    have hjl : j < len := by have := (List.getElem?_eq_some_iff.1 hj).1; rw [hl1] at this; exact this
    have e1 := hx j (by omega)
    rw [show (⟨b, o, none⟩ : Addr).add j = ⟨b, o + j, none⟩ from by simp [Addr.add]] at e1
    rw [e1]
    rw [List.getElem?_take, if_pos hjl] at hj
    rw [List.getD_eq_getElem?_getD, hj]
    rfl
theorem ph_mapM {w : World} {a : Addr} : ∀ (L : List Nat) (cs : List Value), L.mapM (fun i => w.cell? (a.add i)) = some cs → ∀ j, j < L.length → ∃ v, cs[j]? = some v ∧ w.cell? (a.add (L.getD j 0)) = some v
  | [], _, _, j, hj => by simp at hj
  | i :: L, cs, h, j, hj => by
    rw [List.mapM_cons] at h
    simp only [bind, Option.bind_eq_some_iff, pure, Option.some.injEq] at h
    obtain ⟨y, hy, ys, hys, rfl⟩ := h
    cases j with
    | zero => exact ⟨y, rfl, by simpa using hy⟩
    | succ j =>
      obtain ⟨v, h1, h2⟩ := ph_mapM L ys hys j (by simpa using hj)
      exact ⟨v, by simpa using h1, by simpa using h2⟩
theorem ph_cells {w : World} {a : Addr} {n : Nat} {cs : List Value} (h : w.cells? 0 a n = some cs) : ∀ j u, cs[j]? = some u → j < n → w.cell? (a.add j) = some u := fun j u hu hj => by
  unfold World.cells? at h
  split at h
  · obtain ⟨u', h1, h2⟩ := ph_mapM _ _ h j (by simpa using hj)
    rw [hu] at h1
    obtain rfl := Option.some.inj h1
    have e : (List.range n).getD j 0 = j := by simp [List.getD, hj]
    rwa [e] at h2
  · cases h
theorem step_under : Tryd.prog.underlying 44 = some (.struct (Tryd.prog.fieldsOf 44)) := by kernel_rfl
set_option maxRecDepth 100000 in
theorem open_steps {H : Type} {enc : TypeId × Value → H} {W : World} {held : Bool} {r : Reach} {b0 : Nat} {v : Value} {d : DataW H} {ps : List MemPlace} (hval : Value.okWide Tryd.prog W r b0 42 v)
    (hd : DataW.Trod enc Tryd.prog W 0 (fun _ => true) held 42 v d ps) : ∃ (A : Option Addr) (c : Nat) (ss : List (Int × Int)), v = .slice A ss.length c ∧ StR W A ss := by
  obtain ⟨fuel, hf⟩ := hd
  rw [slice_cells Tryd.underlying42 hval] at hf
  rcases DataW.trod_slice Tryd.underlying42 hf with ⟨hc, _⟩ | ⟨a, len, cap, elems, rest, m, _, hc, _, hba, hlc, hcm, hlen, hel, _⟩
  · obtain rfl : v = .slice none 0 0 := by simpa using hc
    exact ⟨none, 0, [], rfl, fun k u hk => by simp at hk⟩
  · obtain rfl : v = .slice (some a) len cap := by simpa using hc
    rw [show Tryd.prog.cellsOf 44 = 2 by kernel_rfl] at hel
    have hx : ∀ i : Fin len, ∃ u : Int × Int, W.cell? ((a.add (i.1 * 2)).add 0) = some (.int .i64 u.1) ∧ W.cell? ((a.add (i.1 * 2)).add 1) = some (.int .i64 u.2) := fun i => by
      have h := hel i.1 (by have := i.2; omega)
      rw [List.getElem?_eq_getElem (by have := i.2; omega)] at h
      simp only [Option.bind_eq_some_iff] at h
      obtain ⟨cs, hcs, hy⟩ := h
      obtain ⟨s, e, rfl⟩ := open_two step_under (by kernel_rfl) (by kernel_rfl) hy
      exact ⟨(s, e), ph_cells hcs 0 _ rfl (by omega), ph_cells hcs 1 _ rfl (by omega)⟩
    let g : Fin len → Int × Int := fun i => Classical.choose (hx i)
    have hg : ∀ i : Fin len, W.cell? ((a.add (i.1 * 2)).add 0) = some (.int .i64 (g i).1) ∧ W.cell? ((a.add (i.1 * 2)).add 1) = some (.int .i64 (g i).2) := fun i => Classical.choose_spec (hx i)
    refine ⟨some a, cap, List.ofFn g, by rw [List.length_ofFn], fun k u hk => ?_⟩
    have hkl : k < len := by have := (List.getElem?_eq_some_iff.1 hk).1; rwa [List.length_ofFn] at this
    rw [List.getElem?_eq_getElem (by rw [List.length_ofFn]; exact hkl), List.getElem_ofFn] at hk
    obtain rfl := Option.some.inj hk
    obtain ⟨b, o, s⟩ := a
    have h0 := (hg ⟨0, by omega⟩).1
    rw [show ((⟨b, o, s⟩ : Addr).add (0 * 2)).add 0 = ⟨b, o, s⟩ from by simp [Addr.add]] at h0
    obtain rfl := spot_free h0
    refine ⟨b, o, rfl, block_lt_of_cell h0, ?_, ?_⟩
    · have h := (hg ⟨k, hkl⟩).1
      rwa [Addr.add_mid, Addr.add_mid] at h
    · have h := (hg ⟨k, hkl⟩).2
      rwa [Addr.add_mid, Addr.add_mid] at h
end Go.Proofs.YtagplmlhpocbjaaDoor
