/- The states' names; the document's Do by the event's number; two phases of the document compared. -/
import Derived.Test.YtagplmlhpocbjaaDoorPh13
import Derived.Test.YtagplmlhpocbjaaDoorLawSent
namespace Go.Proofs.YtagplmlhpocbjaaDoor
open Go Go.RowKit Go.WideShapes Go.ChangeShapes
def phNames : List (List UInt8) := [[97, 98, 115, 101, 110, 116], [115, 116, 97, 103, 105, 110, 103], [115, 101, 114, 118, 105, 110, 103], [102, 101, 110, 99, 101, 100], [116, 111, 109, 98, 101, 100], [103, 111, 110, 101]]
def nameB (i : Nat) : ByteArray := ⟨(phNames.getD i []).toArray⟩
/-- the names as they are laid -/
def NamesAt (w : World) : Prop := ∀ i, i < 6 → w.cell? ⟨22, i, none⟩ = some (.string (nameB i))
theorem NamesAt.below {w w' : World} (h : NamesAt w) {B : Nat} (hb : Below B w w') (hB : w.heap.size ≤ B) : NamesAt w' := fun i hi => (hb.cell (p := ⟨22, i, none⟩) (by have := block_lt_of_cell (h i hi); exact Nat.lt_of_lt_of_le this hB)).trans (h i hi)
theorem names_of_laid {W : World} {r : List (String × DataW Unit)} (h : laidMet Tryd.prog (("cartage/phase.names", Rows.laid_cartage_phase_names) :: r) W) : NamesAt W := by
  obtain ⟨ps, ⟨g0, t0, cs0, f0, p0, q0, hg0, ht0, hv0, hd0, _, e0⟩, _, hrows⟩ := h
  have hg : Tryd.prog.globalNamed "cartage/phase.names" = some 22 := by kernel_rfl
  have ht : (Tryd.prog.globals[22]?).map (·.type) = some 53 := by kernel_rfl
  obtain rfl := Option.some.inj (hg.symm.trans hg0)
  obtain rfl := Option.some.inj (ht.symm.trans ht0)
  have hvar := fun (i : Nat) => World.var?_cell hg0 hv0 i
  obtain ⟨l0⟩ := cs0
  obtain ⟨xs, m, _, hxe, hl, hlen, hx⟩ := DataW.trod_array Tryd.underlying53 hd0
  intro i hi
  have hxi := hx i hi
  rw [show Tryd.prog.cellsOf 9 = 1 by kernel_rfl] at hxi
  have hil : i < xs.length := by rw [hlen]; exact hi
  rw [List.getElem?_eq_getElem hil] at hxi
  obtain ⟨s, hcs, hs, _⟩ := DataW.trod_string Tryd.underlying9 hxi
  have hdat : (xs[i]).1 = .lit (.string (phNames.getD i [])) := by
    have h1 := congrArg Prod.fst hxe
    have h2 : xs.map (·.1) = phNames.map fun t => DataW.lit (.string t) := by
      injection h1 with h1
      exact h1.symm
    have h3 := congrArg (fun l => l[i]?) h2
    simp only [List.getElem?_map, List.getElem?_eq_getElem hil, Option.map_some] at h3
    rw [List.getElem?_eq_getElem (show i < phNames.length from hi), Option.map_some] at h3
    rw [Option.some.inj h3, List.getD_eq_getElem?_getD, List.getElem?_eq_getElem (show i < phNames.length from hi)]
    rfl
  rw [hs] at hdat
  have hsb : s = nameB i := by
    have h1 : s.data.toList = phNames.getD i [] := by
      have h2 : DataW.lit (H := Unit) (.string s.data.toList) = .lit (.string (phNames.getD i [])) := hdat
      injection h2 with h2
      injection h2
    unfold nameB
    rw [← h1]
  have hcell := hvar i
  rw [Nat.mul_one] at hcs
  have h5 : l0[i]? = some (.string s) := by
    have h6 := congrArg (fun l => l[0]?) hcs
    simpa [List.getElem?_take, List.getElem?_drop] using h6
  rw [← hsb, ← h5]
  simpa using hcell
set_option maxRecDepth 100000 in
theorem name_known (i : Nat) (e : Int) (w : World) (hi : i < 6) (hN : NamesAt w) : Calls Tryd.prog 13 #[phV (i : Nat) e] w fun r w' => r = .returned (.string (nameB i)) ∧ Below w.heap.size w w' := by
  obtain ⟨w0, hw0⟩ : ∃ w0, w0 = w.alloc (.cells (phC (i : Nat) e) 23) := ⟨_, rfl⟩
  have HX0 : Hid (Blk w0 w.heap.size 23 (phC (i : Nat) e)) := Lib.hid (hw0 ▸ Blk.new w _ _)
  have HB0 : Hid (Below w.heap.size w w0) := Lib.hid (hw0 ▸ (Below.refl _ _).alloc (Nat.le_refl _) _)
  have HW := Lib.hid hw0
  have CK := known_any (i : Nat) e w0
  rw [decide_eq_true (show (0 : Int) ≤ (i : Nat) ∧ ((i : Nat) : Int) < 6 by omega)] at CK
  have HN := Lib.hid hN
  clear hw0 hN
  unfold phV at CK ⊢
  go_enter Tryd.func13, Tryd.ntmps13
  go_wp2_with (go_at_call 24; refine pause ?_)
  unfold Paused
  rw [← HW.out]
  refine CK.mono ?_
  rintro r w1 ⟨rfl, hb1⟩
  have HB1 := Lib.hid (HB0.out.trans (hb1.mono HB0.out.size))
  have c0 : w1.cell? ⟨w.heap.size, 0, none⟩ = some (.int .i64 (i : Nat)) := (HX0.out.below hb1 HX0.out.lt).cell 0
  have n0 := (HN.out.below HB1.out (Nat.le_refl _)) i hi
  obtain ⟨nm, hnm⟩ : ∃ nm, nm = nameB i := ⟨_, rfl⟩
  rw [← hnm] at n0
  have HNM := Lib.hid hnm
  clear hnm
  clear hb1 CK HX0 HW HB0
  clear w0
  go_wp2
  go_ret
  exact ⟨by rw [← HNM.out]; rfl, HB1.out⟩
set_option maxRecDepth 100000 in
theorem name_none (s e : Int) (w : World) (hs : ¬ (0 ≤ s ∧ s < 6)) : Calls Tryd.prog 13 #[phV s e] w fun r w' => r = .returned (.string ⟨#[]⟩) ∧ Below w.heap.size w w' := by
  obtain ⟨w0, hw0⟩ : ∃ w0, w0 = w.alloc (.cells (phC s e) 23) := ⟨_, rfl⟩
  have HB0 : Hid (Below w.heap.size w w0) := Lib.hid (hw0 ▸ (Below.refl _ _).alloc (Nat.le_refl _) _)
  have HW := Lib.hid hw0
  have CK := known_any s e w0
  rw [decide_eq_false hs] at CK
  clear hw0 hs
  unfold phV at CK ⊢
  go_enter Tryd.func13, Tryd.ntmps13
  go_wp2_with (go_at_call 24; refine pause ?_)
  unfold Paused
  rw [← HW.out]
  refine CK.mono ?_
  rintro r w1 ⟨rfl, hb1⟩
  have HB1 := Lib.hid (HB0.out.trans (hb1.mono HB0.out.size))
  clear hb1 CK HW HB0
  clear w0
  go_wp2
  go_ret
  exact ⟨rfl, HB1.out⟩
theorem rdo_any (k : Nat) (s e x : Int) (w : World) (hk : k < 5) : Calls Tryd.prog 9 #[phV s e, .int .i64 (k : Nat), .int .i64 x] w fun r w' => r = .returned (rOut (Ph.run k s e x)) ∧ Below w.heap.size w w' := by
  match k, hk with
  | 0, _ => exact rdo0_any s e x w
  | 1, _ => exact rdo1_any s e x w
  | 2, _ => exact rdo2_any s e x w
  | 3, _ => exact rdo3_any s e x w
  | 4, _ => exact rdo4_any s e x w
theorem rph_under : Tryd.prog.underlying 30 = some (.struct (Tryd.prog.fieldsOf 30)) := by kernel_rfl
theorem rph_self (w : World) (s e : Int) : (Op.equalIn 10000 30 (.agg (phC s e)) (.agg (phC s e))).run Tryd.prog w = .ok true w := by
  rw [run_equalIn_struct w 9999 30 _ _ rph_under (by kernel_rfl)]
  have hF : (Tryd.prog.fieldsOf 30).toList.map (fun f => (f.name == "_", f.type, f.offset)) = [(false, 3, 0), (false, 3, 1)] := by kernel_rfl
  have k1 := run_equalIn_int (P := Tryd.prog) w 9998 3 .i64 .i64 s s Tryd.underlying3
  have k2 := run_equalIn_int (P := Tryd.prog) w 9998 3 .i64 .i64 e e Tryd.underlying3
  rw [show (s == s) = true by simp] at k1
  rw [show (e == e) = true by simp] at k2
  generalize (Tryd.prog.fieldsOf 30).toList = L at hF
  rcases L with _ | ⟨f0, _ | ⟨f1, _ | ⟨f2, L⟩⟩⟩
  · simp at hF
  · simp at hF
  · simp only [List.map_cons, List.map_nil, List.cons.injEq, Prod.mk.injEq, and_true] at hF
    obtain ⟨⟨n0, t0, o0⟩, n1, t1, o1⟩ := hF
    have p0 := ph_part w s e 0 (by omega)
    have p1 := ph_part w s e 1 (by omega)
    rw [phf_true (beq_eq_false_iff_ne.1 n0) t0 o0 p0 p0 k1, phf_true (beq_eq_false_iff_ne.1 n1) t1 o1 p1 p1 k2]
    rfl
  · simp at hF
/-- A world for the witness: the settled one, with the error values and the names as their initialisers lay them. -/
noncomputable def laidWorldPh (os : Os) : World := { laidWorldS os with heap := (laidWorldS os).heap.modify 22 (fun o => match o with | .cells _ t fr => .cells (phNames.map fun t => Value.string ⟨t.toArray⟩).toArray t fr | o => o) }
end Go.Proofs.YtagplmlhpocbjaaDoor
