/- Entries compared, alone and in rows. -/
import Derived.Test.YtenodghocenjaaaDoorOb2
namespace Go.Proofs.YtenodghocenjaaaDoor
open Go Go.RowKit
theorem id_eq9 (d : Nat) (w : World) (x y : List Nat) (hx : Id32 x) (hy : Id32 y) : (Op.equalIn (d + 2) 27 (.agg (cellsB x).toArray) (.agg (cellsB y).toArray)).run Tryd.prog w = .ok (eqv x y) w := by
  rw [← beq_eqv, ← ofNat_inj x y hx.2 hy.2]
  have h := run_equalIn_bytes w d 27 5 32 Tryd.underlying27 Tryd.underlying5 size_u8 (x.map UInt8.ofNat) (y.map UInt8.ofNat) (by rw [List.length_map, hx.1]) (by rw [List.length_map, hy.1])
  rw [← u8s_cell x hx.2, ← u8s_cell y hy.2] at h
  exact h
theorem ent_part (w : World) (e : Ent) (h : Id32 e.id) : (part 27 (cellsE1 e).toArray 1).run Tryd.prog w = .ok (.agg (cellsB e.id).toArray) w := by
  have hx : List.take 32 (cellsE1 e).tail = cellsB e.id := by
    rw [cellsE1, List.tail_cons, List.take_of_length_le (by rw [cellsB_len, h.1]; omega)]
  have hs : (cellsE1 e).toArray.size = 33 := by rw [List.size_toArray, cellsE1_len h]
  simp [part, isAgg, run_underlying Tryd.underlying27, Tryd.sizeOf27, hx, hs]
theorem ent_name (w : World) (e : Ent) : (part 9 (cellsE1 e).toArray 0).run Tryd.prog w = .ok (.string e.name) w := by
  simp [part, isAgg, run_underlying Tryd.underlying9, cellsE1]
theorem toList_inj {a b : ByteArray} : (a.toList == b.toList) = eqv a b := by
  rw [Bool.eq_iff_iff, beq_iff_eq, eqv_iff, ByteArray.toList_eq, ByteArray.toList_eq]
  refine ⟨fun h => ?_, fun h => by rw [h]⟩
  obtain ⟨⟨x⟩⟩ := a
  obtain ⟨⟨y⟩⟩ := b
  have h : x = y := h
  rw [h]
theorem eqf_true {P : Program} {w : World} {d : Nat} {xs ys : Array Value} {f : Field} {fs : List Field} (hn : f.name ≠ "_") {t : TypeId} {o : Nat} (ht : f.type = t) (ho : f.offset = o) {a b : Value}
    (ha : (part t xs o).run P w = .ok a w) (hb : (part t ys o).run P w = .ok b w) (he : (Op.equalIn d t a b).run P w = .ok true w) : (Op.eqFields d xs ys (f :: fs)).run P w = (Op.eqFields d xs ys fs).run P w := by
  subst ht ho
  rw [Op.eqFields, if_pos hn]
  simp only [Sem.run_bind, ha, hb, he, Result.andThen_ok]
  rfl
theorem eqf_false {P : Program} {w : World} {d : Nat} {xs ys : Array Value} {f : Field} {fs : List Field} (hn : f.name ≠ "_") {t : TypeId} {o : Nat} (ht : f.type = t) (ho : f.offset = o) {a b : Value}
    (ha : (part t xs o).run P w = .ok a w) (hb : (part t ys o).run P w = .ok b w) (he : (Op.equalIn d t a b).run P w = .ok false w) : (Op.eqFields d xs ys (f :: fs)).run P w = .ok false w := by
  subst ht ho
  rw [Op.eqFields, if_pos hn]
  simp only [Sem.run_bind, ha, hb, he, Result.andThen_ok]
  rfl
theorem ent_fields (w : World) (k : Nat) (f0 f1 : Field) (n0 : f0.name ≠ "_") (n1 : f1.name ≠ "_") (t0 : f0.type = 9) (o0 : f0.offset = 0) (t1 : f1.type = 27) (o1 : f1.offset = 1)
    (d e : Ent) (hd : Id32 d.id) (he : Id32 e.id) : (Op.eqFields (k + 2) (cellsE1 d).toArray (cellsE1 e).toArray [f0, f1]).run Tryd.prog w = .ok (eqv d e) w := by
  have k5 := run_equalIn_string (P := Tryd.prog) w (k + 1) 9 d.name e.name Tryd.underlying9
  rw [toList_inj] at k5
  have hi' := id_eq9 k w d.id e.id hd he
  by_cases h1 : d.name = e.name
  · rw [eqv_true h1] at k5
    rw [eqf_true n0 t0 o0 (ent_name w d) (ent_name w e) k5]
    by_cases h2 : d.id = e.id
    · have h3 : d = e := by obtain ⟨dn, di⟩ := d; obtain ⟨en, ei⟩ := e; dsimp only at h1 h2; rw [h1, h2]
      rw [eqv_true h2] at hi'
      rw [eqv_true h3, eqf_true n1 t1 o1 (ent_part w d hd) (ent_part w e he) hi']
      rfl
    · have h3 : d ≠ e := fun h => h2 (by rw [h])
      rw [eqv_false h2] at hi'
      rw [eqv_false h3, eqf_false n1 t1 o1 (ent_part w d hd) (ent_part w e he) hi']
  · have h3 : d ≠ e := fun h => h1 (by rw [h])
    rw [eqv_false h1] at k5
    rw [eqv_false h3, eqf_false n0 t0 o0 (ent_name w d) (ent_name w e) k5]
theorem ent_eq_of (w : World) (t : TypeId) (ht : Tryd.prog.underlying t = some (.struct (Tryd.prog.fieldsOf t))) (hp : Tryd.prog.stoodInHeld t = false) (k : Nat) (hF : (Tryd.prog.fieldsOf t).toList.map (fun f => (f.name == "_", f.type, f.offset)) = [(false, 9, 0), (false, 27, 1)])
    (d e : Ent) (hd : Id32 d.id) (he : Id32 e.id) : (Op.equalIn (k + 3) t (.agg (cellsE1 d).toArray) (.agg (cellsE1 e).toArray)).run Tryd.prog w = .ok (eqv d e) w := by
  rw [run_equalIn_struct w (k + 2) t _ _ ht hp]
  generalize (Tryd.prog.fieldsOf t).toList = L at hF
  rcases L with _ | ⟨f0, _ | ⟨f1, _ | ⟨f2, L⟩⟩⟩
  · simp at hF
  · simp at hF
  · simp only [List.map_cons, List.map_nil, List.cons.injEq, Prod.mk.injEq, and_true] at hF
    obtain ⟨⟨n0, t0, o0⟩, n1, t1, o1⟩ := hF
    exact ent_fields w k f0 f1 (beq_eq_false_iff_ne.1 n0) (beq_eq_false_iff_ne.1 n1) t0 o0 t1 o1 d e hd he
  · simp at hF
theorem ent_eq (w : World) (d e : Ent) (hd : Id32 d.id) (he : Id32 e.id) : (Op.equalIn 10000 63 (.agg (cellsE1 d).toArray) (.agg (cellsE1 e).toArray)).run Tryd.prog w = .ok (eqv d e) w :=
  ent_eq_of w 63 (by kernel_rfl) (by kernel_rfl) 9997 (by kernel_rfl) d e hd he
end Go.Proofs.YtenodghocenjaaaDoor
