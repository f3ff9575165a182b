/- The chapter's example of layer 6: alive. -/
import Derived.Test.YtlgljdefileeoaaDoorMOb8s
import Derived.Lib.SlBytesConst
import Derived.Test.YtlgljdefileeoaaDoorMOct18s
namespace Go.Proofs.YtlgljdefileeoaaDoor
open Go Go.RowKit
theorem rd_marked (w : World) (l : List Nat) (t : TypeId) (fr : Nat × Nat) (c : Nat) (hc : l.length ≤ c) : Rd (w.alloc (.cells (u8s l) t fr)) (.slice (some ⟨w.heap.size, 0, none⟩) l.length c) l := by
  have hB : (w.alloc (.cells (u8s l) t fr)).heap[w.heap.size]? = some (.cells (u8s l) t fr) := heap_alloc_new w _
  refine ⟨_, _, rfl, hc, fun _ => ⟨w.heap.size, 0, rfl, (Array.getElem?_eq_some_iff.1 hB).1, fun i hi => ?_⟩⟩
  rw [Nat.zero_add]
  show (match (w.alloc (.cells (u8s l) t fr)).heap[w.heap.size]? with | some (.cells c _ _) => if (none : Option Nat).isSome then none else c[i]? | _ => none) = _
  rw [hB]
  exact u8s_get _ _ hi
abbrev blobCells (g : Nat) : Array Value := #[.int .i64 1, .slice (some ⟨g, 0, none⟩) 1 1, .slice none 0 0, .int .u8 0, .int .u8 0, .int .u8 0, .int .u8 0, .int .u8 0, .int .u8 0, .int .u8 0, .int .u8 0, .int .u8 0, .int .u8 0, .int .u8 0, .int .u8 0, .int .u8 0, .int .u8 0, .int .u8 0, .int .u8 0, .int .u8 0, .int .u8 0, .int .u8 0, .int .u8 0, .int .u8 0, .int .u8 0, .int .u8 0, .int .u8 0, .int .u8 0, .int .u8 0, .int .u8 0, .int .u8 0, .int .u8 0, .int .u8 0, .int .u8 0, .int .u8 0, .slice none 0 0]
set_option maxRecDepth 100000 in
set_option maxHeartbeats 1000000 in
theorem oalive_any (w : World) : Calls Tryd.prog 5 #[] w fun e w' => e = .returned (.bool true) ∧ Below w.heap.size w w' := by
  obtain ⟨w2, hw2⟩ : ∃ w2, w2 = w.alloc (.cells #[.int .u8 120] 5 (1, 2)) := ⟨_, rfl⟩
  have hB : Below w.heap.size w w2 := hw2 ▸ (Below.refl _ _).alloc (Nat.le_refl _) _
  have hR : Rd w2 (.slice (some ⟨w.heap.size, 0, none⟩) 1 1) [120] := hw2 ▸ rd_marked w [120] 5 (1, 2) 1 (by simp)
  have hC : ObC w2 blobX (blobCells w.heap.size) (some ⟨w.heap.size, 0, none⟩) 1 none 0 none 0 := ⟨rfl, hR, RdK.nil _ _, RdK.nil _ _⟩
  have kc := fun (w : World) (C : Array Value) (n c : Nat) => Lib.run_convert_bytes_const (P := Tryd.prog) w 22 5 C n c Tryd.underlying22 Tryd.underlying5
  have CB := bytes_blob _ _ _ _ _ _ _ w2 hC
  have HB := Lib.hid hB
  have e2 := hw2.symm
  clear hB hR hC hw2
  go_enter Tryd.func5, Tryd.ntmps5
  go_wp2_with (go_at_call 12; refine pause ?_)
  unfold Paused
  refine CB.mono ?_
  rintro e w3 ⟨v, rfl, hr, hb⟩
  have HE := Lib.hid (below_next HB.out (by have h := hb; exact ⟨h.os, h.tape, h.output, h.size, h.block⟩))
  have q1 : (convert 22 9 v).run Tryd.prog w3 = .ok (.string ⟨#[98, 120]⟩) w3 := conv_rd hr
  clear hr hb CB e2 kc
  go_wp2
  go_ret
  exact ⟨rfl, HE.out⟩
end Go.Proofs.YtlgljdefileeoaaDoor
/- The document's comparison of two objects (cartageref06.Same). -/
namespace Go.Proofs.YtlgljdefileeoaaDoor
open Go Go.RowKit
theorem rid_eq (w : World) (x y : List Nat) (hx : Id32 x) (hy : Id32 y) : (Op.equalIn 10000 26 (.agg (cellsB x).toArray) (.agg (cellsB y).toArray)).run Tryd.prog w = .ok (eqv x y) w :=
  beq_eqv x y ▸ run_equalIn_u8s w 26 5 32 Tryd.underlying26 Tryd.underlying5 size_u8 x y hx.1 hy.1 hx.2 hy.2
theorem ent_part2 (w : World) (e : Ent) (h : Id32 e.id) : (part 26 (cellsE1 e).toArray 1).run Tryd.prog w = .ok (.agg (cellsB e.id).toArray) w := by
  have hx : List.take 32 (cellsE1 e).tail = cellsB e.id := by
    rw [cellsE1, List.tail_cons, List.take_of_length_le (by rw [cellsB_len, h.1]; omega)]
  have hs : (cellsE1 e).toArray.size = 33 := by rw [List.size_toArray, cellsE1_len h]
  simp [part, isAgg, run_underlying Tryd.underlying26, Tryd.sizeOf26, hx, hs]
theorem rid_eq9 (d : Nat) (w : World) (x y : List Nat) (hx : Id32 x) (hy : Id32 y) : (Op.equalIn (d + 2) 26 (.agg (cellsB x).toArray) (.agg (cellsB y).toArray)).run Tryd.prog w = .ok (eqv x y) w := by
  rw [← beq_eqv, ← ofNat_inj x y hx.2 hy.2]
  have h := run_equalIn_bytes w d 26 5 32 Tryd.underlying26 Tryd.underlying5 size_u8 (x.map UInt8.ofNat) (y.map UInt8.ofNat) (by rw [List.length_map, hx.1]) (by rw [List.length_map, hy.1])
  rw [← u8s_cell x hx.2, ← u8s_cell y hy.2] at h
  exact h
theorem rent_fields (w : World) (k : Nat) (f0 f1 : Field) (n0 : f0.name ≠ "_") (n1 : f1.name ≠ "_") (t0 : f0.type = 9) (o0 : f0.offset = 0) (t1 : f1.type = 26) (o1 : f1.offset = 1)
    (d e : Ent) (hd : Id32 d.id) (he : Id32 e.id) : (Op.eqFields (k + 2) (cellsE1 d).toArray (cellsE1 e).toArray [f0, f1]).run Tryd.prog w = .ok (eqv d e) w := by
  have k5 := run_equalIn_string (P := Tryd.prog) w (k + 1) 9 d.name e.name Tryd.underlying9
  rw [toList_inj] at k5
  have hi' := rid_eq9 k w d.id e.id hd he
  by_cases h1 : d.name = e.name
  · rw [eqv_true h1] at k5
    rw [eqf_true n0 t0 o0 (ent_name w d) (ent_name w e) k5]
    by_cases h2 : d.id = e.id
    · have h3 : d = e := by obtain ⟨dn, di⟩ := d; obtain ⟨en, ei⟩ := e; dsimp only at h1 h2; rw [h1, h2]
      rw [eqv_true h2] at hi'
      rw [eqv_true h3, eqf_true n1 t1 o1 (ent_part2 w d hd) (ent_part2 w e he) hi']
      rfl
    · have h3 : d ≠ e := fun h => h2 (by rw [h])
      rw [eqv_false h2] at hi'
      rw [eqv_false h3, eqf_false n1 t1 o1 (ent_part2 w d hd) (ent_part2 w e he) hi']
  · have h3 : d ≠ e := fun h => h1 (by rw [h])
    rw [eqv_false h1] at k5
    rw [eqv_false h3, eqf_false n0 t0 o0 (ent_name w d) (ent_name w e) k5]
theorem rent_eq_of (w : World) (t : TypeId) (ht : Tryd.prog.underlying t = some (.struct (Tryd.prog.fieldsOf t))) (hp : Tryd.prog.stoodInHeld t = false) (k : Nat) (hF : (Tryd.prog.fieldsOf t).toList.map (fun f => (f.name == "_", f.type, f.offset)) = [(false, 9, 0), (false, 26, 1)])
    (d e : Ent) (hd : Id32 d.id) (he : Id32 e.id) : (Op.equalIn (k + 3) t (.agg (cellsE1 d).toArray) (.agg (cellsE1 e).toArray)).run Tryd.prog w = .ok (eqv d e) w := by
  rw [run_equalIn_struct w (k + 2) t _ _ ht hp]
  generalize (Tryd.prog.fieldsOf t).toList = L at hF
  rcases L with _ | ⟨f0, _ | ⟨f1, _ | ⟨f2, L⟩⟩⟩
  · simp at hF
  · simp at hF
  · simp only [List.map_cons, List.map_nil, List.cons.injEq, Prod.mk.injEq, and_true] at hF
    obtain ⟨⟨n0, t0, o0⟩, n1, t1, o1⟩ := hF
    exact rent_fields w k f0 f1 (beq_eq_false_iff_ne.1 n0) (beq_eq_false_iff_ne.1 n1) t0 o0 t1 o1 d e hd he
  · simp at hF
theorem rent_eq (w : World) (d e : Ent) (hd : Id32 d.id) (he : Id32 e.id) : (Op.equalIn 10000 56 (.agg (cellsE1 d).toArray) (.agg (cellsE1 e).toArray)).run Tryd.prog w = .ok (eqv d e) w :=
  rent_eq_of w 56 (by kernel_rfl) (by kernel_rfl) 9997 (by kernel_rfl) d e hd he
end Go.Proofs.YtlgljdefileeoaaDoor
