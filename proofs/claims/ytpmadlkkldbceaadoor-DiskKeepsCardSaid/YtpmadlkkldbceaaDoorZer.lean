/- append(s, make([]byte, k)...) onto a row of the call's own. -/
import Derived.Test.YtpmadlkkldbceaaDoorByt
import Derived.Lib.AppendZerosOnto
namespace Go.Proofs.YtpmadlkkldbceaaDoor
open Go Go.RowKit
theorem zeroCells_u8 (k : Nat) : Builtin.zeroCells #[Value.int .u8 0] k = (cellsB (List.replicate k 0)).toArray := by
  apply Array.ext
  · simp [Builtin.zeroCells, cellsB]
  · intro i h1 h2
    simp only [Builtin.zeroCells, Array.getElem_map, Array.getElem_range, cellsB, List.map_replicate, List.getElem_toArray, List.getElem_replicate]
    have : i % 1 = 0 := Nat.mod_one i
    simp [this]
theorem append_zerosB (base : Nat) (v : Value) (ys : List Nat) (k : Nat) (ty : TypeId) (w : World) (hown : w.ownsRow base 5 1 v ys.length (cellsB ys)) (hk : ys.length + k ≤ 100) (hnn : v ≠ .slice none 0 0) (hbase : base ≤ w.heap.size) :
    ∃ v' w', (Builtin.append_ #[32, 3] ty #[v, .int .i64 (k : Int)]).run Tryd.prog w = .ok v' w' ∧ w'.ownsRow base 5 1 v' (ys ++ List.replicate k 0).length (cellsB (ys ++ List.replicate k 0)) ∧ w.grownBy w' v.ownBlock := by
  obtain ⟨i0, hi0, hiz, his, hib⟩ := info_parts byte_info
  have e0 : cellsB (ys ++ List.replicate k 0) = cellsB ys ++ cellsB (List.replicate k 0) := by simp [cellsB]
  have el : (ys ++ List.replicate k 0).length = ys.length + k := by simp
  rw [e0, el]
  have hw : IntKind.i64.wrap (k : Int) = k := IntWalk.i64_in _ (by omega)
  have hw0 : IntKind.i64.wrap 0 = 0 := by decide
  have hneg : ¬ ((k : Int) < 0) := by omega
  have h48 : ¬ ((281474976710656 : Int) < (k : Int)) := by omega
  rcases hown.2 with ⟨rfl, hn0⟩ | ⟨g, cap, cur, rfl, hbg, hg, hnc, hcm, hcs, htake⟩
  · exact absurd rfl hnn
  · by_cases hroom : ys.length + k ≤ cap
    · have hst := run_storeCells_at Tryd.prog g (ys.length * 1) 5 (cellsB (List.replicate k 0)) 0 cur w hg (by rw [cellsB_len, List.length_replicate, hcs]; omega) (cellsB_one _)
      simp only [Nat.add_zero] at hst
      refine ⟨.slice (some ⟨g, 0, none⟩) (ys.length + k) cap, w.setRow g (cur.toList.take (ys.length * 1) ++ cellsB (List.replicate k 0) ++ cur.toList.drop (ys.length * 1 + (cellsB (List.replicate k 0)).length)).toArray, ?_, ⟨by simp [cellsB], .inr ⟨g, cap, _, rfl, hbg, setRow_heap w g cur _ 5 _ hg, hroom, hcm, ?_, ?_⟩⟩, ⟨rfl, rfl, rfl, by simp, fun j _ hj => setRow_other w g j _ (fun e => hj (by simp [Value.ownBlock, e]))⟩⟩
      · rcases Nat.eq_zero_or_pos k with rfl | hpos
        · simp only [List.replicate_zero, cellsB, List.map_nil] at hst
          simp [Builtin.append_, run_underlying Tryd.underlying32, run_underlying Tryd.underlying3, sizeOf, typeInfo, hi0, his, hib, asInt, asIntOf, hw0, hnc, Addr.add_lit, cellsB]
          simp at hst
          simp [hst]
        · have hz : ¬ (k = 0) := by omega
          simp [Builtin.append_, run_underlying Tryd.underlying32, run_underlying Tryd.underlying3, sizeOf, typeInfo, zeroValue, hi0, hiz, his, hib, asInt, asIntOf, hw, hneg, h48, hroom, hz, Addr.add_lit, Value.cells, zeroCells_u8]
          simp at hst
          simp [hst]
      · simp only [List.size_toArray, List.length_append, List.length_take, List.length_drop, Array.length_toList, cellsB_len, List.length_replicate]
        omega
      · have hlen : (cellsB ys ++ cellsB (List.replicate k 0)).length = (ys.length + k) * 1 := by simp [cellsB]
        rw [htake, ← hlen]
        exact List.take_left
    · have holds : (Builtin.firstCells i0.size ys.length (.slice (some ⟨g, 0, none⟩) ys.length cap)).run Tryd.prog w.drew = .ok (cellsB ys).toArray w.drew :=
        run_firstCells_some (P := Tryd.prog) w.drew i0.size ys.length ⟨g, 0, none⟩ ys.length cap (cellsB ys) (by rw [cellsB_len, his]; omega) (fun j u hj => by
          have h := hown.cells (g := g) rfl j u hj
          exact h)
      have hr := Lib.run_append_grow_zeros (P := Tryd.prog) w 32 3 ty 5 i0 _ .i64 .i64 Tryd.underlying32 Tryd.underlying3 hi0 hiz (some ⟨g, 0, none⟩) ys.length cap (cellsB ys) holds k (by omega) (by rw [his]; decide) (by omega) (by omega) (by rw [hib]; omega) (by
        rw [hib]
        unfold Builtin.nextslicecap
        split
        · omega
        · split
          · omega
          · omega)
      have hge := grownCap_ge w (ys.length + k) cap 5
      refine ⟨_, _, hr, ⟨by simp [cellsB], .inr ⟨w.heap.size, _, _, rfl, hbase, heap_alloc_new w.drew _, hge, grownCap_le_maxLen w (ys.length + k) cap 5 (by unfold maxLen; omega), ?_, ?_⟩⟩, ⟨rfl, rfl, rfl, by simp, fun j hj _ => Below.heap_alloc w.drew _ j hj⟩⟩
      · simp only [Array.size_append, size_zeroCells, Value.cells, List.size_toArray, cellsB_len]
        simp
        omega
      · have hlen : (cellsB ys ++ cellsB (List.replicate k 0)).length = (ys.length + k) * 1 := by simp [cellsB]
        simp only [Value.cells, zeroCells_u8, Array.toList_append]
        rw [← hlen]
        exact List.take_left
end Go.Proofs.YtpmadlkkldbceaaDoor
