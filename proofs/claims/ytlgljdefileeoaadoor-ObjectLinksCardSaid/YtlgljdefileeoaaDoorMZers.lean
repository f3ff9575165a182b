/- append(s, make([]byte, k)...) onto a row of the call's own. -/
import Derived.Test.YtlgljdefileeoaaDoorMHelds
import Derived.Lib.AppendZerosOnto
import Derived.Test.YtlgljdefileeoaaDoorMOb30s
import Derived.Test.YtlgljdefileeoaaDoorMShaSums
import Derived.Test.YtlgljdefileeoaaDoorMOb9
import Derived.Lib.SlBytesConst
namespace Go.Proofs.YtlgljdefileeoaaDoor
open Go Go.RowKit
theorem zeroCells_u8 (k : Nat) : Builtin.zeroCells #[Value.int .u8 0] k = (cellsB (List.replicate k 0)).toArray := by
  apply Array.ext
  · simp [Builtin.zeroCells, cellsB]
  · intro i h1 h2
    simp only [Builtin.zeroCells, Array.getElem_map, Array.getElem_range, cellsB, List.map_replicate, List.getElem_toArray, List.getElem_replicate]
    have : i % 1 = 0 := Nat.mod_one i
    simp [this]
theorem append_zerosB (base : Nat) (v : Value) (ys : List Nat) (k : Nat) (ty : TypeId) (w : World) (hown : w.ownsRow base 5 1 v ys.length (cellsB ys)) (hk : ys.length + k ≤ 1000000) (hnn : v ≠ .slice none 0 0) (hbase : base ≤ w.heap.size) :
    ∃ v' w', (Builtin.append_ #[22, 3] ty #[v, .int .i64 (k : Int)]).run Tryd.prog w = .ok v' w' ∧ w'.ownsRow base 5 1 v' (ys ++ List.replicate k 0).length (cellsB (ys ++ List.replicate k 0)) ∧ w.grownBy w' v.ownBlock := by
  obtain ⟨i0, hi0, hiz, his, hib⟩ := info_parts byte_info
  have e0 : cellsB (ys ++ List.replicate k 0) = cellsB ys ++ cellsB (List.replicate k 0) := by simp [cellsB]
  have el : (ys ++ List.replicate k 0).length = ys.length + k := by simp
  rw [e0, el]
  have hw : IntKind.i64.wrap (k : Int) = k := IntWalk.i64_in _ (by omega)
  have hw0 : IntKind.i64.wrap 0 = 0 := by decide
  have hneg : ¬ ((k : Int) < 0) := by omega
  have h48 : ¬ ((281474976710656 : Int) < (k : Int)) := by omega
  rcases hown.2 with ⟨rfl, hn0⟩ | ⟨g, cap, cur, rfl, hbg, hg, hnc, hcm, hcs, htake⟩
  · exact absurd rfl hnn
  · by_cases hroom : ys.length + k ≤ cap
    · have hst := run_storeCells_at Tryd.prog g (ys.length * 1) 5 (cellsB (List.replicate k 0)) 0 cur w hg (by rw [cellsB_len, List.length_replicate, hcs]; omega) (cellsB_one _)
      simp only [Nat.add_zero] at hst
      refine ⟨.slice (some ⟨g, 0, none⟩) (ys.length + k) cap, w.setRow g (cur.toList.take (ys.length * 1) ++ cellsB (List.replicate k 0) ++ cur.toList.drop (ys.length * 1 + (cellsB (List.replicate k 0)).length)).toArray, ?_, ⟨by simp [cellsB], .inr ⟨g, cap, _, rfl, hbg, setRow_heap w g cur _ 5 _ hg, hroom, hcm, ?_, ?_⟩⟩, ⟨rfl, rfl, rfl, by simp, fun j _ hj => setRow_other w g j _ (fun e => hj (by simp [Value.ownBlock, e]))⟩⟩
      · rcases Nat.eq_zero_or_pos k with rfl | hpos
        · simp only [List.replicate_zero, cellsB, List.map_nil] at hst
          simp [Builtin.append_, run_underlying Tryd.underlying22, run_underlying Tryd.underlying3, sizeOf, typeInfo, hi0, his, hib, asInt, asIntOf, hw0, hnc, Addr.add_lit, cellsB]
          simp at hst
          simp [hst]
        · have hz : ¬ (k = 0) := by omega
          simp [Builtin.append_, run_underlying Tryd.underlying22, run_underlying Tryd.underlying3, sizeOf, typeInfo, zeroValue, hi0, hiz, his, hib, asInt, asIntOf, hw, hneg, h48, hroom, hz, Addr.add_lit, Value.cells, zeroCells_u8]
          simp at hst
          simp [hst]
      · simp only [List.size_toArray, List.length_append, List.length_take, List.length_drop, Array.length_toList, cellsB_len, List.length_replicate]
        omega
      · have hlen : (cellsB ys ++ cellsB (List.replicate k 0)).length = (ys.length + k) * 1 := by simp [cellsB]
        rw [htake, ← hlen]
        exact List.take_left
    · have holds : (Builtin.firstCells i0.size ys.length (.slice (some ⟨g, 0, none⟩) ys.length cap)).run Tryd.prog w.drew = .ok (cellsB ys).toArray w.drew :=
        run_firstCells_some (P := Tryd.prog) w.drew i0.size ys.length ⟨g, 0, none⟩ ys.length cap (cellsB ys) (by rw [cellsB_len, his]; omega) (fun j u hj => by
          have h := hown.cells (g := g) rfl j u hj
          exact h)
      have hr := Lib.run_append_grow_zeros (P := Tryd.prog) w 22 3 ty 5 i0 _ .i64 .i64 Tryd.underlying22 Tryd.underlying3 hi0 hiz (some ⟨g, 0, none⟩) ys.length cap (cellsB ys) holds k (by omega) (by rw [his]; decide) (by omega) (by omega) (by rw [hib]; omega) (by
        rw [hib]
        have := nextslicecap_le (need := ys.length + k) (old := cap) (by omega)
        omega)
      have hge := grownCap_ge w (ys.length + k) cap 5
      refine ⟨_, _, hr, ⟨by simp [cellsB], .inr ⟨w.heap.size, _, _, rfl, hbase, heap_alloc_new w.drew _, hge, grownCap_le_maxLen w (ys.length + k) cap 5 (by unfold maxLen; omega), ?_, ?_⟩⟩, ⟨rfl, rfl, rfl, by simp, fun j hj _ => Below.heap_alloc w.drew _ j hj⟩⟩
      · simp only [Array.size_append, size_zeroCells, Value.cells, List.size_toArray, cellsB_len]
        simp
        omega
      · have hlen : (cellsB ys ++ cellsB (List.replicate k 0)).length = (ys.length + k) * 1 := by simp [cellsB]
        simp only [Value.cells, zeroCells_u8, Array.toList_append]
        rw [← hlen]
        exact List.take_left
end Go.Proofs.YtlgljdefileeoaaDoor
/- object.Id; zeros appended to a row of one's own; the empty row. -/
namespace Go.Proofs.YtlgljdefileeoaaDoor
open Go Go.RowKit
theorem wpList_append_zerosB {ops : Array Oper} {rest : List Oper} {o : Oper} {a : Act} {w : World} {Q : Exit → Act → World → Prop} (hgd : o.guard = none) (s x : Operand)
    (ho : o.op = .call { callee := .builtin .append, args := #[s, x], argTypes := #[22, 3] }) (base : Nat) (v : Value) (ys : List Nat) (k : Nat) (hs : a.eval s = v) (hx : a.eval x = .int .i64 (k : Int)) (hown : w.ownsRow base 5 1 v ys.length (cellsB ys)) (hk : ys.length + k ≤ 1000000) (hnn : v ≠ .slice none 0 0) (hbase : base ≤ w.heap.size)
    (h : ∀ v' w', w'.ownsRow base 5 1 v' (ys ++ List.replicate k 0).length (cellsB (ys ++ List.replicate k 0)) → w.grownBy w' v.ownBlock → wpList Tryd.prog ops Q rest (a.put o.dst v') w') : wpList Tryd.prog ops Q (o :: rest) a w := by
  obtain ⟨v', w', hr, h1, h2⟩ := append_zerosB base v ys k o.type w hown hk hnn hbase
  refine wpList_plain hgd fun K hK => ?_
  unfold Oper.wp execOp
  simp only [ho, resolve, invoke, builtin, Sem.run_bind, Sem.run_pure, Result.andThen_ok, List.map_toArray, List.map_cons, List.map_nil, hs, hx, hr]
  exact hK _ _ (h v' w' h1 h2)
/-- the empty row that 'T{}' makes -/
theorem own_empty (w : World) (base : Nat) (h : base ≤ w.heap.size) : (w.alloc (.cells #[] 5)).ownsRow base 5 1 (.slice (some ⟨w.heap.size, 0, none⟩) 0 0) 0 (cellsB []) :=
  ⟨rfl, .inr ⟨w.heap.size, 0, #[], rfl, h, heap_alloc_new w _, Nat.le_refl _, by unfold maxLen; omega, rfl, rfl⟩⟩
theorem own_some {w : World} {base : Nat} {n : Nat} {v : Value} {cs : List Value} (h : w.ownsRow base 5 1 v n cs) (hn : 0 < n) : v ≠ .slice none 0 0 := fun e => by
  rcases h.2 with ⟨_, h0⟩ | ⟨g, cap, cur, hv, _⟩
  · omega
  · rw [e] at hv; cases hv
set_option maxRecDepth 100000 in
set_option maxHeartbeats 1000000 in
theorem oid_any (xs : List Nat) (v : Value) (w : World) (hv : Rd w v xs) (hb : Sha.Byte xs) (ht : Tabs w) (hz : xs.length ≤ 549755813888) :
    Calls Tryd.prog 16 #[v] w fun e w' => e = .returned (.agg (u8s (Sha.sum xs))) ∧ Below w.heap.size w w' := by
  have hv0 := hv
  obtain ⟨A, c, rfl, _⟩ := hv0
  obtain ⟨w1, hw1⟩ : ∃ w1, w1 = w.alloc (.cells (u8s (List.replicate 32 0)) 27) := ⟨_, rfl⟩
  obtain ⟨w2, hw2⟩ : ∃ w2, w2 = w1.alloc (.cells #[.slice A xs.length c] 22) := ⟨_, rfl⟩
  have B1 : Below w.heap.size w w1 := hw1 ▸ (Below.refl _ _).alloc (Nat.le_refl _) _
  have s1 : w1.heap.size = w.heap.size + 1 := by rw [hw1]; simp
  have B2 : Below w.heap.size w w2 := by rw [hw2]; exact B1.alloc (by omega) _
  have N2 : Blk w2 w1.heap.size 22 #[.slice A xs.length c] := hw2 ▸ Blk.new w1 _ _
  have R2 : Blk w2 w.heap.size 27 (u8s (List.replicate 32 0)) := by rw [hw2, hw1]; exact (Blk.new w _ _).alloc _
  have CS := sum_any (.slice (some ⟨w1.heap.size, 0, none⟩) 1 1) [.slice A xs.length c] [xs] w2 ⟨_, _, rfl, Nat.le_refl _, fun _ => ⟨_, _, rfl, N2.lt, fun i u hi => by rw [Nat.zero_add]; exact (N2.cell i).trans (by simpa using hi)⟩⟩ rfl
    (fun i u hi => by
      rcases i with _ | i
      · obtain rfl : Value.slice A xs.length c = u := by simpa using hi
        exact hv.below B2 (Nat.le_refl _)
      · simp at hi)
    (fun ps hp => by rw [List.mem_singleton.1 hp]; exact hb) (ht.below B2 (Nat.le_refl _)) (by simp) (fun ps hp => by rw [List.mem_singleton.1 hp]; exact hz)
  rw [show ([xs] : List (List Nat)).flatten = xs by simp] at CS
  have HB2 := Lib.hid B2
  have HR2 := Lib.hid R2
  have HL := Lib.hid (show (u8s (Sha.sum xs)).size = 32 by rw [u8s_size]; exact Sha.join_len _)
  have e1 := hw1.symm
  have e2 := hw2.symm
  rw [s1] at CS
  clear B1 B2 N2 R2 hv hb ht hw1 hw2 s1
  go_enter Tryd.func16, Tryd.ntmps16
  go_wp2_with (go_at_call 26; refine pause ?_)
  unfold Paused
  change Calls _ _ _ ((w.alloc (.cells (u8s (List.replicate 32 0)) 27)).alloc (.cells #[.slice A xs.length c] 22)) _
  rw [e1, e2]
  refine CS.mono ?_
  rintro e w3 ⟨rfl, hb3⟩
  have HR3 := Lib.hid (HR2.out.below hb3 HR2.out.lt)
  have HB3 := Lib.hid (below_next HB2.out hb3)
  clear hb3 CS
  go_wp2_with (first | (refine wpList_store_row rfl 27 (.tmp 2) (.tmp 5) rfl w.heap.size _ rfl rfl 27 _ HR3.out (by rw [HL.out]; exact oid_info) (by rw [HL.out]; rfl) (u8s_one _) ?_))
  exact bodyPost_ret (v := .agg (u8s (Sha.sum xs))) (results_cell_row rfl _ _ w.heap.size 27 _ (0, 0) _ rfl (HR3.out.row _) Tryd.underlying27 rfl (by rw [HL.out]; exact oid_info)) rfl ⟨rfl, below_row HB3.out (Nat.le_refl _) _⟩
end Go.Proofs.YtlgljdefileeoaaDoor
/- The chapter's example of layer 6: alive. -/
namespace Go.Proofs.YtlgljdefileeoaaDoor
open Go Go.RowKit
theorem rd_marked (w : World) (l : List Nat) (t : TypeId) (fr : Nat × Nat) (c : Nat) (hc : l.length ≤ c) : Rd (w.alloc (.cells (u8s l) t fr)) (.slice (some ⟨w.heap.size, 0, none⟩) l.length c) l := by
  have hB : (w.alloc (.cells (u8s l) t fr)).heap[w.heap.size]? = some (.cells (u8s l) t fr) := heap_alloc_new w _
  refine ⟨_, _, rfl, hc, fun _ => ⟨w.heap.size, 0, rfl, (Array.getElem?_eq_some_iff.1 hB).1, fun i hi => ?_⟩⟩
  rw [Nat.zero_add]
  show (match (w.alloc (.cells (u8s l) t fr)).heap[w.heap.size]? with | some (.cells c _ _) => if (none : Option Nat).isSome then none else c[i]? | _ => none) = _
  rw [hB]
  exact u8s_get _ _ hi
abbrev blobCells (g : Nat) : Array Value := #[.int .i64 1, .slice (some ⟨g, 0, none⟩) 1 1, .slice none 0 0, .int .u8 0, .int .u8 0, .int .u8 0, .int .u8 0, .int .u8 0, .int .u8 0, .int .u8 0, .int .u8 0, .int .u8 0, .int .u8 0, .int .u8 0, .int .u8 0, .int .u8 0, .int .u8 0, .int .u8 0, .int .u8 0, .int .u8 0, .int .u8 0, .int .u8 0, .int .u8 0, .int .u8 0, .int .u8 0, .int .u8 0, .int .u8 0, .int .u8 0, .int .u8 0, .int .u8 0, .int .u8 0, .int .u8 0, .int .u8 0, .int .u8 0, .int .u8 0, .slice none 0 0]
set_option maxRecDepth 100000 in
set_option maxHeartbeats 1000000 in
theorem oalive_any (w : World) : Calls Tryd.prog 5 #[] w fun e w' => e = .returned (.bool true) ∧ Below w.heap.size w w' := by
  obtain ⟨w2, hw2⟩ : ∃ w2, w2 = w.alloc (.cells #[.int .u8 120] 5 (1, 2)) := ⟨_, rfl⟩
  have hB : Below w.heap.size w w2 := hw2 ▸ (Below.refl _ _).alloc (Nat.le_refl _) _
  have hR : Rd w2 (.slice (some ⟨w.heap.size, 0, none⟩) 1 1) [120] := hw2 ▸ rd_marked w [120] 5 (1, 2) 1 (by simp)
  have hC : ObC w2 blobX (blobCells w.heap.size) (some ⟨w.heap.size, 0, none⟩) 1 none 0 none 0 := ⟨rfl, hR, RdK.nil _ _, RdK.nil _ _⟩
  have kc := fun (w : World) (C : Array Value) (n c : Nat) => Lib.run_convert_bytes_const (P := Tryd.prog) w 22 5 C n c Tryd.underlying22 Tryd.underlying5
  have CB := bytes_blob _ _ _ _ _ _ _ w2 hC
  have HB := Lib.hid hB
  have e2 := hw2.symm
  clear hB hR hC hw2
  go_enter Tryd.func5, Tryd.ntmps5
  go_wp2_with (go_at_call 12; refine pause ?_)
  unfold Paused
  refine CB.mono ?_
  rintro e w3 ⟨v, rfl, hr, hb⟩
  have HE := Lib.hid (below_next HB.out (by have h := hb; exact ⟨h.os, h.tape, h.output, h.size, h.block⟩))
  have q1 : (convert 22 9 v).run Tryd.prog w3 = .ok (.string ⟨#[98, 120]⟩) w3 := conv_rd hr
  clear hr hb CB e2 kc
  go_wp2
  go_ret
  exact ⟨rfl, HE.out⟩
end Go.Proofs.YtlgljdefileeoaaDoor
