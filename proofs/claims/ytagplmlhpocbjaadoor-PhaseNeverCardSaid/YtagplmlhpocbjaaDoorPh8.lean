/- The chapter's example. -/
import Derived.Test.YtagplmlhpocbjaaDoorPh7
import Derived.Laws.StructEq
namespace Go.Proofs.YtagplmlhpocbjaaDoor
open Go Go.RowKit
theorem phf_true {P : Program} {w : World} {d : Nat} {xs ys : Array Value} {f : Field} {fs : List Field} (hn : f.name ≠ "_") {t : TypeId} {o : Nat} (ht : f.type = t) (ho : f.offset = o) {a b : Value}
    (ha : (part t xs o).run P w = .ok a w) (hb : (part t ys o).run P w = .ok b w) (he : (Op.equalIn d t a b).run P w = .ok true w) : (Op.eqFields d xs ys (f :: fs)).run P w = (Op.eqFields d xs ys fs).run P w := by
  subst ht ho
  rw [Op.eqFields, if_pos hn]
  simp only [Sem.run_bind, ha, hb, he, Result.andThen_ok]
  rfl
theorem phf_false {P : Program} {w : World} {d : Nat} {xs ys : Array Value} {f : Field} {fs : List Field} (hn : f.name ≠ "_") {t : TypeId} {o : Nat} (ht : f.type = t) (ho : f.offset = o) {a b : Value}
    (ha : (part t xs o).run P w = .ok a w) (hb : (part t ys o).run P w = .ok b w) (he : (Op.equalIn d t a b).run P w = .ok false w) : (Op.eqFields d xs ys (f :: fs)).run P w = .ok false w := by
  subst ht ho
  rw [Op.eqFields, if_pos hn]
  simp only [Sem.run_bind, ha, hb, he, Result.andThen_ok]
  rfl
theorem ph_under : Tryd.prog.underlying 23 = some (.struct (Tryd.prog.fieldsOf 23)) := by kernel_rfl
theorem ph_part (w : World) (s e : Int) (i : Nat) (h : i < 2) : (part 3 (phC s e) i).run Tryd.prog w = .ok ((phC s e).getD i undef) w := by
  rcases i with _ | _ | i
  · simp [part, isAgg, run_underlying Tryd.underlying3, Tryd.sizeOf3]
  · simp [part, isAgg, run_underlying Tryd.underlying3, Tryd.sizeOf3]
  · omega
theorem ph_eq (w : World) (s e s' e' : Int) : (Op.equalIn 10000 23 (.agg (phC s e)) (.agg (phC s' e'))).run Tryd.prog w = .ok (s == s' && e == e') w := by
  rw [run_equalIn_struct w 9999 23 _ _ ph_under (by kernel_rfl)]
  have hF : (Tryd.prog.fieldsOf 23).toList.map (fun f => (f.name == "_", f.type, f.offset)) = [(false, 3, 0), (false, 3, 1)] := by kernel_rfl
  have k1 := run_equalIn_int (P := Tryd.prog) w 9998 3 .i64 .i64 s s' Tryd.underlying3
  have k2 := run_equalIn_int (P := Tryd.prog) w 9998 3 .i64 .i64 e e' Tryd.underlying3
  generalize (Tryd.prog.fieldsOf 23).toList = L at hF
  rcases L with _ | ⟨f0, _ | ⟨f1, _ | ⟨f2, L⟩⟩⟩
  · simp at hF
  · simp at hF
  · simp only [List.map_cons, List.map_nil, List.cons.injEq, Prod.mk.injEq, and_true] at hF
    obtain ⟨⟨n0, t0, o0⟩, n1, t1, o1⟩ := hF
    have p0 := ph_part w s e 0 (by omega)
    have p0' := ph_part w s' e' 0 (by omega)
    have p1 := ph_part w s e 1 (by omega)
    have p1' := ph_part w s' e' 1 (by omega)
    by_cases h1 : (s == s') = true
    · rw [h1] at k1 ⊢
      rw [phf_true (beq_eq_false_iff_ne.1 n0) t0 o0 p0 p0' k1]
      by_cases h2 : (e == e') = true
      · rw [h2] at k2 ⊢
        rw [phf_true (beq_eq_false_iff_ne.1 n1) t1 o1 p1 p1' k2]
        rfl
      · have h2 : (e == e') = false := by simpa using h2
        rw [h2] at k2 ⊢
        rw [phf_false (beq_eq_false_iff_ne.1 n1) t1 o1 p1 p1' k2]
        rfl
    · have h1 : (s == s') = false := by simpa using h1
      rw [h1] at k1 ⊢
      rw [phf_false (beq_eq_false_iff_ne.1 n0) t0 o0 p0 p0' k1]
      rfl
  · simp at hF
set_option maxRecDepth 100000 in
set_option maxHeartbeats 1000000 in
theorem phalive_any (a : Nat → Addr) (w : World) (hS : Sents w a) : Calls Tryd.prog 7 #[] w fun r w' => r = .returned (.bool true) ∧ Below w.heap.size w w' := by
  have HS := Lib.hid hS
  have CF := fence_any 2 3 3 a w hS
  rw [show Ph.run 2 2 3 3 = (3, 3, 0) by decide] at CF
  unfold phOut phV at CF
  dsimp only at CF
  rw [show erV a 0 = .nilIface from rfl] at CF
  clear hS
  go_enter Tryd.func7, Tryd.ntmps7
  go_wp2_with (go_at_call 18; refine pause ?_)
  unfold Paused
  refine CF.mono ?_
  rintro r w1 ⟨rfl, hb1⟩
  have HB1 := Lib.hid hb1
  clear CF hb1
  go_wp2_with (with_reducible (show wpList _ _ _ (Oper.mk _ (Op.store 23 _ _) _ _ _ _ :: _) _ _); refine pause ?_)
  unfold Paused
  refine wpList_store_row rfl 23 (.tmp 1) (.tmp 10) rfl w1.heap.size (phC 3 3) (by rfl) (by rfl) 23 (phC 0 0) (Blk.new w1 _ _) ph_load rfl (ph_one _ _) ?_
  have HX2 : Hid (Blk ((w1.alloc (.cells (phC 0 0) 23)).setRow w1.heap.size (phC 3 3)) w1.heap.size 23 (phC 3 3)) := Lib.hid ((Blk.new w1 _ _).row _)
  have HB2 : Hid (Below w.heap.size w ((w1.alloc (.cells (phC 0 0) 23)).setRow w1.heap.size (phC 3 3))) := Lib.hid (below_row (HB1.out.alloc HB1.out.size _) HB1.out.size _)
  change wpList _ _ _ _ _ ((w1.alloc (.cells (phC 0 0) 23)).setRow w1.heap.size (phC 3 3))
  generalize (w1.alloc (.cells (phC 0 0) 23)).setRow w1.heap.size (phC 3 3) = w2 at HX2 HB2
  obtain ⟨b, hb⟩ : ∃ b, b = w1.heap.size := ⟨_, rfl⟩
  rw [← hb] at HX2 ⊢
  clear hb HB1
  have CO := open_any 3 3 3 a w2 (HS.out.below HB2.out (Nat.le_refl _))
  rw [show Ph.run 1 3 3 3 = (3, 3, 18) by decide] at CO
  unfold phOut phV at CO
  dsimp only at CO
  rw [show erV a 18 = ev (a 17) from rfl] at CO
  have c0 : w2.cell? ⟨b, 0, none⟩ = some (.int .i64 3) := HX2.out.cell 0
  have c1 : w2.cell? ⟨b, 1, none⟩ = some (.int .i64 3) := HX2.out.cell 1
  go_wp2_with (go_at_call 19; refine pause ?_)
  unfold Paused
  refine CO.mono ?_
  rintro r w3 ⟨rfl, hb3⟩
  have HX3 := Lib.hid (HX2.out.below hb3 HX2.out.lt)
  have HB3 := Lib.hid (HB2.out.trans (hb3.mono HB2.out.size))
  clear CO hb3 c0 c1 HX2 HB2
  clear w2
  go_wp2_with (with_reducible (show wpList _ _ _ (Oper.mk _ (Op.store 23 _ _) _ _ _ _ :: _) _ _); refine pause ?_)
  unfold Paused
  refine wpList_store_row rfl 23 (.tmp 3) (.tmp 15) rfl w3.heap.size (phC 3 3) (by rfl) (by rfl) 23 (phC 0 0) (Blk.new w3 _ _) ph_load rfl (ph_one _ _) ?_
  have HX4 : Hid (Blk ((w3.alloc (.cells (phC 0 0) 23)).setRow w3.heap.size (phC 3 3)) b 23 (phC 3 3)) := Lib.hid ((HX3.out.alloc _).farRow (by have := HX3.out.lt; omega) _)
  have HB4 : Hid (Below w.heap.size w ((w3.alloc (.cells (phC 0 0) 23)).setRow w3.heap.size (phC 3 3))) := Lib.hid (below_row (HB3.out.alloc HB3.out.size _) HB3.out.size _)
  change wpList _ _ _ _ _ ((w3.alloc (.cells (phC 0 0) 23)).setRow w3.heap.size (phC 3 3))
  generalize (w3.alloc (.cells (phC 0 0) 23)).setRow w3.heap.size (phC 3 3) = w4 at HX4 HB4
  clear HB3 HX3
  have CO := open_any 3 3 4 a w4 (HS.out.below HB4.out (Nat.le_refl _))
  rw [show Ph.run 1 3 3 4 = (2, 4, 0) by decide] at CO
  unfold phOut phV at CO
  dsimp only at CO
  rw [show erV a 0 = .nilIface from rfl] at CO
  have c0 : w4.cell? ⟨b, 0, none⟩ = some (.int .i64 3) := HX4.out.cell 0
  have c1 : w4.cell? ⟨b, 1, none⟩ = some (.int .i64 3) := HX4.out.cell 1
  go_wp2_with (go_at_call 19; refine pause ?_)
  unfold Paused
  refine CO.mono ?_
  rintro r w5 ⟨rfl, hb5⟩
  have HX5 := Lib.hid (HX4.out.below hb5 HX4.out.lt)
  have HB5 := Lib.hid (HB4.out.trans (hb5.mono HB4.out.size))
  clear CO hb5 c0 c1 HX4 HB4
  go_wp2_with (with_reducible (show wpList _ _ _ (Oper.mk _ (Op.store 23 _ _) _ _ _ _ :: _) _ _); refine pause ?_)
  unfold Paused
  refine wpList_store_row rfl 23 (.tmp 5) (.tmp 20) rfl w5.heap.size (phC 2 4) (by rfl) (by rfl) 23 (phC 0 0) (Blk.new w5 _ _) ph_load rfl (ph_one _ _) ?_
  have HX6 : Hid (Blk ((w5.alloc (.cells (phC 0 0) 23)).setRow w5.heap.size (phC 2 4)) b 23 (phC 3 3)) := Lib.hid ((HX5.out.alloc _).farRow (by have := HX5.out.lt; omega) _)
  have HY6 : Hid (Blk ((w5.alloc (.cells (phC 0 0) 23)).setRow w5.heap.size (phC 2 4)) w5.heap.size 23 (phC 2 4)) := Lib.hid ((Blk.new w5 _ _).row _)
  have HB6 : Hid (Below w.heap.size w ((w5.alloc (.cells (phC 0 0) 23)).setRow w5.heap.size (phC 2 4))) := Lib.hid (below_row (HB5.out.alloc HB5.out.size _) HB5.out.size _)
  change wpList _ _ _ _ _ ((w5.alloc (.cells (phC 0 0) 23)).setRow w5.heap.size (phC 2 4))
  generalize (w5.alloc (.cells (phC 0 0) 23)).setRow w5.heap.size (phC 2 4) = w6 at HX6 HY6 HB6
  obtain ⟨b5, hb5⟩ : ∃ b, b = w5.heap.size := ⟨_, rfl⟩
  rw [← hb5] at HY6 ⊢
  clear hb5 HB5 HX5
  have c0 : w6.cell? ⟨b, 0, none⟩ = some (.int .i64 3) := HX6.out.cell 0
  have CN := num_any 17 (by omega) a w6 (HS.out.below HB6.out (Nat.le_refl _))
  go_wp2_with (go_at_call 10; refine pause ?_)
  unfold Paused
  refine CN.mono ?_
  rintro r w7 ⟨rfl, hb7⟩
  have HY7 := Lib.hid (HY6.out.below hb7 HY6.out.lt)
  have HB7 := Lib.hid (HB6.out.trans (hb7.mono HB6.out.size))
  clear CN hb7 c0 HX6 HB6 HY6
  have d0 : w7.cell? ⟨b5, 0, none⟩ = some (.int .i64 2) := HY7.out.cell 0
  have d1 : w7.cell? ⟨b5, 1, none⟩ = some (.int .i64 4) := HY7.out.cell 1
  have q0 := ph_eq w7 2 4 2 4
  go_wp2
  go_ret
  exact ⟨rfl, HB7.out⟩
end Go.Proofs.YtagplmlhpocbjaaDoor
