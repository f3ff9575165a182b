/- move and turn: what an event comes to. -/
import Derived.Test.YtagplmlhpocbjaaDoorPh2
import Derived.Test.YtagplmlhpocbjaaDoorUpto
import Derived.Laws.ResultCell
namespace Go.Proofs.YtagplmlhpocbjaaDoor
open Go Go.RowKit
section
theorem results_cell_ph {P : Program} {fn : Func} {p u : Tmp} {ty : TypeId} (h : fn.results = #[.cell p ty, .tmp u]) (tmps : Array Value) (w : World) (g : Nat) (t : TypeId) (cs : Array Value) (d : TypeDesc) (y : Value)
    (hp : tmps.getD p undef = .pointer (some ⟨g, 0, none⟩)) (hy : tmps.getD u undef = y) (hg : Blk w g t cs) (hu : P.underlying ty = some d) (hd : (match d with | .struct _ | .array _ _ => true | _ => false) = true) (hi : (P.info? ty).map (·.size) = some cs.size) :
    (results fn tmps).run P w = .ok (.tuple #[.agg cs, y]) w := by
  rw [results_cell_tmp h, hp, hy]
  have h2 := run_loadVar_row (P := P) w g t ty cs (0, 0) d hg hu hd hi
  simp only [asAddr, Sem.run_pure, Result.andThen_ok, h2]
end
def phOut (a : Nat → Addr) (q : Int × Int × Nat) : Value := .tuple #[phV q.1 q.2.1, erV a q.2.2]
theorem three_new (w : World) (t1 t2 t3 : TypeId) (c1 c2 c3 : Array Value) : ∃ W, W = ((w.alloc (.cells c1 t1)).alloc (.cells c2 t2)).alloc (.cells c3 t3) ∧ Blk W w.heap.size t1 c1 ∧ Blk W (w.heap.size + 1) t2 c2 ∧ Blk W (w.heap.size + 1 + 1) t3 c3 ∧ Below w.heap.size w W := by
  refine ⟨_, rfl, ((Blk.new w _ _).alloc _).alloc _, ?_, ?_, ?_⟩
  · have h := Blk.new (w.alloc (.cells c1 t1)) t2 c2
    have e : (w.alloc (.cells c1 t1)).heap.size = w.heap.size + 1 := by simp
    rw [e] at h
    exact h.alloc _
  · have h := Blk.new ((w.alloc (.cells c1 t1)).alloc (.cells c2 t2)) t3 c3
    have e : ((w.alloc (.cells c1 t1)).alloc (.cells c2 t2)).heap.size = w.heap.size + 1 + 1 := by simp
    rw [e] at h
    exact h
  · exact (((Below.refl _ _).alloc (Nat.le_refl _) _).alloc (by simp) _).alloc (by simp; omega) _
/-- what stands while it is worked out -/
def PhS (w w' : World) (s e s' e' : Int) : Prop := Blk w' w.heap.size 23 (phC s e) ∧ Blk w' (w.heap.size + 1) 23 (phC s' e') ∧ (∃ c, Blk w' (w.heap.size + 1 + 1) 23 c ∧ c.size = 2) ∧ Below w.heap.size w w'
theorem PhS.below {w w1 w2 : World} {s e s' e' : Int} (h : PhS w w1 s e s' e') (hb : Below w1.heap.size w1 w2) : PhS w w2 s e s' e' := by
  obtain ⟨h1, h2, ⟨c, h3, hc⟩, h4⟩ := h
  exact ⟨h1.below hb h1.lt, h2.below hb h2.lt, ⟨c, h3.below hb h3.lt, hc⟩, h4.trans (hb.mono h4.size)⟩
theorem ph_one (s e : Int) : (phC s e).all (·.oneCell') = true := by simp [phC, Value.oneCell']
set_option maxRecDepth 100000 in
theorem move_any (s e s' e' : Int) (t : Bool) (v : Value) (xs : List Int) (a : Nat → Addr) (w : World) (hx : RdI w v xs) (hn : xs.length ≤ 100000) (hS : Sents w a) :
    Calls Tryd.prog 27 #[phV s e, phV s' e', .bool t, v] w fun r w' => r = .returned (phOut a (Ph.move s e s' e' t xs)) ∧ Below w.heap.size w w' := by
  obtain ⟨w0, hw0, x1, x2, x3, hb0⟩ := three_new w 23 23 23 (phC s e) (phC s' e') (phC 0 0)
  have HP : Hid (PhS w w0 s e s' e') := Lib.hid ⟨x1, x2, ⟨_, x3, rfl⟩, hb0⟩
  have HX := Lib.hid hx
  have HS := Lib.hid hS
  have HN := Lib.hid hn
  have HM : Hid (Ph.move s e s' e' t xs = if Ph.rt s e = false then (s, e, 4) else if xs.contains s = false then (s, e, 19) else if t = false then (s, e, 18) else (s', e', 0)) := Lib.hid rfl
  have hv : ∃ A c, v = .slice A xs.length c := by obtain ⟨A, c, rfl, _⟩ := hx; exact ⟨A, c, rfl⟩
  have HW := Lib.hid hw0
  have HGL3 : Hid (3 < w.heap.size) := Lib.hid ((HS.out 3 (by omega)).lt)
  have HGL18 : Hid (18 < w.heap.size) := Lib.hid ((HS.out 18 (by omega)).lt)
  have HGL17 : Hid (17 < w.heap.size) := Lib.hid ((HS.out 17 (by omega)).lt)
  clear hw0 x1 x2 x3 hb0 hx hS hn
  obtain ⟨A, c, rfl⟩ := hv
  have CI := fun w1 (h : Below w.heap.size w w1) => in_any s e _ xs w1 (HX.out.below h (Nat.le_refl _)) HN.out
  generalize Ph.move s e s' e' t xs = q at HM ⊢
  generalize xs.contains s = β at HM CI
  generalize xs.length = n at CI HX ⊢
  have HCI := Lib.hid CI
  clear CI HX
  have CR := right_any s e w0
  generalize Ph.rt s e = ρ at HM CR
  unfold phV
  go_enter Tryd.func27, Tryd.ntmps27
  go_wp2_with (go_at_call 11; refine pause ?_)
  unfold Paused
  rw [← HW.out]
  unfold phV at CR
  refine CR.mono ?_
  rintro r w1 ⟨rfl, hb1⟩
  have HP1 := Lib.hid (HP.out.below hb1)
  clear CR hb1
  clear w0 HW HP
  cases ρ with
  | false =>
    obtain ⟨cR, hcR, hcs⟩ := HP1.out.2.2.1
    have HCR := Lib.hid hcR
    have HCS := Lib.hid hcs
    clear hcR hcs
    have HG : Hid (w1.cell? ⟨3, 0, none⟩ = some (ev (a 3))) := Lib.hid ((HS.out.below HP1.out.2.2.2 (Nat.le_refl _)) 3 (by omega)).var
    go_wp2
    have HGL := HGL3
    have HCC : Hid (Blk w1.drew w.heap.size 23 (phC s e) ∧ w1.drew.cell? ⟨3, 0, none⟩ = some (ev (a 3))) := Lib.hid ⟨HP1.out.1.drew, HG.out⟩
    have HGN : Hid (3 < w.heap.size) := Lib.hid HGL.out
    refine wp_region_held (S := fun w' => Blk w' w.heap.size 23 (phC s e) ∧ w'.cell? ⟨3, 0, none⟩ = some (ev (a 3))) (by kernel_rfl) ?_
    change wpAnyH _ _ _ _ _ _ _ _ w1.drew
    refine wpAnyH_take (i := 0) (v := .agg (phC s e)) rfl (by kernel_rfl) (by kernel_rfl) (by kernel_rfl) (fun _ _ _ h => h) (takes_row 23 (.tmp 4) rfl (by rfl) w.heap.size (by rfl) 23 (phC s e) _ (fun w' hS => hS.1) (by first | exact Tryd.underlying23 | kernel_rfl) (by rfl) ph_load) HCC.out ?_
    try simp only [Act.put, List.getElem_toArray, List.getElem_cons_zero, List.setIfInBounds_toArray, List.set_cons_zero, List.set_cons_succ]
    refine wpAnyH_take (i := 1) (v := ?_) rfl (by kernel_rfl) (by kernel_rfl) (by kernel_rfl) (fun _ _ _ h => h) (Or.inl ⟨by rfl, ?_⟩) HCC.out ?_
    rotate_left
    · intro w' hS; have h0 := hS.2; go_simp; with_reducible rfl
    try simp only [Act.put, List.getElem_toArray, List.getElem_cons_zero, List.getElem_cons_succ, List.setIfInBounds_toArray, List.set_cons_zero, List.set_cons_succ]
    refine all_one (i := 2) (by kernel_rfl) rfl (by rfl) (fun K hK => ?_)
    refine wp_store_row 23 (.tmp 8) (.tmp 14) (by rfl) (w.heap.size + 1 + 1) (phC s e) (by rfl) (by rfl) 23 cR HCR.out.drew ph_load HCS.out (ph_one _ _) ?_
    have HZ : Hid (Blk (w1.drew.setRow (w.heap.size + 1 + 1) (phC s e)) (w.heap.size + 1 + 1) 23 (phC s e)) := Lib.hid (HCR.out.drew.row _)
    have HBZ : Hid (Below w.heap.size w (w1.drew.setRow (w.heap.size + 1 + 1) (phC s e))) := Lib.hid (below_row (below_drewN HP1.out.2.2.2 1) (by omega) _)
    have HCZ : Hid (Blk (w1.drew.setRow (w.heap.size + 1 + 1) (phC s e)) w.heap.size 23 (phC s e) ∧ (w1.drew.setRow (w.heap.size + 1 + 1) (phC s e)).cell? ⟨3, 0, none⟩ = some (ev (a 3))) := Lib.hid ⟨HCC.out.1.farRow (by omega) _, (cell_setRow_other w1.drew _ _ _ (show 3 ≠ w.heap.size + 1 + 1 by have := HGN.out; omega)).trans HCC.out.2⟩
    refine hK _ _ HCZ.out ?_
    generalize w1.drew.setRow (w.heap.size + 1 + 1) (phC s e) = wz at HZ HBZ HCZ
    try simp only [Act.put, List.getElem_toArray, List.getElem_cons_zero, List.getElem_cons_succ]
    refine wpAnyH_take (i := 3) (v := ?_) rfl (by kernel_rfl) (by kernel_rfl) (by kernel_rfl) (fun _ _ _ h => h) (Or.inl ⟨by rfl, ?_⟩) HCZ.out ?_
    rotate_left
    · intro w' hS; go_simp; with_reducible rfl
    try simp only [Act.put, List.getElem_toArray, List.getElem_cons_zero, List.getElem_cons_succ, List.setIfInBounds_toArray, List.set_cons_zero, List.set_cons_succ]
    refine wpAnyH_done (by kernel_rfl) ?_ _
    go_wp2
    exact bodyPost_ret (v := .tuple #[.agg (phC s e), ev (a 3)]) (results_cell_ph rfl _ _ (w.heap.size + 1 + 1) 23 (phC s e) _ _ (by rfl) (by rfl) HZ.out Tryd.underlying23 rfl ph_load) rfl ⟨by rw [HM.out]; rfl, HBZ.out⟩
  | true =>
    have c0 : w1.cell? ⟨w.heap.size, 0, none⟩ = some (.int .i64 s) := HP1.out.1.cell 0
    have c1 : w1.cell? ⟨w.heap.size, 1, none⟩ = some (.int .i64 e) := HP1.out.1.cell 1
    go_wp2_with (go_at_call 25; refine pause ?_)
    unfold Paused
    have CI := HCI.out w1 HP1.out.2.2.2
    unfold phV at CI
    refine CI.mono ?_
    rintro r w2 ⟨rfl, hb2⟩
    have HP2 := Lib.hid (HP1.out.below hb2)
    clear CI hb2 HCI c0 c1
    clear w1 HP1
    obtain ⟨cR, hcR, hcs⟩ := HP2.out.2.2.1
    have HCR := Lib.hid hcR
    have HCS := Lib.hid hcs
    clear hcR hcs
    cases β with
    | false =>
      have HG : Hid (w2.cell? ⟨18, 0, none⟩ = some (ev (a 18))) := Lib.hid ((HS.out.below HP2.out.2.2.2 (Nat.le_refl _)) 18 (by omega)).var
      go_wp2
      have HGL := HGL18
      have HCC : Hid (Blk w2.drew w.heap.size 23 (phC s e) ∧ w2.drew.cell? ⟨18, 0, none⟩ = some (ev (a 18))) := Lib.hid ⟨HP2.out.1.drew, HG.out⟩
      have HGN : Hid (18 < w.heap.size) := Lib.hid HGL.out
      refine wp_region_held (S := fun w' => Blk w' w.heap.size 23 (phC s e) ∧ w'.cell? ⟨18, 0, none⟩ = some (ev (a 18))) (by kernel_rfl) ?_
      change wpAnyH _ _ _ _ _ _ _ _ w2.drew
      refine wpAnyH_take (i := 0) (v := .agg (phC s e)) rfl (by kernel_rfl) (by kernel_rfl) (by kernel_rfl) (fun _ _ _ h => h) (takes_row 23 (.tmp 4) rfl (by rfl) w.heap.size (by rfl) 23 (phC s e) _ (fun w' hS => hS.1) (by first | exact Tryd.underlying23 | kernel_rfl) (by rfl) ph_load) HCC.out ?_
      try simp only [Act.put, List.getElem_toArray, List.getElem_cons_zero, List.setIfInBounds_toArray, List.set_cons_zero, List.set_cons_succ]
      refine wpAnyH_take (i := 1) (v := ?_) rfl (by kernel_rfl) (by kernel_rfl) (by kernel_rfl) (fun _ _ _ h => h) (Or.inl ⟨by rfl, ?_⟩) HCC.out ?_
      rotate_left
      · intro w' hS; have h0 := hS.2; go_simp; with_reducible rfl
      try simp only [Act.put, List.getElem_toArray, List.getElem_cons_zero, List.getElem_cons_succ, List.setIfInBounds_toArray, List.set_cons_zero, List.set_cons_succ]
      refine all_one (i := 2) (by kernel_rfl) rfl (by rfl) (fun K hK => ?_)
      refine wp_store_row 23 (.tmp 8) (.tmp 21) (by rfl) (w.heap.size + 1 + 1) (phC s e) (by rfl) (by rfl) 23 cR HCR.out.drew ph_load HCS.out (ph_one _ _) ?_
      have HZ : Hid (Blk (w2.drew.setRow (w.heap.size + 1 + 1) (phC s e)) (w.heap.size + 1 + 1) 23 (phC s e)) := Lib.hid (HCR.out.drew.row _)
      have HBZ : Hid (Below w.heap.size w (w2.drew.setRow (w.heap.size + 1 + 1) (phC s e))) := Lib.hid (below_row (below_drewN HP2.out.2.2.2 1) (by omega) _)
      have HCZ : Hid (Blk (w2.drew.setRow (w.heap.size + 1 + 1) (phC s e)) w.heap.size 23 (phC s e) ∧ (w2.drew.setRow (w.heap.size + 1 + 1) (phC s e)).cell? ⟨18, 0, none⟩ = some (ev (a 18))) := Lib.hid ⟨HCC.out.1.farRow (by omega) _, (cell_setRow_other w2.drew _ _ _ (show 18 ≠ w.heap.size + 1 + 1 by have := HGN.out; omega)).trans HCC.out.2⟩
      refine hK _ _ HCZ.out ?_
      generalize w2.drew.setRow (w.heap.size + 1 + 1) (phC s e) = wz at HZ HBZ HCZ
      try simp only [Act.put, List.getElem_toArray, List.getElem_cons_zero, List.getElem_cons_succ]
      refine wpAnyH_take (i := 3) (v := ?_) rfl (by kernel_rfl) (by kernel_rfl) (by kernel_rfl) (fun _ _ _ h => h) (Or.inl ⟨by rfl, ?_⟩) HCZ.out ?_
      rotate_left
      · intro w' hS; go_simp; with_reducible rfl
      try simp only [Act.put, List.getElem_toArray, List.getElem_cons_zero, List.getElem_cons_succ, List.setIfInBounds_toArray, List.set_cons_zero, List.set_cons_succ]
      refine wpAnyH_done (by kernel_rfl) ?_ _
      go_wp2
      exact bodyPost_ret (v := .tuple #[.agg (phC s e), ev (a 18)]) (results_cell_ph rfl _ _ (w.heap.size + 1 + 1) 23 (phC s e) _ _ (by rfl) (by rfl) HZ.out Tryd.underlying23 rfl ph_load) rfl ⟨by rw [HM.out]; rfl, HBZ.out⟩
    | true =>
      cases t with
      | false =>
        have HG : Hid (w2.cell? ⟨17, 0, none⟩ = some (ev (a 17))) := Lib.hid ((HS.out.below HP2.out.2.2.2 (Nat.le_refl _)) 17 (by omega)).var
        go_wp2
        have HGL := HGL17
        have HCC : Hid (Blk w2.drew w.heap.size 23 (phC s e) ∧ w2.drew.cell? ⟨17, 0, none⟩ = some (ev (a 17))) := Lib.hid ⟨HP2.out.1.drew, HG.out⟩
        have HGN : Hid (17 < w.heap.size) := Lib.hid HGL.out
        refine wp_region_held (S := fun w' => Blk w' w.heap.size 23 (phC s e) ∧ w'.cell? ⟨17, 0, none⟩ = some (ev (a 17))) (by kernel_rfl) ?_
        change wpAnyH _ _ _ _ _ _ _ _ w2.drew
        refine wpAnyH_take (i := 0) (v := .agg (phC s e)) rfl (by kernel_rfl) (by kernel_rfl) (by kernel_rfl) (fun _ _ _ h => h) (takes_row 23 (.tmp 4) rfl (by rfl) w.heap.size (by rfl) 23 (phC s e) _ (fun w' hS => hS.1) (by first | exact Tryd.underlying23 | kernel_rfl) (by rfl) ph_load) HCC.out ?_
        try simp only [Act.put, List.getElem_toArray, List.getElem_cons_zero, List.setIfInBounds_toArray, List.set_cons_zero, List.set_cons_succ]
        refine wpAnyH_take (i := 1) (v := ?_) rfl (by kernel_rfl) (by kernel_rfl) (by kernel_rfl) (fun _ _ _ h => h) (Or.inl ⟨by rfl, ?_⟩) HCC.out ?_
        rotate_left
        · intro w' hS; have h0 := hS.2; go_simp; with_reducible rfl
        try simp only [Act.put, List.getElem_toArray, List.getElem_cons_zero, List.getElem_cons_succ, List.setIfInBounds_toArray, List.set_cons_zero, List.set_cons_succ]
        refine all_one (i := 2) (by kernel_rfl) rfl (by rfl) (fun K hK => ?_)
        refine wp_store_row 23 (.tmp 8) (.tmp 26) (by rfl) (w.heap.size + 1 + 1) (phC s e) (by rfl) (by rfl) 23 cR HCR.out.drew ph_load HCS.out (ph_one _ _) ?_
        have HZ : Hid (Blk (w2.drew.setRow (w.heap.size + 1 + 1) (phC s e)) (w.heap.size + 1 + 1) 23 (phC s e)) := Lib.hid (HCR.out.drew.row _)
        have HBZ : Hid (Below w.heap.size w (w2.drew.setRow (w.heap.size + 1 + 1) (phC s e))) := Lib.hid (below_row (below_drewN HP2.out.2.2.2 1) (by omega) _)
        have HCZ : Hid (Blk (w2.drew.setRow (w.heap.size + 1 + 1) (phC s e)) w.heap.size 23 (phC s e) ∧ (w2.drew.setRow (w.heap.size + 1 + 1) (phC s e)).cell? ⟨17, 0, none⟩ = some (ev (a 17))) := Lib.hid ⟨HCC.out.1.farRow (by omega) _, (cell_setRow_other w2.drew _ _ _ (show 17 ≠ w.heap.size + 1 + 1 by have := HGN.out; omega)).trans HCC.out.2⟩
        refine hK _ _ HCZ.out ?_
        generalize w2.drew.setRow (w.heap.size + 1 + 1) (phC s e) = wz at HZ HBZ HCZ
        try simp only [Act.put, List.getElem_toArray, List.getElem_cons_zero, List.getElem_cons_succ]
        refine wpAnyH_take (i := 3) (v := ?_) rfl (by kernel_rfl) (by kernel_rfl) (by kernel_rfl) (fun _ _ _ h => h) (Or.inl ⟨by rfl, ?_⟩) HCZ.out ?_
        rotate_left
        · intro w' hS; go_simp; with_reducible rfl
        try simp only [Act.put, List.getElem_toArray, List.getElem_cons_zero, List.getElem_cons_succ, List.setIfInBounds_toArray, List.set_cons_zero, List.set_cons_succ]
        refine wpAnyH_done (by kernel_rfl) ?_ _
        go_wp2
        exact bodyPost_ret (v := .tuple #[.agg (phC s e), ev (a 17)]) (results_cell_ph rfl _ _ (w.heap.size + 1 + 1) 23 (phC s e) _ _ (by rfl) (by rfl) HZ.out Tryd.underlying23 rfl ph_load) rfl ⟨by rw [HM.out]; rfl, HBZ.out⟩
      | true =>
        go_wp2_with (with_reducible (show wpList _ _ _ (Oper.mk _ (Op.load 23 _) _ _ _ _ :: _) _ _); refine pause ?_)
        unfold Paused
        refine wpList_row_w rfl 23 (.tmp 5) rfl (w.heap.size + 1) (by rfl) 23 (phC s' e') _ HP2.out.2.1 Tryd.underlying23 rfl ph_load ?_
        try simp only [Act.put, List.setIfInBounds_toArray, List.set_cons_zero, List.set_cons_succ]
        go_wp2_with (with_reducible (show wpList _ _ _ (Oper.mk _ (Op.store 23 _ _) _ _ _ _ :: _) _ _); refine pause ?_)
        unfold Paused
        refine wpList_store_row rfl 23 (.tmp 8) (.tmp 28) rfl (w.heap.size + 1 + 1) (phC s' e') (by rfl) (by rfl) 23 cR HCR.out ph_load HCS.out (ph_one _ _) ?_
        have HZ : Hid (Blk (w2.setRow (w.heap.size + 1 + 1) (phC s' e')) (w.heap.size + 1 + 1) 23 (phC s' e')) := Lib.hid (HCR.out.row _)
        have HBZ : Hid (Below w.heap.size w (w2.setRow (w.heap.size + 1 + 1) (phC s' e'))) := Lib.hid (below_row HP2.out.2.2.2 (by omega) _)
        generalize w2.setRow (w.heap.size + 1 + 1) (phC s' e') = wz at HZ HBZ
        go_wp2
        exact bodyPost_ret (v := .tuple #[.agg (phC s' e'), .nilIface]) (results_cell_ph rfl _ _ (w.heap.size + 1 + 1) 23 (phC s' e') _ _ (by rfl) (by rfl) HZ.out Tryd.underlying23 rfl ph_load) rfl ⟨by rw [HM.out]; rfl, HBZ.out⟩
end Go.Proofs.YtagplmlhpocbjaaDoor
