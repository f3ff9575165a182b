/- Entries as the document has them, compared (cartageref10.Same). -/
import Derived.Test.YtldfjpafpfakcaaDoorMEn16s
namespace Go.Proofs.YtldfjpafpfakcaaDoor
open Go Go.RowKit
theorem id_eq9R (d : Nat) (w : World) (x y : List Nat) (hx : Id32 x) (hy : Id32 y) : (Op.equalIn (d + 2) 35 (.agg (cellsB x).toArray) (.agg (cellsB y).toArray)).run Tryd.prog w = .ok (eqv x y) w := by
  rw [← beq_eqv, ← ofNat_inj x y hx.2 hy.2]
  have h := run_equalIn_bytes w d 35 5 32 Tryd.underlying35 Tryd.underlying5 size_u8 (x.map UInt8.ofNat) (y.map UInt8.ofNat) (by rw [List.length_map, hx.1]) (by rw [List.length_map, hy.1])
  rw [← u8s_cell x hx.2, ← u8s_cell y hy.2] at h
  exact h
theorem up_oldR (w : World) (u : En.Up) (h : u.Fit) : (part 35 (cellsU1 u).toArray 1).run Tryd.prog w = .ok (.agg (cellsB u.old).toArray) w := by
  have hx : List.take 32 (cellsU1 u).tail = cellsB u.old := by
    rw [cellsU1, List.tail_cons, List.take_append_of_le_length (by rw [cellsB_len, h.1.1]; omega), List.take_of_length_le (by rw [cellsB_len, h.1.1]; omega)]
  have hs : (cellsU1 u).toArray.size = 65 := by rw [List.size_toArray, cellsU1_len h]
  simp [part, isAgg, run_underlying Tryd.underlying35, Tryd.sizeOf35, hx, hs]
theorem up_newR (w : World) (u : En.Up) (h : u.Fit) : (part 35 (cellsU1 u).toArray 33).run Tryd.prog w = .ok (.agg (cellsB u.new).toArray) w := by
  have hx : List.take 32 (List.drop 33 (cellsU1 u)) = cellsB u.new := by
    rw [cellsU1, List.drop_succ_cons, List.drop_append_of_le_length (by rw [cellsB_len, h.1.1]; omega), List.drop_of_length_le (by rw [cellsB_len, h.1.1]; omega), List.nil_append, List.take_of_length_le (by rw [cellsB_len, h.2.1]; omega)]
  have hs : (cellsU1 u).toArray.size = 65 := by rw [List.size_toArray, cellsU1_len h]
  simp [part, isAgg, run_underlying Tryd.underlying35, Tryd.sizeOf35, hx, hs]
theorem up_fieldsR (w : World) (k : Nat) (f0 f1 f2 : Field) (n0 : f0.name ≠ "_") (n1 : f1.name ≠ "_") (n2 : f2.name ≠ "_") (t0 : f0.type = 9) (o0 : f0.offset = 0) (t1 : f1.type = 35) (o1 : f1.offset = 1) (t2 : f2.type = 35) (o2 : f2.offset = 33)
    (d e : En.Up) (hd : d.Fit) (he : e.Fit) : (Op.eqFields (k + 2) (cellsU1 d).toArray (cellsU1 e).toArray [f0, f1, f2]).run Tryd.prog w = .ok (eqv d e) w := by
  have k5 := run_equalIn_string (P := Tryd.prog) w (k + 1) 9 d.ref e.ref Tryd.underlying9
  rw [toList_inj] at k5
  have k6 := id_eq9R k w d.old e.old hd.1 he.1
  have k7 := id_eq9R k w d.new e.new hd.2 he.2
  by_cases h1 : d.ref = e.ref
  · rw [eqv_true h1] at k5
    rw [eqf_true n0 t0 o0 (up_ref w d) (up_ref w e) k5]
    by_cases h2 : d.old = e.old
    · rw [eqv_true h2] at k6
      rw [eqf_true n1 t1 o1 (up_oldR w d hd) (up_oldR w e he) k6]
      by_cases h3 : d.new = e.new
      · have h4 : d = e := by
          obtain ⟨a1, a2, a3⟩ := d
          obtain ⟨b1, b2, b3⟩ := e
          dsimp only at h1 h2 h3
          rw [h1, h2, h3]
        rw [eqv_true h3] at k7
        rw [eqv_true h4, eqf_true n2 t2 o2 (up_newR w d hd) (up_newR w e he) k7]
        rfl
      · have h4 : d ≠ e := fun h => h3 (by rw [h])
        rw [eqv_false h3] at k7
        rw [eqv_false h4, eqf_false n2 t2 o2 (up_newR w d hd) (up_newR w e he) k7]
    · have h4 : d ≠ e := fun h => h2 (by rw [h])
      rw [eqv_false h2] at k6
      rw [eqv_false h4, eqf_false n1 t1 o1 (up_oldR w d hd) (up_oldR w e he) k6]
  · have h4 : d ≠ e := fun h => h1 (by rw [h])
    rw [eqv_false h1] at k5
    rw [eqv_false h4, eqf_false n0 t0 o0 (up_ref w d) (up_ref w e) k5]
theorem up_eq_ofR (w : World) (t : TypeId) (ht : Tryd.prog.underlying t = some (.struct (Tryd.prog.fieldsOf t))) (hp : Tryd.prog.stoodInHeld t = false) (k : Nat) (hF : (Tryd.prog.fieldsOf t).toList.map (fun f => (f.name == "_", f.type, f.offset)) = [(false, 9, 0), (false, 35, 1), (false, 35, 33)])
    (d e : En.Up) (hd : d.Fit) (he : e.Fit) : (Op.equalIn (k + 3) t (.agg (cellsU1 d).toArray) (.agg (cellsU1 e).toArray)).run Tryd.prog w = .ok (eqv d e) w := by
  rw [run_equalIn_struct w (k + 2) t _ _ ht hp]
  generalize (Tryd.prog.fieldsOf t).toList = L at hF
  rcases L with _ | ⟨f0, _ | ⟨f1, _ | ⟨f2, _ | ⟨f3, L⟩⟩⟩⟩
  · simp at hF
  · simp at hF
  · simp at hF
  · simp only [List.map_cons, List.map_nil, List.cons.injEq, Prod.mk.injEq, and_true] at hF
    obtain ⟨⟨n0, t0, o0⟩, ⟨n1, t1, o1⟩, n2, t2, o2⟩ := hF
    exact up_fieldsR w k f0 f1 f2 (beq_eq_false_iff_ne.1 n0) (beq_eq_false_iff_ne.1 n1) (beq_eq_false_iff_ne.1 n2) t0 o0 t1 o1 t2 o2 d e hd he
  · simp at hF
theorem up_eqR (w : World) (d e : En.Up) (hd : d.Fit) (he : e.Fit) : (Op.equalIn 10000 41 (.agg (cellsU1 d).toArray) (.agg (cellsU1 e).toArray)).run Tryd.prog w = .ok (eqv d e) w :=
  up_eq_ofR w 41 (by kernel_rfl) (by kernel_rfl) 9997 (by kernel_rfl) d e hd he
set_option maxRecDepth 100000 in
set_option maxHeartbeats 4000000 in
theorem rsame_any (a b : En.E) (ca cb : Array Value) (U1 O1 U2 O2 : Option Addr) (cu1 co1 cu2 co2 : Nat) (ts us : List En.Bt) (w : World) (ha : EnC w a ca U1 cu1 O1 co1 ts) (hb : EnC w b cb U2 cu2 O2 co2 us) (lu : a.ups.length ≤ 1000) (lo : a.objs.length ≤ 100000) :
    Calls Tryd.prog 9 #[.agg ca, .agg cb] w fun e w' => e = .returned (.bool (eqv a b)) ∧ Below w.heap.size w w' := by
  obtain ⟨w2, hw2⟩ : ∃ w2, w2 = (w.alloc (.cells ca 29)).alloc (.cells cb 29) := ⟨_, rfl⟩
  have b2 : Below w.heap.size w w2 := hw2 ▸ boxed ca cb _
  have B1 : Blk w2 w.heap.size 29 ca := hw2 ▸ (Blk.new w _ _).alloc _
  have B2 : Blk w2 (w.heap.size + 1) 29 cb := hw2 ▸ boxed2 ca cb _
  have HA := Lib.hid (ha.below b2)
  have HB := Lib.hid (hb.below b2)
  have HB2 := Lib.hid b2
  have HE : Hid (eqv a b = (eqv a.client b.client && (eqv a.number b.number && (eqv a.answer b.answer && (eqv a.ups b.ups && eqv (ts.map (·.text)) (us.map (·.text))))))) := Lib.hid (by
    rw [ha.txt, hb.txt]
    obtain ⟨a1, a2, a3, a4, a5⟩ := a
    obtain ⟨b1, b2, b3, b4, b5⟩ := b
    rw [Bool.eq_iff_iff]
    simp only [Bool.and_eq_true, eqv_iff, En.E.mk.injEq])
  have CO : ∀ n, Calls Tryd.prog 20 #[.slice O1 a.objs.length co1, .slice O2 b.objs.length co2] (w2.drewN n) _ := fun n => sameLists_any O1 O2 _ _ co1 co2 ts us (w2.drewN n) (HA.out.objs.below (below_drewN (Below.refl _ _) n)) (HB.out.objs.below (below_drewN (Below.refl _ _) n)) lo
  have HUL : Hid (a.ups.length ≠ b.ups.length → eqv a.ups b.ups = false) := Lib.hid (fun h => eqv_false fun e => h (by rw [e]))
  have p0 : w2.cell? ⟨w.heap.size, 0, none⟩ = some (.int .i64 a.client) := (B1.cell 0).trans (by rw [ha.cells]; rfl)
  have p1 : w2.cell? ⟨w.heap.size, 1, none⟩ = some (.int .i64 a.number) := (B1.cell 1).trans (by rw [ha.cells]; rfl)
  have p2 : w2.cell? ⟨w.heap.size, 2, none⟩ = some (.int .i64 a.answer) := (B1.cell 2).trans (by rw [ha.cells]; rfl)
  have p3 : w2.cell? ⟨w.heap.size, 3, none⟩ = some (.slice U1 a.ups.length cu1) := (B1.cell 3).trans (by rw [ha.cells]; rfl)
  have p4 : w2.cell? ⟨w.heap.size, 4, none⟩ = some (.slice O1 a.objs.length co1) := (B1.cell 4).trans (by rw [ha.cells]; rfl)
  have q0 : w2.cell? ⟨w.heap.size + 1, 0, none⟩ = some (.int .i64 b.client) := (B2.cell 0).trans (by rw [hb.cells]; rfl)
  have q1 : w2.cell? ⟨w.heap.size + 1, 1, none⟩ = some (.int .i64 b.number) := (B2.cell 1).trans (by rw [hb.cells]; rfl)
  have q2 : w2.cell? ⟨w.heap.size + 1, 2, none⟩ = some (.int .i64 b.answer) := (B2.cell 2).trans (by rw [hb.cells]; rfl)
  have q3 : w2.cell? ⟨w.heap.size + 1, 3, none⟩ = some (.slice U2 b.ups.length cu2) := (B2.cell 3).trans (by rw [hb.cells]; rfl)
  have q4 : w2.cell? ⟨w.heap.size + 1, 4, none⟩ = some (.slice O2 b.objs.length co2) := (B2.cell 4).trans (by rw [hb.cells]; rfl)
  have e1 : (a.client == b.client) = eqv a.client b.client := by rw [Bool.eq_iff_iff, beq_iff_eq, eqv_iff]
  have e2 : (a.number == b.number) = eqv a.number b.number := by rw [Bool.eq_iff_iff, beq_iff_eq, eqv_iff]
  have e3 : (a.answer == b.answer) = eqv a.answer b.answer := by rw [Bool.eq_iff_iff, beq_iff_eq, eqv_iff]
  have ew := hw2.symm
  generalize eqv a b = R at HE ⊢
  generalize eqv a.client b.client = r1 at HE e1
  generalize eqv a.number b.number = r2 at HE e2
  generalize eqv a.answer b.answer = r3 at HE e3
  generalize eqv (ts.map (·.text)) (us.map (·.text)) = r5 at HE CO
  generalize a.client = x1 at p0 e1
  generalize a.number = x2 at p1 e2
  generalize a.answer = x3 at p2 e3
  generalize b.client = y1 at q0 e1
  generalize b.number = y2 at q1 e2
  generalize b.answer = y3 at q2 e3
  generalize a.objs.length = m1 at p4 CO
  generalize b.objs.length = m2 at q4 CO
  obtain ⟨n1, hn1⟩ : ∃ n, n = a.ups.length := ⟨_, rfl⟩
  obtain ⟨n2, hn2⟩ : ∃ n, n = b.ups.length := ⟨_, rfl⟩
  rw [← hn1] at p3
  rw [← hn2] at q3
  have HN1 := Lib.hid hn1
  have HN2 := Lib.hid hn2
  have HLU := Lib.hid lu
  clear ha hb b2 B1 B2 hw2 lu lo hn1 hn2
  go_enter Tryd.func9, Tryd.ntmps9
  have f1 : (x1 != y1) = !r1 := by rw [bne, e1]
  clear e1
  cases r1
  · rw [Bool.not_false] at f1
    go_wp2
    go_ret
    exact ⟨by rw [HE.out]; rfl, HB2.out⟩
  rw [Bool.not_true] at f1
  have f2 : (x2 != y2) = !r2 := by rw [bne, e2]
  clear e2
  cases r2
  · rw [Bool.not_false] at f2
    go_wp2
    go_ret
    exact ⟨by rw [HE.out]; rfl, HB2.out⟩
  rw [Bool.not_true] at f2
  have f3 : (x3 != y3) = !r3 := by rw [bne, e3]
  clear e3
  cases r3
  · rw [Bool.not_false] at f3
    go_wp2
    go_ret
    exact ⟨by rw [HE.out]; rfl, HB2.out⟩
  rw [Bool.not_true] at f3
  by_cases hnn : n1 = n2
  rotate_left
  · have b0 : ((n1 : Int) != (n2 : Int)) = true := by simp; omega
    have HF := Lib.hid (HUL.out (by rw [← HN1.out, ← HN2.out]; exact hnn))
    clear hnn
    go_wp2
    go_ret
    exact ⟨by rw [HE.out, HF.out]; rfl, HB2.out⟩
  subst hnn
  have b0 : ((n1 : Int) != (n1 : Int)) = false := by simp
  go_wp2_with (go_at_call 20; refine pause ?_)
  unfold Paused
  refine (CO 0).mono ?_
  rintro e w3 ⟨rfl, m3, rfl⟩
  clear CO f1 f2 f3
  cases r5
  · go_wp2
    go_ret
    exact ⟨by rw [HE.out]; simp, below_drewN HB2.out _⟩
  go_wp2
  go_loopw [45] (fun i wr => ∃ k q : Nat, k ≤ n1 ∧ i = .int .i64 k ∧ Hid (a.ups.take k = b.ups.take k) ∧ wr = w2.drewN q) (fun i _ => n1 - (intOf i).toNat)
  case atStart => exact ⟨0, m3, Nat.zero_le _, rfl, Lib.hid rfl, by simp⟩
  case round =>
    obtain ⟨k, q, hk, rfl, HT, rfl⟩ := hrel
    rcases Nat.lt_or_ge k n1 with hlt | hlt
    · have h1 : k < a.ups.length := by rw [← HN1.out]; exact hlt
      have h2 : k < b.ups.length := by rw [← HN2.out]; exact hlt
      obtain ⟨b1, o1, rfl, _, g1⟩ := HA.out.ups.up rfl HA.out.fit h1
      obtain ⟨b2, o2, rfl, _, g2⟩ := HB.out.ups.up rfl HB.out.fit h2
      have fx := HA.out.fit
      have fy := HB.out.fit
      have l1 : ∀ m, (Instr.loadAt 41 (.pointer (some ⟨b1, o1 + k * 65, none⟩))).run Tryd.prog (w2.drewN m) = .ok (.agg (cellsU1 a.ups[k]).toArray) (w2.drewN m) := fun m => run_loadAt_mid (w2.drewN m) b1 (o1 + k * 65) 41 _ _ g1 (by first | exact Tryd.underlying41 | kernel_rfl) rfl (by rw [cellsU1_len (fx _ (List.getElem_mem _))]; kernel_rfl)
      have l2 : ∀ m, (Instr.loadAt 41 (.pointer (some ⟨b2, o2 + k * 65, none⟩))).run Tryd.prog (w2.drewN m) = .ok (.agg (cellsU1 b.ups[k]).toArray) (w2.drewN m) := fun m => run_loadAt_mid (w2.drewN m) b2 (o2 + k * 65) 41 _ _ g2 (by first | exact Tryd.underlying41 | kernel_rfl) rfl (by rw [cellsU1_len (fy _ (List.getElem_mem _))]; kernel_rfl)
      have q0 : ∀ m, (Op.equalIn 10000 41 (.agg (cellsU1 a.ups[k]).toArray) (.agg (cellsU1 b.ups[k]).toArray)).run Tryd.prog (w2.drewN m) = .ok (eqv a.ups[k] b.ups[k]) (w2.drewN m) := fun m => up_eqR _ _ _ (fx _ (List.getElem_mem _)) (fy _ (List.getElem_mem _))
      have HS := Lib.hid (show a.ups[k] = b.ups[k] → a.ups.take (k + 1) = b.ups.take (k + 1) from take_all h1 h2 HT.out)
      have HNE := Lib.hid (show a.ups[k] ≠ b.ups[k] → eqv a.ups b.ups = false from fun h => eqv_false fun e => h (by
        have h3 := congrArg (fun l => l[k]?) e
        simpa [List.getElem?_eq_getElem h1, List.getElem?_eq_getElem h2] using h3))
      generalize a.ups[k] = x at l1 q0 HS HNE
      generalize b.ups[k] = y at l2 q0 HS HNE
      have HLT := Lib.hid hlt
      have HKN := Lib.hid (show n1 ≤ 1000 by rw [HN1.out]; exact HLU.out)
      have i0 : ((k : Nat) : Int) < n1 := by omega
      have i1 : (0 : Int) ≤ ((k : Nat) : Int) := by omega
      have i3 : ((n1 : Nat) : Int) ≤ 1000 := by have := HKN.out; omega
      generalize (cellsU1 x).toArray = cx at l1 q0
      generalize (cellsU1 y).toArray = cy at l2 q0
      clear g1 g2 fx fy h1 h2 hlt hk
      rcases Classical.em (x = y) with e | e
      · have HN := Lib.hid (HS.out e)
        have hb : eqv x y = true := eqv_true e
        rw [hb] at q0
        have HQ := Lib.hid q0
        clear HS HNE e hb q0
        go_wp2
        refine wp_region_quiet_lit (by kernel_rfl) (by kernel_rfl) ?_
        repeat (first
          | go_big_quiet_step (fail)
          | (go_big_quiet_want; refine quiet_load 41 (.tmp 51) rfl _ rfl _ (by rintro _ ⟨m, rfl⟩; rw [World.drewN_drewN]; exact l1 _) ?_; go_big_quiet_on; simp only [Act.put, List.setIfInBounds_toArray, List.set_cons_zero, List.set_cons_succ])
          | (go_big_quiet_want; refine quiet_load 41 (.tmp 56) rfl _ rfl _ (by rintro _ ⟨m, rfl⟩; rw [World.drewN_drewN]; exact l2 _) ?_; go_big_quiet_on; simp only [Act.put, List.setIfInBounds_toArray, List.set_cons_zero, List.set_cons_succ])
          | (go_big_quiet_want; refine quiet_ne 41 (.tmp 52) (.tmp 57) _ rfl cx cy rfl rfl (by kernel_rfl) true (by rintro _ ⟨m, rfl⟩; rw [World.drewN_drewN]; exact HQ.out _) ?_; go_big_quiet_on; simp only [Act.put, List.setIfInBounds_toArray, List.set_cons_zero, List.set_cons_succ]))
        refine wpQuiet_nil ?_
        rintro _ ⟨nq, rfl⟩
        go_wp2
        go_roundw
        case rel => exact ⟨k + 1, q + nq, by have := HLT.out; omega, by go_num, HN, by simp⟩
        case measure => have := HLT.out; simp [intOf]; omega
      · have HN := Lib.hid (HNE.out e)
        have hb : eqv x y = false := eqv_false e
        rw [hb] at q0
        have HQ := Lib.hid q0
        clear HS HNE e hb q0
        go_wp2
        refine wp_region_quiet_lit (by kernel_rfl) (by kernel_rfl) ?_
        repeat (first
          | go_big_quiet_step (fail)
          | (go_big_quiet_want; refine quiet_load 41 (.tmp 51) rfl _ rfl _ (by rintro _ ⟨m, rfl⟩; rw [World.drewN_drewN]; exact l1 _) ?_; go_big_quiet_on; simp only [Act.put, List.setIfInBounds_toArray, List.set_cons_zero, List.set_cons_succ])
          | (go_big_quiet_want; refine quiet_load 41 (.tmp 56) rfl _ rfl _ (by rintro _ ⟨m, rfl⟩; rw [World.drewN_drewN]; exact l2 _) ?_; go_big_quiet_on; simp only [Act.put, List.setIfInBounds_toArray, List.set_cons_zero, List.set_cons_succ])
          | (go_big_quiet_want; refine quiet_ne 41 (.tmp 52) (.tmp 57) _ rfl cx cy rfl rfl (by kernel_rfl) false (by rintro _ ⟨m, rfl⟩; rw [World.drewN_drewN]; exact HQ.out _) ?_; go_big_quiet_on; simp only [Act.put, List.setIfInBounds_toArray, List.set_cons_zero, List.set_cons_succ]))
        refine wpQuiet_nil ?_
        rintro _ ⟨nq, rfl⟩
        go_wp2
        go_ret
        exact ⟨by rw [HE.out, HN.out]; rfl, below_drewN (below_drewN HB2.out _) _⟩
    · obtain rfl : k = n1 := by omega
      have H : Hid (eqv a.ups b.ups = true) := Lib.hid (eqv_true (by
        have h := HT.out
        rw [List.take_of_length_le (by rw [← HN1.out]; exact Nat.le_refl _), List.take_of_length_le (by rw [← HN2.out]; exact Nat.le_refl _)] at h
        exact h))
      go_wp2
      go_ret
      exact ⟨by rw [HE.out, H.out]; rfl, below_drewN HB2.out _⟩
end Go.Proofs.YtldfjpafpfakcaaDoor
