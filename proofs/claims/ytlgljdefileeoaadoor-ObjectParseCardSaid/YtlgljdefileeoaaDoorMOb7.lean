/- The document's comparison of two objects (cartageref06.Same). -/
import Derived.Test.YtlgljdefileeoaaDoorMOb10s
namespace Go.Proofs.YtlgljdefileeoaaDoor
open Go Go.RowKit
set_option maxRecDepth 100000 in
set_option maxHeartbeats 4000000 in
theorem rsame_any (a b : Ob) (ca cb : Array Value) (Ta Ea Pa Tb Eb Pb : Option Addr) (ta ea pa tb eb pb : Nat) (w : World) (ha : ObC w a ca Ta ta Ea ea Pa pa) (hb : ObC w b cb Tb tb Eb eb Pb pb) (fa : a.Fit) (fb : b.Fit) (l1 : a.ents.length ≤ 1000) (l2 : a.pars.length ≤ 1000) :
    Calls Tryd.prog 13 #[.agg ca, .agg cb] w fun e w' => e = .returned (.bool (eqv a b)) ∧ Below w.heap.size w w' := by
  obtain ⟨w2, hw2⟩ : ∃ w2, w2 = (w.alloc (.cells ca 38)).alloc (.cells cb 38) := ⟨_, rfl⟩
  have hB : Below w.heap.size w w2 := hw2 ▸ boxed ca cb _
  have B1 : Blk w2 w.heap.size 38 ca := hw2 ▸ (Blk.new w _ ca).alloc _
  have B2 : Blk w2 (w.heap.size + 1) 38 cb := hw2 ▸ boxed2 ca cb _
  have HBE : ∀ n, Hid (Below w.heap.size w (w2.drewN n)) := fun n => Lib.hid (below_drewN hB n)
  have a0 : w2.cell? ⟨w.heap.size, 0, none⟩ = some (.int .i64 a.kind) := (B1.cell 0).trans ha.c0
  have a1 : w2.cell? ⟨w.heap.size, 1, none⟩ = some (.slice Ta a.text.length ta) := (B1.cell 1).trans ha.c1
  have a2 : w2.cell? ⟨w.heap.size, 2, none⟩ = some (.slice Ea a.ents.length ea) := (B1.cell 2).trans ha.c2
  have a3 : w2.cell? ⟨w.heap.size, 35, none⟩ = some (.slice Pa a.pars.length pa) := (B1.cell 35).trans (ha.c35 fa)
  have b0 : w2.cell? ⟨w.heap.size + 1, 0, none⟩ = some (.int .i64 b.kind) := (B2.cell 0).trans hb.c0
  have b1 : w2.cell? ⟨w.heap.size + 1, 1, none⟩ = some (.slice Tb b.text.length tb) := (B2.cell 1).trans hb.c1
  have b2 : w2.cell? ⟨w.heap.size + 1, 2, none⟩ = some (.slice Eb b.ents.length eb) := (B2.cell 2).trans hb.c2
  have b3 : w2.cell? ⟨w.heap.size + 1, 35, none⟩ = some (.slice Pb b.pars.length pb) := (B2.cell 35).trans (hb.c35 fb)
  have M1 : ∀ n, Hid ((w2.drewN n).rangeAt w.heap.size 3 (cellsB a.target)) := fun n => Lib.hid (ha.mid (B1.drewN n))
  have M2 : ∀ n, Hid ((w2.drewN n).rangeAt (w.heap.size + 1) 3 (cellsB b.target)) := fun n => Lib.hid (hb.mid (B2.drewN n))
  have q0 : ∀ n, (Op.equalIn 10000 26 (.agg (cellsB a.target).toArray) (.agg (cellsB b.target).toArray)).run Tryd.prog (w2.drewN n) = .ok (eqv a.target b.target) (w2.drewN n) := fun n => rid_eq _ _ _ fa.target fb.target
  have q1 : ∀ n, (convert 22 9 (.slice Ta a.text.length ta)).run Tryd.prog (w2.drewN n) = .ok (.string (textOf a.text)) (w2.drewN n) := fun n => conv_rd (ha.text.below (HBE n).out (Nat.le_refl _))
  have q2 : ∀ n, (convert 22 9 (.slice Tb b.text.length tb)).run Tryd.prog (w2.drewN n) = .ok (.string (textOf b.text)) (w2.drewN n) := fun n => conv_rd (hb.text.below (HBE n).out (Nat.le_refl _))
  have q1' := q1 0
  have q2' := q2 0
  rw [World.drewN_zero] at q1' q2'
  have q3 := textOf_eqv fa.text fb.text
  have HEA := Lib.hid (ha.ents.below (HBE 0).out (Nat.le_refl _))
  have HEB := Lib.hid (hb.ents.below (HBE 0).out (Nat.le_refl _))
  have HPA := Lib.hid (ha.pars.below (HBE 0).out (Nat.le_refl _))
  have HPB := Lib.hid (hb.pars.below (HBE 0).out (Nat.le_refl _))
  have hk : (a.kind != b.kind) = !(eqv a.kind b.kind) := by rw [← beq_eqv]; rfl
  have n1 : (Tryd.prog.info? 26).map (·.size) = some (cellsB a.target).length := by rw [cellsP1_len fa.target]; kernel_rfl
  have n2 : (Tryd.prog.info? 26).map (·.size) = some (cellsB b.target).length := by rw [cellsP1_len fb.target]; kernel_rfl
  have N1 := Lib.hid n1
  have N2 := Lib.hid n2
  have HR : Hid ((eqv a.kind b.kind && (eqv a.text b.text && (eqv a.target b.target && (eqv a.ents b.ents && eqv a.pars b.pars)))) = eqv a b) := Lib.hid (by
    rw [Bool.eq_iff_iff]
    simp only [Bool.and_eq_true, eqv_iff]
    obtain ⟨x1, x2, x3, x4, x5⟩ := a
    obtain ⟨y1, y2, y3, y4, y5⟩ := b
    simp only [Ob.mk.injEq]
    constructor
    · rintro ⟨h1, h2, h3, h4, h5⟩; exact ⟨h1, h2, h4, h3, h5⟩
    · rintro ⟨h1, h2, h3, h4, h5⟩; exact ⟨h1, h2, h4, h3, h5⟩)
  have hw3 := hw2.symm
  have ffa := fa.ents
  have ffb := fb.ents
  have fpa := fa.pars
  have fpb := fb.pars
  clear ha hb fa fb hB B1 B2 n1 n2 hw2 q1 q2
  generalize eqv a b = r at HR ⊢
  generalize eqv a.kind b.kind = r1 at hk HR
  generalize eqv a.text b.text = r2 at q3 HR
  generalize eqv a.target b.target = r4 at q0 HR
  generalize a.kind = ak at *
  generalize b.kind = bk at *
  generalize textOf a.text = sa at *
  generalize textOf b.text = sb at *
  generalize a.text.length = al at *
  generalize b.text.length = bl at *
  generalize a.ents = xs at *
  generalize b.ents = ys at *
  generalize a.pars = ps at *
  generalize b.pars = qs at *
  generalize cellsB a.target = cta at *
  generalize cellsB b.target = ctb at *
  go_enter Tryd.func13, Tryd.ntmps13
  cases r1
  · obtain rfl := HR.out
    go_wp2
    go_ret
    exact ⟨rfl, (HBE 0).out⟩
  cases r2
  · obtain rfl := HR.out
    go_wp2
    go_ret
    exact ⟨rfl, (HBE 0).out⟩
  obtain rfl : ak = bk := by simpa using hk
  obtain rfl : sa = sb := by rw [toList_inj] at q3; exact eqv_iff.1 q3
  clear q3 hk
  have m1 := (M1 0).out
  have m2 := (M2 0).out
  rw [World.drewN_zero] at m1 m2
  have M1z := Lib.hid m1
  have M2z := Lib.hid m2
  clear m1 m2
  have q0' := q0 0
  rw [World.drewN_zero] at q0'
  clear q0
  cases r4
  · obtain rfl := HR.out
    go_wp2_with (with_reducible (show wpList _ _ _ (Oper.mk _ (Op.load 26 _) _ _ _ _ :: _) _ _); refine pause ?_)
    unfold Paused
    refine wpList_mid_w (by rfl) 26 (.tmp 22) (by rfl) w.heap.size 3 (by rfl) _ _ M1z.out Tryd.underlying26 (by rfl) N1.out ?_
    go_wp2_with (with_reducible (show wpList _ _ _ (Oper.mk _ (Op.load 26 _) _ _ _ _ :: _) _ _); refine pause ?_)
    unfold Paused
    refine wpList_mid_w (by rfl) 26 (.tmp 24) (by rfl) (w.heap.size + 1) 3 (by rfl) _ _ M2z.out Tryd.underlying26 (by rfl) N2.out ?_
    go_wp2
    go_ret
    exact ⟨rfl, (HBE 0).out⟩
  rcases Nat.decEq xs.length ys.length with hl | hl
  · have b4 : ((xs.length : Int) != (ys.length : Int)) = true := by simp; omega
    have HF : Hid (false = r) := Lib.hid (by rw [← HR.out, eqv_false (a := xs) (b := ys) fun e => hl (by rw [e])]; rfl)
    clear hl
    obtain rfl := HF.out
    go_wp2_with (with_reducible (show wpList _ _ _ (Oper.mk _ (Op.load 26 _) _ _ _ _ :: _) _ _); refine pause ?_)
    unfold Paused
    refine wpList_mid_w (by rfl) 26 (.tmp 22) (by rfl) w.heap.size 3 (by rfl) _ _ M1z.out Tryd.underlying26 (by rfl) N1.out ?_
    go_wp2_with (with_reducible (show wpList _ _ _ (Oper.mk _ (Op.load 26 _) _ _ _ _ :: _) _ _); refine pause ?_)
    unfold Paused
    refine wpList_mid_w (by rfl) 26 (.tmp 24) (by rfl) (w.heap.size + 1) 3 (by rfl) _ _ M2z.out Tryd.underlying26 (by rfl) N2.out ?_
    go_wp2
    go_ret
    exact ⟨rfl, (HBE 0).out⟩
  rcases Nat.decEq ps.length qs.length with hp | hp
  · have b4 : ((xs.length : Int) != (ys.length : Int)) = false := by simp; omega
    have b5 : ((ps.length : Int) != (qs.length : Int)) = true := by simp; omega
    have HF : Hid (false = r) := Lib.hid (by rw [← HR.out, eqv_false (a := ps) (b := qs) fun e => hp (by rw [e])]; simp)
    clear hl hp
    obtain rfl := HF.out
    go_wp2_with (with_reducible (show wpList _ _ _ (Oper.mk _ (Op.load 26 _) _ _ _ _ :: _) _ _); refine pause ?_)
    unfold Paused
    refine wpList_mid_w (by rfl) 26 (.tmp 22) (by rfl) w.heap.size 3 (by rfl) _ _ M1z.out Tryd.underlying26 (by rfl) N1.out ?_
    go_wp2_with (with_reducible (show wpList _ _ _ (Oper.mk _ (Op.load 26 _) _ _ _ _ :: _) _ _); refine pause ?_)
    unfold Paused
    refine wpList_mid_w (by rfl) 26 (.tmp 24) (by rfl) (w.heap.size + 1) 3 (by rfl) _ _ M2z.out Tryd.underlying26 (by rfl) N2.out ?_
    go_wp2
    go_ret
    exact ⟨rfl, (HBE 0).out⟩
  · have b4 : ((xs.length : Int) != (ys.length : Int)) = false := by simp; omega
    have b5 : ((ps.length : Int) != (qs.length : Int)) = false := by simp; omega
    have HL1 := Lib.hid hl
    have HL2 := Lib.hid hp
    rw [← hl] at HEB b2
    rw [← hp] at HPB b3
    have b4 : ((xs.length : Int) != (xs.length : Int)) = false := by simp
    have b5 : ((ps.length : Int) != (ps.length : Int)) = false := by simp
    clear hl hp
    go_wp2_with (with_reducible (show wpList _ _ _ (Oper.mk _ (Op.load 26 _) _ _ _ _ :: _) _ _); refine pause ?_)
    unfold Paused
    refine wpList_mid_w (by rfl) 26 (.tmp 22) (by rfl) w.heap.size 3 (by rfl) _ _ M1z.out Tryd.underlying26 (by rfl) N1.out ?_
    go_wp2_with (with_reducible (show wpList _ _ _ (Oper.mk _ (Op.load 26 _) _ _ _ _ :: _) _ _); refine pause ?_)
    unfold Paused
    refine wpList_mid_w (by rfl) 26 (.tmp 24) (by rfl) (w.heap.size + 1) 3 (by rfl) _ _ M2z.out Tryd.underlying26 (by rfl) N2.out ?_
    go_wp2
    go_loopw [49] (fun i wr => ∃ k n : Nat, k ≤ xs.length ∧ i = .int .i64 k ∧ Hid (xs.take k = ys.take k) ∧ wr = w2.drewN n) (fun i _ => xs.length - (intOf i).toNat)
    case atStart => exact ⟨0, 0, Nat.zero_le _, rfl, Lib.hid rfl, by first | rfl | exact (World.drewN_zero _).symm⟩
    case round =>
      obtain ⟨k, n, hk, rfl, HT, rfl⟩ := hrel
      by_cases hlt : k < xs.length
      · have hlt2 : k < ys.length := by rw [← HL1.out]; exact hlt
        obtain ⟨bb1, oo1, rfl, _, g1⟩ := HEA.out.ent rfl ffa hlt
        obtain ⟨bb2, oo2, rfl, _, g2⟩ := HEB.out.ent HL1.out ffb hlt2
        have l1 : ∀ m, (Instr.loadAt 56 (.pointer (some ⟨bb1, oo1 + k * 33, none⟩))).run Tryd.prog (w2.drewN m) = .ok (.agg (cellsE1 xs[k]).toArray) (w2.drewN m) := fun m => run_loadAt_mid (w2.drewN m) bb1 (oo1 + k * 33) 56 _ _ g1 Tryd.underlying56 rfl (by rw [cellsE1_len (ffa _ (List.getElem_mem _))]; kernel_rfl)
        have l2 : ∀ m, (Instr.loadAt 56 (.pointer (some ⟨bb2, oo2 + k * 33, none⟩))).run Tryd.prog (w2.drewN m) = .ok (.agg (cellsE1 ys[k]).toArray) (w2.drewN m) := fun m => run_loadAt_mid (w2.drewN m) bb2 (oo2 + k * 33) 56 _ _ g2 Tryd.underlying56 rfl (by rw [cellsE1_len (ffb _ (List.getElem_mem _))]; kernel_rfl)
        have q0 : ∀ m, (Op.equalIn 10000 56 (.agg (cellsE1 xs[k]).toArray) (.agg (cellsE1 ys[k]).toArray)).run Tryd.prog (w2.drewN m) = .ok (eqv xs[k] ys[k]) (w2.drewN m) := fun m => rent_eq _ _ _ (ffa _ (List.getElem_mem _)) (ffb _ (List.getElem_mem _))
        have HS := Lib.hid (show xs[k] = ys[k] → xs.take (k + 1) = ys.take (k + 1) from take_all hlt hlt2 HT.out)
        have HNE := Lib.hid (show xs[k] ≠ ys[k] → eqv xs ys = false from fun h => eqv_false fun e => h (by simp only [e]))
        generalize xs[k] = x at l1 q0 HS HNE
        generalize ys[k] = y at l2 q0 HS HNE
        clear g1 g2
        have i0 : ((k : Nat) : Int) < xs.length := by omega
        have i1 : (0 : Int) ≤ ((k : Nat) : Int) := by omega
        generalize (cellsE1 x).toArray = cx at l1 q0
        generalize (cellsE1 y).toArray = cy at l2 q0
        rcases Classical.em (x = y) with e | e
        · have HN := Lib.hid (HS.out e)
          rw [eqv_true e] at q0
          have HQ := Lib.hid q0
          clear HS HNE e q0
          go_wp2
          refine wp_region_quiet_lit (by kernel_rfl) (by kernel_rfl) ?_
          repeat (first
            | (go_big_quiet_want; refine quiet_load 56 (.tmp 55) rfl _ rfl _ (by rintro _ ⟨m, rfl⟩; rw [World.drewN_drewN]; exact l1 _) ?_; go_big_quiet_on; simp only [Act.put, List.setIfInBounds_toArray, List.set_cons_zero, List.set_cons_succ])
            | (go_big_quiet_want; refine quiet_load 56 (.tmp 60) rfl _ rfl _ (by rintro _ ⟨m, rfl⟩; rw [World.drewN_drewN]; exact l2 _) ?_; go_big_quiet_on; simp only [Act.put, List.setIfInBounds_toArray, List.set_cons_zero, List.set_cons_succ])
            | (go_big_quiet_want; refine quiet_ne 56 (.tmp 56) (.tmp 61) _ rfl cx cy rfl rfl (by kernel_rfl) true (by rintro _ ⟨m, rfl⟩; rw [World.drewN_drewN]; exact HQ.out _) ?_; go_big_quiet_on; simp only [Act.put, List.setIfInBounds_toArray, List.set_cons_zero, List.set_cons_succ])
            | go_big_quiet_step (fail))
          refine wpQuiet_nil ?_
          rintro _ ⟨nq, rfl⟩
          go_wp2
          go_roundw
          case rel => exact ⟨k + 1, n + nq, by omega, by go_num, HN, by simp⟩
          case measure => simp [intOf]; omega
        · have HN := Lib.hid (HNE.out e)
          rw [eqv_false e] at q0
          have HQ := Lib.hid q0
          clear HS HNE e q0
          go_wp2
          refine wp_region_quiet_lit (by kernel_rfl) (by kernel_rfl) ?_
          repeat (first
            | (go_big_quiet_want; refine quiet_load 56 (.tmp 55) rfl _ rfl _ (by rintro _ ⟨m, rfl⟩; rw [World.drewN_drewN]; exact l1 _) ?_; go_big_quiet_on; simp only [Act.put, List.setIfInBounds_toArray, List.set_cons_zero, List.set_cons_succ])
            | (go_big_quiet_want; refine quiet_load 56 (.tmp 60) rfl _ rfl _ (by rintro _ ⟨m, rfl⟩; rw [World.drewN_drewN]; exact l2 _) ?_; go_big_quiet_on; simp only [Act.put, List.setIfInBounds_toArray, List.set_cons_zero, List.set_cons_succ])
            | (go_big_quiet_want; refine quiet_ne 56 (.tmp 56) (.tmp 61) _ rfl cx cy rfl rfl (by kernel_rfl) false (by rintro _ ⟨m, rfl⟩; rw [World.drewN_drewN]; exact HQ.out _) ?_; go_big_quiet_on; simp only [Act.put, List.setIfInBounds_toArray, List.set_cons_zero, List.set_cons_succ])
            | go_big_quiet_step (fail))
          refine wpQuiet_nil ?_
          rintro _ ⟨nq, rfl⟩
          go_wp2
          go_ret
          exact ⟨by rw [← HR.out, HN.out]; rfl, by rw [World.drewN_drewN]; exact (HBE _).out⟩
      · have HE : Hid (eqv xs ys = true) := Lib.hid (eqv_true (by
          have h := HT.out
          rw [List.take_of_length_le (by omega), List.take_of_length_le (by rw [← HL1.out]; omega)] at h
          exact h))
        clear HT
        go_wp2
        go_loopw [67] (fun i wr => ∃ k n : Nat, k ≤ ps.length ∧ i = .int .i64 k ∧ Hid (ps.take k = qs.take k) ∧ wr = w2.drewN n) (fun i _ => ps.length - (intOf i).toNat)
        case atStart => exact ⟨0, n, Nat.zero_le _, rfl, Lib.hid rfl, by first | rfl | exact (World.drewN_zero _).symm⟩
        case round =>
          obtain ⟨k, n, hk, rfl, HT, rfl⟩ := hrel
          by_cases hlt : k < ps.length
          · have hlt2 : k < qs.length := by rw [← HL2.out]; exact hlt
            obtain ⟨bb1, oo1, rfl, _, g1⟩ := HPA.out.par rfl fpa hlt
            obtain ⟨bb2, oo2, rfl, _, g2⟩ := HPB.out.par HL2.out fpb hlt2
            have l1 : ∀ m, (Instr.loadAt 26 (.pointer (some ⟨bb1, oo1 + k * 32, none⟩))).run Tryd.prog (w2.drewN m) = .ok (.agg (cellsB ps[k]).toArray) (w2.drewN m) := fun m => run_loadAt_mid (w2.drewN m) bb1 (oo1 + k * 32) 26 _ _ g1 Tryd.underlying26 rfl (by rw [cellsP1_len (fpa _ (List.getElem_mem _))]; kernel_rfl)
            have l2 : ∀ m, (Instr.loadAt 26 (.pointer (some ⟨bb2, oo2 + k * 32, none⟩))).run Tryd.prog (w2.drewN m) = .ok (.agg (cellsB qs[k]).toArray) (w2.drewN m) := fun m => run_loadAt_mid (w2.drewN m) bb2 (oo2 + k * 32) 26 _ _ g2 Tryd.underlying26 rfl (by rw [cellsP1_len (fpb _ (List.getElem_mem _))]; kernel_rfl)
            have q0 : ∀ m, (Op.equalIn 10000 26 (.agg (cellsB ps[k]).toArray) (.agg (cellsB qs[k]).toArray)).run Tryd.prog (w2.drewN m) = .ok (eqv ps[k] qs[k]) (w2.drewN m) := fun m => rid_eq _ _ _ (fpa _ (List.getElem_mem _)) (fpb _ (List.getElem_mem _))
            have HS := Lib.hid (show ps[k] = qs[k] → ps.take (k + 1) = qs.take (k + 1) from take_all hlt hlt2 HT.out)
            have HNE := Lib.hid (show ps[k] ≠ qs[k] → eqv ps qs = false from fun h => eqv_false fun e => h (by simp only [e]))
            generalize ps[k] = x at l1 q0 HS HNE
            generalize qs[k] = y at l2 q0 HS HNE
            clear g1 g2
            have i0 : ((k : Nat) : Int) < ps.length := by omega
            have i1 : (0 : Int) ≤ ((k : Nat) : Int) := by omega
            generalize (cellsB x).toArray = cx at l1 q0
            generalize (cellsB y).toArray = cy at l2 q0
            rcases Classical.em (x = y) with e | e
            · have HN := Lib.hid (HS.out e)
              rw [eqv_true e] at q0
              have HQ := Lib.hid q0
              clear HS HNE e q0
              go_wp2
              refine wp_region_quiet_lit (by kernel_rfl) (by kernel_rfl) ?_
              repeat (first
                | (go_big_quiet_want; refine quiet_load 26 (.tmp 73) rfl _ rfl _ (by rintro _ ⟨m, rfl⟩; rw [World.drewN_drewN]; exact l1 _) ?_; go_big_quiet_on; simp only [Act.put, List.setIfInBounds_toArray, List.set_cons_zero, List.set_cons_succ])
                | (go_big_quiet_want; refine quiet_load 26 (.tmp 78) rfl _ rfl _ (by rintro _ ⟨m, rfl⟩; rw [World.drewN_drewN]; exact l2 _) ?_; go_big_quiet_on; simp only [Act.put, List.setIfInBounds_toArray, List.set_cons_zero, List.set_cons_succ])
                | (go_big_quiet_want; refine quiet_ne 26 (.tmp 74) (.tmp 79) _ rfl cx cy rfl rfl (by kernel_rfl) true (by rintro _ ⟨m, rfl⟩; rw [World.drewN_drewN]; exact HQ.out _) ?_; go_big_quiet_on; simp only [Act.put, List.setIfInBounds_toArray, List.set_cons_zero, List.set_cons_succ])
                | go_big_quiet_step (fail))
              refine wpQuiet_nil ?_
              rintro _ ⟨nq, rfl⟩
              go_wp2
              go_roundw
              case rel => exact ⟨k + 1, n + nq, by omega, by go_num, HN, by simp⟩
              case measure => simp [intOf]; omega
            · have HN := Lib.hid (HNE.out e)
              rw [eqv_false e] at q0
              have HQ := Lib.hid q0
              clear HS HNE e q0
              go_wp2
              refine wp_region_quiet_lit (by kernel_rfl) (by kernel_rfl) ?_
              repeat (first
                | (go_big_quiet_want; refine quiet_load 26 (.tmp 73) rfl _ rfl _ (by rintro _ ⟨m, rfl⟩; rw [World.drewN_drewN]; exact l1 _) ?_; go_big_quiet_on; simp only [Act.put, List.setIfInBounds_toArray, List.set_cons_zero, List.set_cons_succ])
                | (go_big_quiet_want; refine quiet_load 26 (.tmp 78) rfl _ rfl _ (by rintro _ ⟨m, rfl⟩; rw [World.drewN_drewN]; exact l2 _) ?_; go_big_quiet_on; simp only [Act.put, List.setIfInBounds_toArray, List.set_cons_zero, List.set_cons_succ])
                | (go_big_quiet_want; refine quiet_ne 26 (.tmp 74) (.tmp 79) _ rfl cx cy rfl rfl (by kernel_rfl) false (by rintro _ ⟨m, rfl⟩; rw [World.drewN_drewN]; exact HQ.out _) ?_; go_big_quiet_on; simp only [Act.put, List.setIfInBounds_toArray, List.set_cons_zero, List.set_cons_succ])
                | go_big_quiet_step (fail))
              refine wpQuiet_nil ?_
              rintro _ ⟨nq, rfl⟩
              go_wp2
              go_ret
              exact ⟨by rw [← HR.out, HN.out]; simp, by rw [World.drewN_drewN]; exact (HBE _).out⟩
          · have HE2 : Hid (eqv ps qs = true) := Lib.hid (eqv_true (by
              have h := HT.out
              rw [List.take_of_length_le (by omega), List.take_of_length_le (by rw [← HL2.out]; omega)] at h
              exact h))
            go_wp2
            go_ret
            exact ⟨by rw [← HR.out, HE.out, HE2.out]; rfl, (HBE _).out⟩
end Go.Proofs.YtlgljdefileeoaaDoor
