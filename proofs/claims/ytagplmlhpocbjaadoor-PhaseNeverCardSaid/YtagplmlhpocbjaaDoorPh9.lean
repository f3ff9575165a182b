/- The law PhaseNever. -/
import Derived.Test.YtagplmlhpocbjaaDoorPh8
namespace Go.Proofs.YtagplmlhpocbjaaDoor
open Go Go.RowKit
/-- a row of events with their epochs -/
def StR (w : World) (A : Option Addr) (ss : List (Int × Int)) : Prop := ∀ (k : Nat) (u : Int × Int), ss[k]? = some u → ∃ b o, A = some ⟨b, o, none⟩ ∧ b < w.heap.size ∧ w.cell? ⟨b, o + k * 2, none⟩ = some (.int .i64 u.1) ∧ w.cell? ⟨b, o + k * 2 + 1, none⟩ = some (.int .i64 u.2)
/-- what stands while events come -/
structure NvI (w wr : World) (P : Nat) (s e o : Int) : Prop where
  inv : Ph.Inv s e o
  blk : Blk wr P 23 (phC s e)
  bel : Below w.heap.size w wr
  le : w.heap.size ≤ P
theorem NvI.below {w wr w2 : World} {P : Nat} {s e o : Int} (h : NvI w wr P s e o) (hb : Below wr.heap.size wr w2) : NvI w w2 P s e o :=
  ⟨h.inv, h.blk.below hb h.blk.lt, h.bel.trans (hb.mono h.bel.size), h.le⟩
theorem ph_rem (x : Int) (m : Nat) (h0 : 0 < m) (hm : m ≤ 1000) : ∃ r : Nat, r < m ∧ (IntKind.u64.wrap x).tmod (m : Int) = (r : Int) ∧ wrap64 (r : Int) = (r : Int) := by
  have h1 : 0 ≤ x % 18446744073709551616 := Int.emod_nonneg _ (by omega)
  have h2 : (IntKind.u64.wrap x).tmod (m : Int) = (x % 18446744073709551616) % (m : Int) := by
    rw [wrap_u64, Int.tmod_eq_emod_of_nonneg h1]
  have h3 : 0 ≤ (x % 18446744073709551616) % (m : Int) := Int.emod_nonneg _ (by omega)
  have h4 : (x % 18446744073709551616) % (m : Int) < (m : Int) := Int.emod_lt_of_pos _ (by omega)
  refine ⟨((x % 18446744073709551616) % (m : Int)).toNat, by omega, by rw [h2]; omega, ?_⟩
  rw [IntWalk.wrap64_in _ (by omega)]
theorem st_load : (Tryd.prog.info? 44).map (·.size) = some 2 := by kernel_rfl
set_option maxRecDepth 100000 in
set_option maxHeartbeats 8000000 in
theorem pnever_law (A : Option Addr) (n c : Nat) (ss : List (Int × Int)) (a : Nat → Addr) (w : World) (h : StR w A ss) (hn : n = ss.length) (hS : Sents w a) :
    Calls Tryd.prog 5 #[.slice A n c] w fun e w' => e = .returned (.bool true) ∧ Below w.heap.size w w' := by
  have CA := phalive_any a w hS
  have HA := Lib.hid h
  have HN := Lib.hid hn
  have HS := Lib.hid hS
  clear h hn hS
  go_enter Tryd.func5, Tryd.ntmps5
  go_wp2_with (go_at_call 7; refine pause ?_)
  unfold Paused
  refine CA.mono ?_
  rintro r w1 ⟨rfl, hb1⟩
  have HB1 := Lib.hid hb1
  clear CA hb1
  by_cases h60 : n ≤ 60
  · have g60 : ¬ (60 : Int) < n := by omega
    go_wp2_with (with_reducible (show wpList _ _ _ (Oper.mk _ (Op.store 23 _ _) _ _ _ _ :: _) _ _); refine pause ?_)
    unfold Paused
    refine wpList_store_row rfl 23 (.tmp 3) (.tmp 15) rfl w1.heap.size (phC 0 0) (by rfl) (by rfl) 23 (phC 0 0) (Blk.new w1 _ _) ph_load rfl (ph_one _ _) ?_
    have HX2 : Hid (Blk ((w1.alloc (.cells (phC 0 0) 23)).setRow w1.heap.size (phC 0 0)) w1.heap.size 23 (phC 0 0)) := Lib.hid ((Blk.new w1 _ _).row _)
    have HB2 : Hid (Below w.heap.size w ((w1.alloc (.cells (phC 0 0) 23)).setRow w1.heap.size (phC 0 0))) := Lib.hid (below_row (HB1.out.alloc HB1.out.size _) HB1.out.size _)
    change wpList _ _ _ _ _ ((w1.alloc (.cells (phC 0 0) 23)).setRow w1.heap.size (phC 0 0))
    generalize (w1.alloc (.cells (phC 0 0) 23)).setRow w1.heap.size (phC 0 0) = w2 at HX2 HB2
    obtain ⟨P, hP⟩ : ∃ P, P = w1.heap.size := ⟨_, rfl⟩
    have HG0 : Hid (NvI w w2 P 0 0 0) := Lib.hid ⟨Ph.Inv.start, hP ▸ HX2.out, HB2.out, hP ▸ HB1.out.size⟩
    rw [← hP]
    clear hP HB1 HX2 HB2
    clear w1
    go_wp2_with fail
    go_loopw [4, 18] (fun o i wr => ∃ (k : Nat) (s e ov : Int), k ≤ n ∧ i = .int .i64 k ∧ o = .int .i64 ov ∧ Hid (NvI w wr P s e ov)) (fun _ i _ => n - (intOf i).toNat)
    case atStart => exact ⟨0, 0, 0, 0, Nat.zero_le _, rfl, rfl, HG0⟩
    case round =>
      obtain ⟨k, s, e, ov, hk, rfl, rfl, HG⟩ := hrel
      by_cases hlt : k < n
      · obtain ⟨⟨ei, xi⟩, hu⟩ : ∃ u, ss[k]? = some u := ⟨_, List.getElem?_eq_getElem (by rw [← HN.out]; exact hlt)⟩
        obtain ⟨b, o, rfl, hbl, hc0, hc1⟩ := HA.out k _ hu
        have c0 := (HG.out.bel.cell (p := ⟨b, o + k * 2, none⟩) hbl).trans hc0
        have c1 := (HG.out.bel.cell (p := ⟨b, o + k * 2 + 1, none⟩) hbl).trans hc1
        clear hu hc0 hc1 hbl
        go_wp2_with (with_reducible (show wpList _ _ _ (Oper.mk _ (Op.store 44 _ _) _ _ _ _ :: _) _ _); refine pause ?_)
        unfold Paused
        refine wpList_store_row rfl 44 (.tmp 6) (.tmp 21) rfl wr.heap.size (phC ei xi) (by rfl) (by rfl) 44 (phC 0 0) (Blk.new wr _ _) st_load rfl (ph_one _ _) ?_
        have HG2 : Hid (NvI w ((wr.alloc (.cells (phC 0 0) 44)).setRow wr.heap.size (phC ei xi)) P s e ov) := Lib.hid ⟨HG.out.inv, (HG.out.blk.alloc _).farRow (by have := HG.out.blk.lt; omega) _, below_row (HG.out.bel.alloc HG.out.bel.size _) HG.out.bel.size _, HG.out.le⟩
        have hY2 : Blk ((wr.alloc (.cells (phC 0 0) 44)).setRow wr.heap.size (phC ei xi)) wr.heap.size 44 (phC ei xi) := (Blk.new wr _ _).row _
        change wpList _ _ _ _ _ ((wr.alloc (.cells (phC 0 0) 44)).setRow wr.heap.size (phC ei xi))
        generalize (wr.alloc (.cells (phC 0 0) 44)).setRow wr.heap.size (phC ei xi) = w3 at HG2 hY2
        generalize wr.heap.size = T at hY2 ⊢
        have d0 : w3.cell? ⟨T, 0, none⟩ = some (.int .i64 ei) := hY2.cell 0
        have d1 : w3.cell? ⟨T, 1, none⟩ = some (.int .i64 xi) := hY2.cell 1
        have p0 : w3.cell? ⟨P, 0, none⟩ = some (.int .i64 s) := HG2.out.blk.cell 0
        have p1 : w3.cell? ⟨P, 1, none⟩ = some (.int .i64 e) := HG2.out.blk.cell 1
        clear hY2 c0 c1 HG
        obtain ⟨ke, hke, r1, r2⟩ := ph_rem ei 5 (by omega) (by omega)
        obtain ⟨kx, hkx, r3, r4⟩ := ph_rem xi 9 (by omega) (by omega)
        have r1 : (IntKind.u64.wrap ei).tmod 5 = (ke : Int) := r1
        have r3 : (IntKind.u64.wrap xi).tmod 9 = (kx : Int) := r3
        have CD := do_any ke s e kx a w3 hke (HS.out.below HG2.out.bel (Nat.le_refl _))
        obtain ⟨q, hq⟩ : ∃ q, q = Ph.run ke s e kx := ⟨_, rfl⟩
        have HE : Hid (q.2.2 ≠ 0 → q.1 = s ∧ q.2.1 = e) := Lib.hid (by rw [hq]; exact Ph.run_err)
        have HO : Hid (q.2.2 = 0 → e ≤ q.2.1 ∧ Ph.rt q.1 q.2.1 = true ∧ Ph.Inv q.1 q.2.1 (if s = 2 ∧ (q.1 ≠ 2 ∨ e < q.2.1) then max ov e else ov)) := Lib.hid (by rw [hq]; exact Ph.run_ok HG2.out.inv)
        rw [← hq] at CD
        clear hq hke hkx
        obtain ⟨q1, q2, q3⟩ := q
        dsimp only at HE HO
        unfold phOut phV at CD
        dsimp only at CD
        go_wp2_with (go_at_call 8; refine pause ?_)
        unfold Paused
        refine CD.mono ?_
        rintro r w4 ⟨rfl, hb4⟩
        have HG4 := Lib.hid (HG2.out.below hb4)
        clear CD hb4 d0 d1 p0 p1 r1 r2 r3 r4 HG2
        clear w3
        go_wp2_with (with_reducible (show wpList _ _ _ (Oper.mk _ (Op.store 23 _ _) _ _ _ _ :: _) _ _); refine pause ?_)
        unfold Paused
        refine wpList_store_row rfl 23 (.tmp 7) (.tmp 35) rfl w4.heap.size (phC q1 q2) (by rfl) (by rfl) 23 (phC 0 0) (Blk.new w4 _ _) ph_load rfl (ph_one _ _) ?_
        have HG5 : Hid (NvI w ((w4.alloc (.cells (phC 0 0) 23)).setRow w4.heap.size (phC q1 q2)) P s e ov) := Lib.hid ⟨HG4.out.inv, (HG4.out.blk.alloc _).farRow (by have := HG4.out.blk.lt; omega) _, below_row (HG4.out.bel.alloc HG4.out.bel.size _) HG4.out.bel.size _, HG4.out.le⟩
        have HY5 : Hid (Blk ((w4.alloc (.cells (phC 0 0) 23)).setRow w4.heap.size (phC q1 q2)) w4.heap.size 23 (phC q1 q2)) := Lib.hid ((Blk.new w4 _ _).row _)
        have HNE : Hid (w4.heap.size ≠ P) := Lib.hid (by have := HG4.out.blk.lt; omega)
        change wpList _ _ _ _ _ ((w4.alloc (.cells (phC 0 0) 23)).setRow w4.heap.size (phC q1 q2))
        generalize (w4.alloc (.cells (phC 0 0) 23)).setRow w4.heap.size (phC q1 q2) = w5 at HG5 HY5
        clear HG4
        generalize w4.heap.size = Q at HY5 HNE ⊢
        have p0 : w5.cell? ⟨P, 0, none⟩ = some (.int .i64 s) := HG5.out.blk.cell 0
        have p1 : w5.cell? ⟨P, 1, none⟩ = some (.int .i64 e) := HG5.out.blk.cell 1
        have d0 : w5.cell? ⟨Q, 0, none⟩ = some (.int .i64 q1) := HY5.out.cell 0
        have d1 : w5.cell? ⟨Q, 1, none⟩ = some (.int .i64 q2) := HY5.out.cell 1
        by_cases h0 : q3 = 0
        · subst h0
          rw [show erV a 0 = .nilIface from rfl]
          obtain ⟨hle, hrt, hinv⟩ := HO.out rfl
          have g1 : ¬ q2 < e := by omega
          have HIV := Lib.hid hinv
          have CR := right_any q1 q2 w5
          rw [hrt] at CR
          clear hle hrt hinv HO HE
          unfold phV at CR
          go_wp2_with (go_at_call 11; refine pause ?_)
          unfold Paused
          refine CR.mono ?_
          rintro r w6 ⟨rfl, hb6⟩
          have HG6 := Lib.hid (HG5.out.below hb6)
          have HY6 := Lib.hid (HY5.out.below hb6 HY5.out.lt)
          clear CR hb6 p0 p1 d0 d1 HG5 HY5
          have p0 : w6.cell? ⟨P, 0, none⟩ = some (.int .i64 s) := HG6.out.blk.cell 0
          have p1 : w6.cell? ⟨P, 1, none⟩ = some (.int .i64 e) := HG6.out.blk.cell 1
          have CW := writes_any s e w6
          unfold phV at CW
          go_wp2_with (go_at_call 14; refine pause ?_)
          unfold Paused
          refine CW.mono ?_
          rintro r w7 ⟨rfl, hb7⟩
          have HG7 := Lib.hid (HG6.out.below hb7)
          have HY7 := Lib.hid (HY6.out.below hb7 HY6.out.lt)
          clear CW hb7 p0 p1 HG6 HY6
          by_cases hs : s = 2
          · have hsb : (s == 2) = true := by simp [hs]
            rw [hsb]
            have hoe : ov < e := HG7.out.inv.2.2.2 hs
            have HSS := Lib.hid hs
            clear hs hsb
            have d0 : w7.cell? ⟨Q, 0, none⟩ = some (.int .i64 q1) := HY7.out.cell 0
            have d1 : w7.cell? ⟨Q, 1, none⟩ = some (.int .i64 q2) := HY7.out.cell 1
            have CW := writes_any q1 q2 w7
            unfold phV at CW
            go_wp2_with (go_at_call 14; refine pause ?_)
            unfold Paused
            refine CW.mono ?_
            rintro r w8 ⟨rfl, hb8⟩
            have HG8 := Lib.hid (HG7.out.below hb8)
            have HY8 := Lib.hid (HY7.out.below hb8 HY7.out.lt)
            clear CW hb8 d0 d1 HG7 HY7
            have p1 : w8.cell? ⟨P, 1, none⟩ = some (.int .i64 e) := HG8.out.blk.cell 1
            have d0 : w8.cell? ⟨Q, 0, none⟩ = some (.int .i64 q1) := HY8.out.cell 0
            have d1 : w8.cell? ⟨Q, 1, none⟩ = some (.int .i64 q2) := HY8.out.cell 1
            by_cases hq1 : q1 = 2
            · have hqb : (q1 == 2) = true := by simp [hq1]
              rw [hqb]
              have HQ1 := Lib.hid hq1
              clear hq1
              by_cases hlt2 : e < q2
              · have HV : Hid (Ph.Inv q1 q2 e) := Lib.hid (by have h := HIV.out; rwa [if_pos ⟨HSS.out, Or.inr hlt2⟩, show max ov e = e by omega] at h)
                clear hqb
                clear HIV
                have b0 : 0 ≤ e := HV.out.2.1
                have b1 : e ≤ 1099511627776 := by have h1 := HV.out.1; have h2 := HV.out.2.2.1; simp only [Ph.rt, decide_eq_true_eq] at h1; omega
                have b2 : wrap64 (e + 1) = e + 1 := IntWalk.wrap64_in _ (by omega)
                go_wp2_with (with_reducible (show wpList _ _ _ (Oper.mk _ (Op.store 23 _ _) _ _ _ _ :: _) _ _); refine pause ?_)
                unfold Paused
                refine wpList_store_row rfl 23 (.tmp 3) (.tmp 70) rfl P (phC q1 q2) (by rfl) (by rfl) 23 (phC s e) HG8.out.blk ph_load rfl (ph_one _ _) ?_
                have HGT : Hid (NvI w (w8.setRow P (phC q1 q2)) P q1 q2 e) := Lib.hid ⟨HV.out, HG8.out.blk.row _, below_row HG8.out.bel HG8.out.le _, HG8.out.le⟩
                generalize w8.setRow P (phC q1 q2) = wt at HGT
                clear p1 d0 d1
                go_wp2_with fail
                go_loopw [73] (fun j wx => ∃ m : Nat, (m : Int) ≤ e + 1 ∧ j = .int .i64 m ∧ Hid (NvI w wx P q1 q2 e)) (fun j _ => (e + 1).toNat - (intOf j).toNat)
                case atStart => exact ⟨0, by omega, rfl, HGT⟩
                case round =>
                  obtain ⟨m, hm, rfl, HGI⟩ := hrel
                  by_cases hlm : (m : Int) < e + 1
                  · have p0 : wr.cell? ⟨P, 0, none⟩ = some (.int .i64 q1) := HGI.out.blk.cell 0
                    have p1 : wr.cell? ⟨P, 1, none⟩ = some (.int .i64 q2) := HGI.out.blk.cell 1
                    have CM := admit_any q1 q2 m a wr (HS.out.below HGI.out.bel (Nat.le_refl _))
                    have e9 : erV a (Ph.admit q1 q2 m) = ev (a (Ph.admit q1 q2 m - 1)) := if_neg (Ph.Inv.none HGI.out.inv (show (m : Int) ≤ e by omega))
                    rw [e9] at CM
                    generalize a (Ph.admit q1 q2 m - 1) = am at CM
                    clear e9
                    unfold phV at CM
                    go_wp2_with (go_at_call 15; refine pause ?_)
                    unfold Paused
                    refine CM.mono ?_
                    rintro r wy ⟨rfl, hby⟩
                    have HGY := Lib.hid (HGI.out.below hby)
                    clear CM hby p0 p1
                    go_wp2
                    go_round
                    case rel => exact ⟨m + 1, by omega, by go_num, HGY⟩
                    case measure => simp [intOf]; omega
                  · go_wp2
                    go_round
                    case rel => exact ⟨k + 1, q1, q2, e, by omega, by go_num, rfl, HGI⟩
                    case measure => simp [intOf]; omega
              · have HV : Hid (Ph.Inv q1 q2 ov) := Lib.hid (by have h := HIV.out; rwa [if_neg (by rintro ⟨_, h | h⟩; exact h HQ1.out; exact hlt2 h)] at h)
                clear hqb
                clear HIV
                have b0 : 0 ≤ ov := HV.out.2.1
                have b1 : ov ≤ 1099511627776 := by have h1 := HV.out.1; have h2 := HV.out.2.2.1; simp only [Ph.rt, decide_eq_true_eq] at h1; omega
                have b2 : wrap64 (ov + 1) = ov + 1 := IntWalk.wrap64_in _ (by omega)
                go_wp2_with (with_reducible (show wpList _ _ _ (Oper.mk _ (Op.store 23 _ _) _ _ _ _ :: _) _ _); refine pause ?_)
                unfold Paused
                refine wpList_store_row rfl 23 (.tmp 3) (.tmp 70) rfl P (phC q1 q2) (by rfl) (by rfl) 23 (phC s e) HG8.out.blk ph_load rfl (ph_one _ _) ?_
                have HGT : Hid (NvI w (w8.setRow P (phC q1 q2)) P q1 q2 ov) := Lib.hid ⟨HV.out, HG8.out.blk.row _, below_row HG8.out.bel HG8.out.le _, HG8.out.le⟩
                generalize w8.setRow P (phC q1 q2) = wt at HGT
                clear p1 d0 d1
                go_wp2_with fail
                go_loopw [73] (fun j wx => ∃ m : Nat, (m : Int) ≤ ov + 1 ∧ j = .int .i64 m ∧ Hid (NvI w wx P q1 q2 ov)) (fun j _ => (ov + 1).toNat - (intOf j).toNat)
                case atStart => exact ⟨0, by omega, rfl, HGT⟩
                case round =>
                  obtain ⟨m, hm, rfl, HGI⟩ := hrel
                  by_cases hlm : (m : Int) < ov + 1
                  · have p0 : wr.cell? ⟨P, 0, none⟩ = some (.int .i64 q1) := HGI.out.blk.cell 0
                    have p1 : wr.cell? ⟨P, 1, none⟩ = some (.int .i64 q2) := HGI.out.blk.cell 1
                    have CM := admit_any q1 q2 m a wr (HS.out.below HGI.out.bel (Nat.le_refl _))
                    have e9 : erV a (Ph.admit q1 q2 m) = ev (a (Ph.admit q1 q2 m - 1)) := if_neg (Ph.Inv.none HGI.out.inv (show (m : Int) ≤ ov by omega))
                    rw [e9] at CM
                    generalize a (Ph.admit q1 q2 m - 1) = am at CM
                    clear e9
                    unfold phV at CM
                    go_wp2_with (go_at_call 15; refine pause ?_)
                    unfold Paused
                    refine CM.mono ?_
                    rintro r wy ⟨rfl, hby⟩
                    have HGY := Lib.hid (HGI.out.below hby)
                    clear CM hby p0 p1
                    go_wp2
                    go_round
                    case rel => exact ⟨m + 1, by omega, by go_num, HGY⟩
                    case measure => simp [intOf]; omega
                  · go_wp2
                    go_round
                    case rel => exact ⟨k + 1, q1, q2, ov, by omega, by go_num, rfl, HGI⟩
                    case measure => simp [intOf]; omega
            · have hqb : (q1 == 2) = false := by simpa using hq1
              rw [hqb]
              have HV : Hid (Ph.Inv q1 q2 e) := Lib.hid (by have h := HIV.out; rwa [if_pos ⟨HSS.out, Or.inl hq1⟩, show max ov e = e by omega] at h)
              clear hq1 hqb
              clear HIV
              have b0 : 0 ≤ e := HV.out.2.1
              have b1 : e ≤ 1099511627776 := by have h1 := HV.out.1; have h2 := HV.out.2.2.1; simp only [Ph.rt, decide_eq_true_eq] at h1; omega
              have b2 : wrap64 (e + 1) = e + 1 := IntWalk.wrap64_in _ (by omega)
              go_wp2_with (with_reducible (show wpList _ _ _ (Oper.mk _ (Op.store 23 _ _) _ _ _ _ :: _) _ _); refine pause ?_)
              unfold Paused
              refine wpList_store_row rfl 23 (.tmp 3) (.tmp 70) rfl P (phC q1 q2) (by rfl) (by rfl) 23 (phC s e) HG8.out.blk ph_load rfl (ph_one _ _) ?_
              have HGT : Hid (NvI w (w8.setRow P (phC q1 q2)) P q1 q2 e) := Lib.hid ⟨HV.out, HG8.out.blk.row _, below_row HG8.out.bel HG8.out.le _, HG8.out.le⟩
              generalize w8.setRow P (phC q1 q2) = wt at HGT
              clear p1 d0 d1
              go_wp2_with fail
              go_loopw [73] (fun j wx => ∃ m : Nat, (m : Int) ≤ e + 1 ∧ j = .int .i64 m ∧ Hid (NvI w wx P q1 q2 e)) (fun j _ => (e + 1).toNat - (intOf j).toNat)
              case atStart => exact ⟨0, by omega, rfl, HGT⟩
              case round =>
                obtain ⟨m, hm, rfl, HGI⟩ := hrel
                by_cases hlm : (m : Int) < e + 1
                · have p0 : wr.cell? ⟨P, 0, none⟩ = some (.int .i64 q1) := HGI.out.blk.cell 0
                  have p1 : wr.cell? ⟨P, 1, none⟩ = some (.int .i64 q2) := HGI.out.blk.cell 1
                  have CM := admit_any q1 q2 m a wr (HS.out.below HGI.out.bel (Nat.le_refl _))
                  have e9 : erV a (Ph.admit q1 q2 m) = ev (a (Ph.admit q1 q2 m - 1)) := if_neg (Ph.Inv.none HGI.out.inv (show (m : Int) ≤ e by omega))
                  rw [e9] at CM
                  generalize a (Ph.admit q1 q2 m - 1) = am at CM
                  clear e9
                  unfold phV at CM
                  go_wp2_with (go_at_call 15; refine pause ?_)
                  unfold Paused
                  refine CM.mono ?_
                  rintro r wy ⟨rfl, hby⟩
                  have HGY := Lib.hid (HGI.out.below hby)
                  clear CM hby p0 p1
                  go_wp2
                  go_round
                  case rel => exact ⟨m + 1, by omega, by go_num, HGY⟩
                  case measure => simp [intOf]; omega
                · go_wp2
                  go_round
                  case rel => exact ⟨k + 1, q1, q2, e, by omega, by go_num, rfl, HGI⟩
                  case measure => simp [intOf]; omega
          · have hsb : (s == 2) = false := by simpa using hs
            rw [hsb]
            have HV : Hid (Ph.Inv q1 q2 ov) := Lib.hid (by have h := HIV.out; rwa [if_neg (fun h => hs h.1)] at h)
            clear hs hsb
            clear HIV
            have p1 : w7.cell? ⟨P, 1, none⟩ = some (.int .i64 e) := HG7.out.blk.cell 1
            have d0 : w7.cell? ⟨Q, 0, none⟩ = some (.int .i64 q1) := HY7.out.cell 0
            have d1 : w7.cell? ⟨Q, 1, none⟩ = some (.int .i64 q2) := HY7.out.cell 1
            have b0 : 0 ≤ ov := HV.out.2.1
            have b1 : ov ≤ 1099511627776 := by have h1 := HV.out.1; have h2 := HV.out.2.2.1; simp only [Ph.rt, decide_eq_true_eq] at h1; omega
            have b2 : wrap64 (ov + 1) = ov + 1 := IntWalk.wrap64_in _ (by omega)
            go_wp2_with (with_reducible (show wpList _ _ _ (Oper.mk _ (Op.store 23 _ _) _ _ _ _ :: _) _ _); refine pause ?_)
            unfold Paused
            refine wpList_store_row rfl 23 (.tmp 3) (.tmp 70) rfl P (phC q1 q2) (by rfl) (by rfl) 23 (phC s e) HG7.out.blk ph_load rfl (ph_one _ _) ?_
            have HGT : Hid (NvI w (w7.setRow P (phC q1 q2)) P q1 q2 ov) := Lib.hid ⟨HV.out, HG7.out.blk.row _, below_row HG7.out.bel HG7.out.le _, HG7.out.le⟩
            generalize w7.setRow P (phC q1 q2) = wt at HGT
            clear p1 d0 d1
            go_wp2_with fail
            go_loopw [73] (fun j wx => ∃ m : Nat, (m : Int) ≤ ov + 1 ∧ j = .int .i64 m ∧ Hid (NvI w wx P q1 q2 ov)) (fun j _ => (ov + 1).toNat - (intOf j).toNat)
            case atStart => exact ⟨0, by omega, rfl, HGT⟩
            case round =>
              obtain ⟨m, hm, rfl, HGI⟩ := hrel
              by_cases hlm : (m : Int) < ov + 1
              · have p0 : wr.cell? ⟨P, 0, none⟩ = some (.int .i64 q1) := HGI.out.blk.cell 0
                have p1 : wr.cell? ⟨P, 1, none⟩ = some (.int .i64 q2) := HGI.out.blk.cell 1
                have CM := admit_any q1 q2 m a wr (HS.out.below HGI.out.bel (Nat.le_refl _))
                have e9 : erV a (Ph.admit q1 q2 m) = ev (a (Ph.admit q1 q2 m - 1)) := if_neg (Ph.Inv.none HGI.out.inv (show (m : Int) ≤ ov by omega))
                rw [e9] at CM
                generalize a (Ph.admit q1 q2 m - 1) = am at CM
                clear e9
                unfold phV at CM
                go_wp2_with (go_at_call 15; refine pause ?_)
                unfold Paused
                refine CM.mono ?_
                rintro r wy ⟨rfl, hby⟩
                have HGY := Lib.hid (HGI.out.below hby)
                clear CM hby p0 p1
                go_wp2
                go_round
                case rel => exact ⟨m + 1, by omega, by go_num, HGY⟩
                case measure => simp [intOf]; omega
              · go_wp2
                go_round
                case rel => exact ⟨k + 1, q1, q2, ov, by omega, by go_num, rfl, HGI⟩
                case measure => simp [intOf]; omega
        · have e3 : erV a q3 = ev (a (q3 - 1)) := if_neg h0
          rw [e3]
          obtain ⟨e1, e2⟩ := HE.out h0
          have e1 : q1 = s := e1
          have e2 : q2 = e := e2
          subst e1 e2
          have q0 : (Op.equalIn 10000 23 (.agg #[.int .i64 q1, .int .i64 q2]) (.agg #[.int .i64 q1, .int .i64 q2])).run Tryd.prog w5 = .ok true w5 := by have h := ph_eq w5 q1 q2 q1 q2; rwa [show (q1 == q1 && q2 == q2) = true by simp] at h
          clear HE HO
          go_wp2
          go_round
          case rel => exact ⟨k + 1, q1, q2, ov, by omega, by go_num, rfl, HG5⟩
          case measure => simp [intOf]; omega
      · go_wp2
        go_ret
        exact ⟨rfl, HG.out.bel⟩
  · have g60 : (60 : Int) < n := by omega
    go_wp2
    go_ret
    exact ⟨rfl, HB1.out⟩
end Go.Proofs.YtagplmlhpocbjaaDoor
