/- The law EntryParts. -/
import Derived.Test.YtldfjpafpfakcaaDoorMEn22
namespace Go.Proofs.YtldfjpafpfakcaaDoor
open Go Go.RowKit
namespace En
def less (e : E) : E := ⟨e.client, e.number, e.answer, e.ups, []⟩
theorem less_formed {e : E} (h : formed e = true) : formed (less e) = true := by
  unfold formed at h ⊢
  simp only [Bool.and_eq_true, decide_eq_true_iff] at h ⊢
  obtain ⟨h1, h2, h3, h4, h5, h6, h7⟩ := h
  refine ⟨h1, h2, h3, h4, h5, h6, ?_⟩
  by_cases h0 : e.answer = 0
  · have h0' : (less e).answer = 0 := h0
    rw [if_pos h0] at h7
    rw [if_pos h0']
    simp only [Bool.and_eq_true] at h7 ⊢
    refine ⟨h7.1, ?_⟩
    unfold objsOk
    rw [Bool.and_eq_true]
    exact ⟨decide_eq_true (Nat.zero_le _), once_nil⟩
  · have h0' : ¬ (less e).answer = 0 := h0
    rw [if_neg h0] at h7
    rw [if_neg h0']
    simp only [Bool.and_eq_true] at h7 ⊢
    exact ⟨h7.1, rfl⟩
theorem less_len (e : E) : (laid (less e)).length ≤ (laid e).length := by
  unfold laid less
  simp only [List.length_append, Oc.nums_len]
  have : (laidObjs []).length = 0 := rfl
  rw [this]
  omega
/-- what formed says of the objects -/
theorem formed_objs {e : E} (h : formed e = true) : once (e.objs.map obKey) = true := by
  unfold formed at h
  simp only [Bool.and_eq_true, decide_eq_true_iff] at h
  obtain ⟨h1, h2, h3, h4, h5, h6, h7⟩ := h
  by_cases h0 : e.answer = 0
  · rw [if_pos h0] at h7
    simp only [Bool.and_eq_true] at h7
    have h8 := h7.2
    unfold objsOk at h8
    simp only [Bool.and_eq_true] at h8
    exact h8.2
  · rw [if_neg h0] at h7
    simp only [Bool.and_eq_true, decide_eq_true_iff] at h7
    rw [List.length_eq_zero_iff.1 h7.2]
    exact once_nil
theorem once_at {l : List (ByteArray × Bool)} (h : once l = true) {k : Nat} (hk : k < l.length) : l[k].2 = true ∧ l[k].1 ∉ (l.take k).map (·.1) := by
  have h1 := (once_iff l).1 h
  refine ⟨h1.1 _ (List.getElem_mem hk), fun hm => ?_⟩
  rw [once_twice hk hm] at h
  cases h
end En
theorem EnC.less {w : World} {e : En.E} {ca : Array Value} {U O : Option Addr} {cu co : Nat} {ts : List En.Bt} (h : EnC w e ca U cu O co ts) : EnC w (En.less e) (#[.int .i64 e.client, .int .i64 e.number, .int .i64 e.answer, .slice U e.ups.length cu, .slice none 0 0]) U cu none 0 [] :=
  ⟨rfl, h.ups, h.fit, ⟨rfl, fun h => absurd h (by simp [En.less]), fun t ht => by cases ht⟩, rfl⟩
set_option maxRecDepth 100000 in
set_option maxHeartbeats 16000000 in
theorem eparts_law (e : En.E) (ca : Array Value) (U O : Option Addr) (cu co : Nat) (ts : List En.Bt) (s : Nat → Addr) (w : World) (h : EnC w e ca U cu O co ts) (hS : ESents w s) (hm : MaxAt w) :
    Calls Tryd.prog 4 #[.agg ca] w fun r w' => r = .returned (.bool true) ∧ Below w.heap.size w w' := by
  obtain ⟨w1, hw1⟩ : ∃ w1, w1 = w.alloc (.cells ca 25) := ⟨_, rfl⟩
  have hb : EnB w w1 e ca U cu O co ts := hw1 ▸ EnB.of h
  have HB1 := Lib.hid hb
  have HSE := Lib.hid hS
  have HM := Lib.hid hm
  have H0 := Lib.hid h
  have CA := ealive_any s w1 (hS.at_ hb.bel) (hm.below hb.bel (Nat.le_refl _))
  have e1 := hw1.symm
  clear h hb hw1 hS hm
  go_enter Tryd.func4, Tryd.ntmps4
  go_wp2_with (go_at_call 5; refine pause ?_)
  unfold Paused
  refine CA.mono ?_
  rintro r w3 ⟨rfl, hb3⟩
  have HB3 := Lib.hid (HB1.out.below hb3)
  clear hb3 CA HB1 e1
  clear w1
  go_wp2_with (with_reducible (show wpList _ _ _ (Oper.mk _ (Op.load 25 _) _ _ _ _ :: _) _ _); refine pause ?_)
  unfold Paused
  refine wpList_row_w (by rfl) 25 (.tmp 1) (by rfl) w.heap.size (by rfl) 25 ca _ HB3.out.box (by first | exact Tryd.underlying25 | kernel_rfl) (by rfl) (ent_load H0.out.size) ?_
  go_wp2_with (go_at_call 6; refine pause ?_)
  unfold Paused
  refine (eof_any e ca U O cu co ts w3 HB3.out.ent).mono ?_
  rintro r w4 ⟨hb4, hok4, hno4⟩
  have HB4 := Lib.hid (HB3.out.below hb4)
  have hk4 : ∃ cx ok, r = .returned (.tuple #[.agg cx, .bool ok]) ∧ cx.size = 5 ∧ cx.all (·.oneCell') = true ∧ ok = En.few e := by
    cases hf : En.few e with
    | true =>
      obtain ⟨Ux, cux, hr, hx⟩ := hok4 hf
      exact ⟨_, true, hr, rfl, ecs1 _ _ _ _ _ _, rfl⟩
    | false =>
      obtain ⟨cs, hr, h5, h1⟩ := hno4 hf
      exact ⟨cs, false, hr, h5, h1, rfl⟩
  obtain ⟨cx, okx, rfl, h5x, h1x, hokx⟩ := hk4
  have H5X := Lib.hid h5x
  have H1X := Lib.hid h1x
  have HOKX := Lib.hid hokx
  clear hb4 hok4 hno4 h5x h1x hokx HB3
  clear w3
  go_wp2_with (with_reducible (show wpList _ _ _ (Oper.mk _ (Op.store 29 _ _) _ _ _ _ :: _) _ _); refine pause ?_)
  unfold Paused
  change wpList _ _ _ _ _ (w4.alloc (.cells zR 29))
  refine wpList_store_row (by rfl) 29 (.tmp 3) (.tmp 19) (by rfl) w4.heap.size cx (by rfl) (by rfl) 29 zR (Blk.new w4 _ _) (rnt_load H5X.out) (by rw [H5X.out]; rfl) H1X.out ?_
  have HN5 := Lib.hid (boxed_in (w := w4) (T := 29) (zs := zR) (cs := cx))
  generalize (w4.alloc (.cells zR 29)).setRow w4.heap.size cx = w5 at HN5 ⊢
  have HB5 := Lib.hid (HB4.out.below HN5.out.1)
  clear HB4 HN5
  generalize w4.heap.size = gx
  clear w4
  simp only [Act.put]
  cases okx
  · go_wp2
    go_ret
    exact ⟨rfl, HB5.out.bel⟩
  have HFA := Lib.hid (En.few_iff HOKX.out.symm)
  clear HOKX
  go_wp2_with (with_reducible (show wpList _ _ _ (Oper.mk _ (Op.load 25 _) _ _ _ _ :: _) _ _); refine pause ?_)
  unfold Paused
  refine wpList_row_w (by rfl) 25 (.tmp 1) (by rfl) w.heap.size (by rfl) 25 ca _ HB5.out.box (by first | exact Tryd.underlying25 | kernel_rfl) (by rfl) (ent_load H0.out.size) ?_
  go_wp2_with (go_at_call 10; refine pause ?_)
  unfold Paused
  refine (ebytes_any e ca U O cu co ts s w5 HB5.out.ent (HSE.out.at_ HB5.out.bel) (HM.out.below HB5.out.bel (Nat.le_refl _)) (by have := HFA.out.1; omega)).mono ?_
  rintro r w6 ⟨hb6, hbad, hok⟩
  have HB6 := Lib.hid (HB5.out.below hb6)
  cases hr : En.bytes e with
  | bad n =>
    obtain rfl := hbad n hr
    have HR : Hid (En.right e = false) := Lib.hid (by
      rw [← Bool.not_eq_true, En.right_iff, hr]
      rintro ⟨b, hb⟩
      cases hb)
    clear hb6 hbad hok hr HB5
    clear w5
    go_wp2_with (with_reducible (show wpList _ _ _ (Oper.mk _ (Op.load 25 _) _ _ _ _ :: _) _ _); refine pause ?_)
    unfold Paused
    refine wpList_row_w (by rfl) 25 (.tmp 1) (by rfl) w.heap.size (by rfl) 25 ca _ HB6.out.box (by first | exact Tryd.underlying25 | kernel_rfl) (by rfl) (ent_load H0.out.size) ?_
    go_wp2_with (go_at_call 11; refine pause ?_)
    unfold Paused
    refine (eright_any e ca U O cu co ts s w6 HB6.out.ent (HSE.out.at_ HB6.out.bel) (HM.out.below HB6.out.bel (Nat.le_refl _)) (by have := HFA.out.1; omega)).mono ?_
    rintro r w7 ⟨rfl, hb7⟩
    have HB7 := Lib.hid (below_next HB6.out.bel hb7)
    rw [HR.out]
    clear hb7
    go_wp2
    go_ret
    exact ⟨rfl, HB7.out⟩
  | ok b =>
    obtain ⟨v, rfl, hp⟩ := hok b hr
    obtain ⟨hbl, hfm, hln⟩ := En.bytes_laid hr
    subst hbl
    obtain ⟨Av, cv, hvv⟩ := own_slice hp.own
    subst hvv
    have HFM := Lib.hid hfm
    have HLN := Lib.hid hln
    have HON := Lib.hid (En.formed_objs hfm)
    clear hb6 hbad hok hr hp hfm hln HB5
    clear w5
    obtain ⟨nl, hnl⟩ : ∃ n, n = (En.laid e).length := ⟨_, rfl⟩
    rw [← hnl] at HLN ⊢
    have HNL := Lib.hid hnl
    clear hnl
    obtain ⟨ks, hks⟩ : ∃ ks, ks = e.objs.map En.obKey := ⟨_, rfl⟩
    rw [← hks] at HON
    have HKS := Lib.hid hks
    have mk := once_make w6
    have HW0 := Lib.hid (OnW.new w6 ks)
    have p4 := ((HB6.out.below ((Below.refl _ _).alloc (Nat.le_refl _) (.map #[] 0)))).c4
    obtain ⟨no, hno⟩ : ∃ n, n = e.objs.length := ⟨_, rfl⟩
    rw [← hno] at p4
    have HNO := Lib.hid hno
    have HLK : Hid (no = ks.length) := Lib.hid (by rw [hks, List.length_map]; exact hno)
    have HN70 : Hid (no ≤ 70) := Lib.hid (by rw [hno]; exact HFA.out.2.1)
    clear hks hno
    go_wp2
    generalize w6.alloc (.map #[] 0) = w7 at HW0 ⊢
    clear mk p4
    go_loopw [42] (fun i wr => ∃ k : Nat, k ≤ no ∧ i = .int .i64 k ∧ Hid (OnW w6 wr ks k)) (fun i _ => no - (intOf i).toNat)
    case atStart => exact ⟨0, Nat.zero_le _, rfl, HW0⟩
    case round =>
      obtain ⟨k, hk, rfl, HW⟩ := hrel
      have HBr := Lib.hid (HB6.out.below HW.out.bel)
      by_cases hlt : k < no
      · have hki : k < ks.length := by rw [← HLK.out]; exact hlt
        have hkt : k < ts.length := by rw [← H0.out.nobj, ← HNO.out]; exact hlt
        have HKI := Lib.hid hki
        have hat := En.once_at HON.out HKI.out
        have i1 : ((k : Nat) : Int) < no := by omega
        have i2 : (0 : Int) ≤ ((k : Nat) : Int) := by omega
        have i3 : ((k : Nat) : Int) < 70 := by have := HN70.out; omega
        obtain ⟨b, o, rfl, hbl, hcell⟩ := H0.out.objs.row (by rw [← HNO.out]; omega)
        have pc := (HBr.out.bel.cell (p := ⟨b, o + k, none⟩) hbl).trans (hcell k _ (List.getElem?_eq_getElem hkt))
        obtain ⟨hrd, hby⟩ := H0.out.objs.rd _ (List.getElem_mem hkt)
        have hke : ks[k]'(HKI.out) = En.obKey ts[k].text := (List.getElem_of_eq (HKS.out.trans (by rw [← H0.out.txt])) HKI.out).trans (by simp)
        rw [hke] at hat
        generalize ts[k] = t at pc hrd hby hke hat
        obtain ⟨A1, c1, hval⟩ : ∃ A1 c1, t.val = .slice A1 t.text.length c1 := by obtain ⟨A1, c1, h, _⟩ := hrd; exact ⟨A1, c1, h⟩
        rw [hval] at pc hrd
        obtain ⟨hsm, ob, hob⟩ := (En.objOk_iff t.text).1 hat.1
        have CP := oparse_ok ob t.text s (.slice A1 t.text.length c1) wr (hrd.below HBr.out.bel (Nat.le_refl _)) (Oc.bytes_of hby) hsm ((HSE.out.at_ HBr.out.bel).p) hob
        have HRD := Lib.hid hrd
        have HKE := Lib.hid hke
        have HNI := Lib.hid hat.2
        have hsz : (textOf t.text).size ≤ maxLen := En.obKey_size (x := t.text) hat.1
        have HSZ := Lib.hid hsz
        have HOKK := Lib.hid hat.1
        obtain ⟨tx, htx⟩ : ∃ tx, tx = t.text := ⟨_, rfl⟩
        rw [← htx] at pc CP HRD HKE HNI HSZ HOKK
        obtain ⟨n1, hn1⟩ : ∃ n, n = tx.length := ⟨_, rfl⟩
        rw [← hn1] at pc CP
        have HN1 := Lib.hid hn1
        clear hki hkt hbl hcell hrd hby hke hat hval hsm hob hsz htx hn1 hk hlt
        go_wp2_with (go_at_call 12; refine pause ?_)
        unfold Paused
        refine CP.mono ?_
        rintro r w8 ⟨cs, T, tc, E, ec, P, pcc, rfl, hfit, _, ho, hb8⟩
        have H36 := Lib.hid (en_size ho hfit)
        have H1 := Lib.hid ho.one
        have HW8 := Lib.hid (HW.out.below hb8)
        clear ho hfit hb8 CP pc HW HBr
        go_wp2_with (with_reducible (show wpList _ _ _ (Oper.mk _ (Op.store 51 _ _) _ _ _ _ :: _) _ _); refine pause ?_)
        unfold Paused
        change wpList _ _ _ _ _ (w8.alloc (.cells zOc 51))
        refine wpList_store_row (by rfl) 51 (.tmp 10) (.tmp 49) (by rfl) w8.heap.size cs (by rfl) (by rfl) 51 zOc (Blk.new w8 _ _) (en_obj36 H36.out) (by rw [H36.out]; rfl) H1.out ?_
        have HN9 := Lib.hid (boxed_in (w := w8) (T := 51) (zs := zOc) (cs := cs))
        generalize (w8.alloc (.cells zOc 51)).setRow w8.heap.size cs = w9 at HN9 ⊢
        have HW9 := Lib.hid (HW8.out.below HN9.out.1)
        clear HN9 HW8
        generalize w8.heap.size = g8
        clear w8
        simp only [Act.put]
        have HV9 : Hid (Rd w9 (.slice A1 n1 c1) tx) := Lib.hid (by rw [HN1.out]; exact HRD.out.below (HB6.out.below HW9.out.bel).bel (Nat.le_refl _))
        have q1 : (convert 39 9 (.slice A1 n1 c1)).run Tryd.prog w9 = .ok (.string (textOf tx)) w9 := conv_rd HV9.out
        have q2 := HW9.out.map.look (t := 47) (e := 4) Tryd.underlying47 (once_zero w9) HSZ.out
        rw [show En.seen ((ks.take k).map (·.1)) (textOf tx) = none from En.seen_no HNI.out] at q2
        simp only [Option.getD_none] at q2
        obtain ⟨wa, hrun, hma, hga⟩ := HW9.out.map.store (t := 47) (e := 4) Tryd.underlying47 (by have := HN70.out; have := HLK.out; have := HKI.out; unfold maxLen; omega) HSZ.out (.bool true)
        have HWa : Hid (OnW w6 wa ks (k + 1)) := Lib.hid (HW9.out.put HKI.out HKE.out HOKK.out HNI.out hma hga)
        have HLT : Hid (k + 1 ≤ no) := Lib.hid (by rw [HLK.out]; exact HKI.out)
        generalize textOf tx = sx at q1 q2 hrun
        clear hma hga
        go_wp2
        go_roundw
        case rel => exact ⟨k + 1, HLT.out, by go_num, HWa⟩
        case measure => have h5 := HLT.out; simp [intOf]; omega
      · obtain rfl : k = no := by omega
        have ik : ¬ ((k : Nat) : Int) < k := by omega
        clear hk hlt
        go_wp2_with (with_reducible (show wpList _ _ _ (Oper.mk _ (Op.load 25 _) _ _ _ _ :: _) _ _); refine pause ?_)
        unfold Paused
        refine wpList_row_w (by rfl) 25 (.tmp 1) (by rfl) w.heap.size (by rfl) 25 ca _ HBr.out.box (by first | exact Tryd.underlying25 | kernel_rfl) (by rfl) (ent_load H0.out.size) ?_
        go_wp2_with (with_reducible (show wpList _ _ _ (Oper.mk _ (Op.store 25 _ _) _ _ _ _ :: _) _ _); refine pause ?_)
        unfold Paused
        change wpList _ _ _ _ _ (wr.alloc (.cells zR 25))
        refine wpList_store_row (by rfl) 25 (.tmp 12) (.tmp 63) (by rfl) wr.heap.size ca (by rfl) (by rfl) 25 zR (Blk.new wr _ _) (ent_load H0.out.size) (by rw [H0.out.size]; rfl) H0.out.one ?_
        have HN9 := Lib.hid (boxed_in (w := wr) (T := 25) (zs := zR) (cs := ca))
        generalize (wr.alloc (.cells zR 25)).setRow wr.heap.size ca = w9 at HN9 ⊢
        have HBz := Lib.hid (HBr.out.below HN9.out.1)
        have HBL := Lib.hid HN9.out.2
        have HGL : Hid (w.heap.size ≤ wr.heap.size) := Lib.hid HBr.out.bel.size
        clear HN9 HBr HW
        generalize wr.heap.size = gl at HBL HGL ⊢
        simp only [Act.put]
        have q4 : w9.cell? ⟨gl, 4, none⟩ = some (.slice O k co) := (HBL.out.cell 4).trans (by rw [H0.out.cells, HNO.out]; rfl)
        have f4 := HBL.out.frozen 4
        have HBX : Hid (Blk (w9.setCell ⟨gl, 4, none⟩ (.slice none 0 0)) gl 25 #[.int .i64 e.client, .int .i64 e.number, .int .i64 e.answer, .slice U e.ups.length cu, .slice none 0 0]) := Lib.hid (by
          have h1 := HBL.out.set_ 4 (.slice none 0 0)
          rw [H0.out.cells] at h1
          exact h1)
        have HBY : Hid (Below w.heap.size w (w9.setCell ⟨gl, 4, none⟩ (.slice none 0 0))) := Lib.hid (HBz.out.bel.setCell (p := ⟨gl, 4, none⟩) HGL.out _)
        go_wp2_with (with_reducible (show wpList _ _ _ (Oper.mk _ (Op.load 25 _) _ _ _ _ :: _) _ _); refine pause ?_)
        unfold Paused
        clear q4 f4
        generalize w9.setCell ⟨gl, 4, none⟩ (.slice none 0 0) = wb at HBX HBY ⊢
        refine wpList_row_w (by rfl) 25 (.tmp 12) (by rfl) gl (by rfl) 25 #[.int .i64 e.client, .int .i64 e.number, .int .i64 e.answer, .slice U e.ups.length cu, .slice none 0 0] _ HBX.out (by first | exact Tryd.underlying25 | kernel_rfl) (by rfl) (ent_load rfl) ?_
        have CB := ebytes_any (En.less e) _ U none cu 0 [] s wb (H0.out.below HBY.out).less (HSE.out.at_ HBY.out) (HM.out.below HBY.out (Nat.le_refl _)) (by have := HFA.out.1; show e.ups.length ≤ 1000; omega)
        have HLL := Lib.hid (En.less_len e)
        have HBO : Hid (En.bytes (En.less e) = .ok (En.laid (En.less e))) := Lib.hid (En.bytes_ok (En.less_formed HFM.out) (by have := HLL.out; have := HLN.out; have := HNL.out; omega))
        go_wp2_with (go_at_call 10; refine pause ?_)
        unfold Paused
        refine CB.mono ?_
        rintro r wc ⟨hbc, _, hokc⟩
        obtain ⟨v2, rfl, hp2⟩ := hokc _ HBO.out
        obtain ⟨A2, c2, hv2⟩ := own_slice hp2.own
        subst hv2
        have HBc := Lib.hid (below_next HBY.out hbc)
        have j1 : ((nl : Nat) : Int) ≤ 2800 := by have := HLN.out; omega
        obtain ⟨nm, hnm⟩ : ∃ n, n = (En.laid (En.less e)).length := ⟨_, rfl⟩
        rw [← hnm]
        have j2 : ((nm : Nat) : Int) ≤ (nl : Int) := by have := HLL.out; have := HNL.out; omega
        clear hbc hokc hp2 hnm CB
        go_wp2
        go_ret
        exact ⟨rfl, HBc.out⟩
end Go.Proofs.YtldfjpafpfakcaaDoor
