/- The document's Sound: is an entry right, but for its length. -/
import Derived.Test.YtjkneidoochfjaaGreatDoorMOb35s
import Derived.Test.YtjkneidoochfjaaGreatDoorMOb41
import Derived.Test.YtjkneidoochfjaaGreatDoorMOct8s
import Derived.Test.YtjkneidoochfjaaGreatDoorMOb36s
import Derived.Test.YtjkneidoochfjaaGreatDoorMUptos
import Derived.Test.YtjkneidoochfjaaGreatDoorMEn25s
namespace Go.Proofs.YtjkneidoochfjaaGreatDoor
open Go Go.RowKit
/-- the document's entry in its box -/
structure EnR (w w1 : World) (e : En.E) (ca : Array Value) (U : Option Addr) (cu : Nat) (O : Option Addr) (co : Nat) (ts : List En.Bt) : Prop where
  bel : Below w.heap.size w w1
  box : Blk w1 w.heap.size 29 ca
  ent : EnC w1 e ca U cu O co ts
theorem EnR.of {w : World} {e : En.E} {ca : Array Value} {U O : Option Addr} {cu co : Nat} {ts : List En.Bt} (h : EnC w e ca U cu O co ts) : EnR w (w.alloc (.cells ca 29)) e ca U cu O co ts :=
  ⟨(Below.refl _ _).alloc (Nat.le_refl _) _, Blk.new w _ _, h.below ((Below.refl _ _).alloc (Nat.le_refl _) _)⟩
section
variable {w w1 w2 : World} {e : En.E} {ca : Array Value} {U O : Option Addr} {cu co : Nat} {ts : List En.Bt}
theorem EnR.below (h : EnR w w1 e ca U cu O co ts) (hb : Below w1.heap.size w1 w2) : EnR w w2 e ca U cu O co ts := ⟨below_next h.bel hb, h.box.below hb h.box.lt, h.ent.below hb⟩
theorem EnR.c0 (h : EnR w w1 e ca U cu O co ts) : w1.cell? ⟨w.heap.size, 0, none⟩ = some (.int .i64 e.client) := (h.box.cell 0).trans (by rw [h.ent.cells]; rfl)
theorem EnR.c1 (h : EnR w w1 e ca U cu O co ts) : w1.cell? ⟨w.heap.size, 1, none⟩ = some (.int .i64 e.number) := (h.box.cell 1).trans (by rw [h.ent.cells]; rfl)
theorem EnR.c2 (h : EnR w w1 e ca U cu O co ts) : w1.cell? ⟨w.heap.size, 2, none⟩ = some (.int .i64 e.answer) := (h.box.cell 2).trans (by rw [h.ent.cells]; rfl)
theorem EnR.c3 (h : EnR w w1 e ca U cu O co ts) : w1.cell? ⟨w.heap.size, 3, none⟩ = some (.slice U e.ups.length cu) := (h.box.cell 3).trans (by rw [h.ent.cells]; rfl)
theorem EnR.c4 (h : EnR w w1 e ca U cu O co ts) : w1.cell? ⟨w.heap.size, 4, none⟩ = some (.slice O e.objs.length co) := (h.box.cell 4).trans (by rw [h.ent.cells]; rfl)
end
theorem ob_bad_pos {xs : List Nat} {c : Nat} (h : Ob.parse xs = .bad c) : 0 < c := by
  have hf : ∀ {o : Ob} {c : Nat}, Prs.fin o = .bad c → 0 < c := by
    intro o c h
    unfold Prs.fin at h
    split at h
    · cases h
    · injection h with h; omega
  unfold Ob.parse at h
  split at h
  · injection h with h; omega
  · split at h
    · exact hf h
    · split at h
      · split at h
        · injection h with h; omega
        · exact hf h
      · split at h
        · split at h
          · injection h with h; omega
          · split at h
            · injection h with h; omega
            · exact hf h
        · split at h
          · split at h
            · injection h with h; omega
            · exact hf h
          · injection h with h; omega
/-- the document's parse of a text: is it an object's -/
theorem rparse_code (xs : List Nat) (A : Option Addr) (c : Nat) (w : World) (hv : Rd w (.slice A xs.length c) xs) (hb : Oc.bytes xs) :
    Calls Tryz.prog 28 #[.slice A xs.length c] w fun e w' => Below w.heap.size w w' ∧ ∃ (cs : Array Value) (k : Int), e = .returned (.tuple #[.agg cs, .int .i64 k]) ∧ cs.size = 36 ∧ cs.all (·.oneCell') = true ∧ (k != 0) = !(En.objOk xs) := by
  by_cases hz : xs.length ≤ 300
  · refine (rparse_any xs A c w hv hb hz).mono ?_
    rintro e w' ⟨h1, h2, h3⟩
    refine ⟨h1, ?_⟩
    cases hp : Ob.parse xs with
    | bad n =>
      have h0 : En.objOk xs = false := by
        cases h : En.objOk xs with
        | false => rfl
        | true =>
          obtain ⟨_, o, ho⟩ := (En.objOk_iff xs).1 h
          rw [hp] at ho
          cases ho
      have hn := ob_bad_pos hp
      exact ⟨zc0, n, h2 n hp, by rfl, by kernel_rfl, by rw [h0]; simp; omega⟩
    | ok o =>
      have h0 : En.objOk xs = true := (En.objOk_iff xs).2 ⟨hz, o, hp⟩
      obtain ⟨cs, T, tc, E, ec, P, pc, he, hf, hd, ho⟩ := h3 o hp
      refine ⟨cs, 0, he, ?_, ?_, by rw [h0]; rfl⟩
      · rw [ho.cells]; simp [cellsB_len, hf.target.1]
      · rw [ho.cells]
        refine arr_one fun v hv => ?_
        rcases List.mem_cons.1 hv with rfl | hv; · rfl
        rcases List.mem_cons.1 hv with rfl | hv; · rfl
        rcases List.mem_cons.1 hv with rfl | hv; · rfl
        rcases List.mem_append.1 hv with hv | hv
        · exact cellsB_one _ v hv
        · rw [List.mem_singleton.1 hv]; rfl
  · refine (rparse_large A xs.length c w (by omega)).mono ?_
    rintro e w' ⟨rfl, h1⟩
    have h0 : En.objOk xs = false := by
      cases h : En.objOk xs with
      | false => rfl
      | true => exact absurd ((En.objOk_iff xs).1 h).1 hz
    exact ⟨h1, zc0, 13, rfl, by rfl, by kernel_rfl, by rw [h0]; rfl⟩
theorem robj_load {cs : Array Value} (h : cs.size = 36) : (Tryz.prog.info? 66).map (·.size) = some cs.size := by rw [h]; kernel_rfl
set_option maxRecDepth 100000 in
set_option maxHeartbeats 16000000 in
theorem rsound_any (e : En.E) (ca : Array Value) (U O : Option Addr) (cu co : Nat) (ts : List En.Bt) (w : World) (h : EnC w e ca U cu O co ts) (hs : ∀ u ∈ e.ups, u.ref.size ≤ 3000) (hn : e.ups.length ≤ 1000) (_ho : e.objs.length ≤ 1000) (hco : e.objs.length ≤ co) :
    Calls Tryz.prog 12 #[.agg ca] w fun r w' => r = .returned (.bool (En.formed e)) ∧ Below w.heap.size w w' := by
  obtain ⟨w1, hw1⟩ : ∃ w1, w1 = w.alloc (.cells ca 29) := ⟨_, rfl⟩
  have hb : EnR w w1 e ca U cu O co ts := hw1 ▸ EnR.of h
  have p0 := hb.c0
  have p1 := hb.c1
  have p2 := hb.c2
  have p3 := hb.c3
  have p4 := hb.c4
  have CU := rupdates_any e.ups U e.ups.length cu w1 hb.ent.ups rfl hb.ent.fit hs hn
  have HE := Lib.hid hb
  have HK : Hid (En.formed e = (decide (0 ≤ e.client) && (decide (e.client < 8) && (decide (1 ≤ e.number) && (decide (e.number ≤ 1099511627776) && (decide (0 ≤ e.answer) && (decide (e.answer ≤ 10) && (if e.answer = 0 then En.upsOk e.ups && (decide (e.objs.length ≤ 64) && En.once (e.objs.map En.obKey)) else decide (e.ups.length = 0) && decide (e.objs.length = 0))))))))) := Lib.hid rfl
  have e1 := hw1.symm
  generalize En.formed e = R at HK ⊢
  generalize En.upsOk e.ups = r1 at HK CU
  obtain ⟨nu, hnu⟩ : ∃ nu, nu = e.ups.length := ⟨_, rfl⟩
  obtain ⟨no, hno⟩ : ∃ no, no = e.objs.length := ⟨_, rfl⟩
  obtain ⟨x, hx⟩ : ∃ x, x = e.client := ⟨_, rfl⟩
  obtain ⟨y, hy⟩ : ∃ x, x = e.number := ⟨_, rfl⟩
  obtain ⟨z, hz⟩ : ∃ x, x = e.answer := ⟨_, rfl⟩
  rw [← hnu] at p3 CU HK
  rw [← hno] at p4 HK
  rw [← hx] at p0 HK
  rw [← hy] at p1 HK
  rw [← hz] at p2 HK
  have HNO := Lib.hid hno
  have HCAP : Hid (no ≤ co) := Lib.hid (by rw [hno]; exact hco)
  clear h hb hw1 hs hn _ho hco hnu hno hx hy hz
  go_enter Tryz.func12, Tryz.ntmps12
  by_cases h1 : x < 0
  · skip
    have HF : Hid (R = false) := Lib.hid (by rw [HK.out, decide_eq_false (show ¬ 0 ≤ x by omega)]; simp)
    clear CU p3 p4
    go_wp2
    go_ret
    exact ⟨by rw [HF.out]; rfl, HE.out.bel⟩
  by_cases h2 : 7 < x
  · skip
    have HF : Hid (R = false) := Lib.hid (by rw [HK.out, decide_eq_false (show ¬ x < 8 by omega)]; simp)
    clear CU p3 p4
    go_wp2
    go_ret
    exact ⟨by rw [HF.out]; rfl, HE.out.bel⟩
  by_cases h3 : y < 1
  · skip
    have HF : Hid (R = false) := Lib.hid (by rw [HK.out, decide_eq_false (show ¬ 1 ≤ y by omega)]; simp)
    clear CU p3 p4
    go_wp2
    go_ret
    exact ⟨by rw [HF.out]; rfl, HE.out.bel⟩
  by_cases h4 : 1099511627776 < y
  · skip
    have HF : Hid (R = false) := Lib.hid (by rw [HK.out, decide_eq_false (show ¬ y ≤ 1099511627776 by omega)]; simp)
    clear CU p3 p4
    go_wp2
    go_ret
    exact ⟨by rw [HF.out]; rfl, HE.out.bel⟩
  by_cases h5 : z < 0
  · skip
    have HF : Hid (R = false) := Lib.hid (by rw [HK.out, decide_eq_false (show ¬ 0 ≤ z by omega)]; simp)
    clear CU p3 p4
    go_wp2
    go_ret
    exact ⟨by rw [HF.out]; rfl, HE.out.bel⟩
  by_cases h6 : 10 < z
  · skip
    have HF : Hid (R = false) := Lib.hid (by rw [HK.out, decide_eq_false (show ¬ z ≤ 10 by omega)]; simp)
    clear CU p3 p4
    go_wp2
    go_ret
    exact ⟨by rw [HF.out]; rfl, HE.out.bel⟩
  have HF : Hid (R = (if z = 0 then r1 && (decide (no ≤ 64) && En.once (e.objs.map En.obKey)) else decide (nu = 0) && decide (no = 0))) := Lib.hid (by
    rw [HK.out, decide_eq_true (show 0 ≤ x by omega), decide_eq_true (show x < 8 by omega), decide_eq_true (show 1 ≤ y by omega), decide_eq_true (show y ≤ 1099511627776 by omega), decide_eq_true (show 0 ≤ z by omega), decide_eq_true (show z ≤ 10 by omega)]
    simp)
  by_cases h7 : 0 < z
  · have HF2 : Hid (R = (decide (nu = 0) && decide (no = 0))) := Lib.hid (by rw [HF.out, if_neg (by omega)])
    clear HF HK CU
    by_cases hu : nu = 0
    · have bu : ((nu : Int) == 0) = true := by simp [hu]
      by_cases hq : no = 0
      · have bo : ((no : Int) == 0) = true := by simp [hq]
        have HF3 : Hid (R = true) := Lib.hid (by rw [HF2.out, decide_eq_true hu, decide_eq_true hq]; rfl)
        clear hu hq HF2
        go_wp2
        go_ret
        exact ⟨by rw [HF3.out]; rfl, HE.out.bel⟩
      · have bo : ((no : Int) == 0) = false := by simp [hq]
        have HF3 : Hid (R = false) := Lib.hid (by rw [HF2.out, decide_eq_false hq]; simp)
        clear hu hq HF2
        go_wp2
        go_ret
        exact ⟨by rw [HF3.out]; rfl, HE.out.bel⟩
    · have bu : ((nu : Int) == 0) = false := by simp [hu]
      have HF3 : Hid (R = false) := Lib.hid (by rw [HF2.out, decide_eq_false hu]; rfl)
      clear hu HF2
      go_wp2
      go_ret
      exact ⟨by rw [HF3.out]; rfl, HE.out.bel⟩
  have HF2 : Hid (R = (r1 && (decide (no ≤ 64) && En.once (e.objs.map En.obKey)))) := Lib.hid (by rw [HF.out, if_pos (by omega)])
  clear HF HK
  go_wp2_with (go_at_call 11; refine pause ?_)
  unfold Paused
  refine CU.mono ?_
  rintro r w2 ⟨rfl, hb2⟩
  have HE2 := Lib.hid (HE.out.below hb2)
  clear CU hb2 p0 p1 p2 p3 p4 e1 HE h1 h2 h3 h4 h5 h6 h7
  clear w1
  cases r1
  · go_wp2
    go_ret
    exact ⟨by rw [HF2.out]; rfl, HE2.out.bel⟩
  have p4 := HE2.out.c4
  rw [← HNO.out] at p4
  by_cases h8 : 64 < no
  · have i8 : (64 : Int) < (no : Int) := by omega
    have HF3 : Hid (R = false) := Lib.hid (by rw [HF2.out, decide_eq_false (show ¬ no ≤ 64 by omega)]; rfl)
    go_wp2
    go_ret
    exact ⟨by rw [HF3.out]; rfl, HE2.out.bel⟩
  have i8 : ¬ (64 : Int) < (no : Int) := by omega
  have HF3 : Hid (R = En.once (e.objs.map En.obKey)) := Lib.hid (by rw [HF2.out, decide_eq_true (show no ≤ 64 by omega)]; rfl)
  obtain ⟨ks, hks⟩ : ∃ ks, ks = e.objs.map En.obKey := ⟨_, rfl⟩
  rw [← hks] at HF3
  have HKS := Lib.hid hks
  have HLK : Hid (no = ks.length) := Lib.hid (by rw [hks, List.length_map, HNO.out])
  have HN8 : Hid (no ≤ 64) := Lib.hid (by omega)
  clear HF2 h8 hks
  go_wp2
  clear p4
  go_loopw [63] (fun i wr => ∃ k : Nat, k ≤ no ∧ i = .int .i64 k ∧ Hid (EnR w wr e ca U cu O co ts) ∧ Hid (En.once (ks.take k) = true)) (fun i _ => no - (intOf i).toNat)
  case atStart => exact ⟨0, Nat.zero_le _, rfl, HE2, Lib.hid (by rw [List.take_zero]; exact En.once_nil)⟩
  case round =>
    obtain ⟨k, hk, rfl, HE3, HO⟩ := hrel
    by_cases hlt : k < no
    · have hki : k < ks.length := by rw [← HLK.out]; exact hlt
      have hkt : k < ts.length := by rw [← HE3.out.ent.nobj, ← HNO.out]; exact hlt
      have HKI := Lib.hid hki
      obtain ⟨b, o, rfl, hbl, hcell⟩ := HE3.out.ent.objs.row (by rw [← HNO.out]; omega)
      have pc := hcell k _ (List.getElem?_eq_getElem hkt)
      obtain ⟨hrd, hby⟩ := HE3.out.ent.objs.rd _ (List.getElem_mem hkt)
      have hke : ks[k]'(HKI.out) = En.obKey ts[k].text := (List.getElem_of_eq HKS.out HKI.out).trans (by simp [← HE3.out.ent.txt])
      generalize ts[k] = t at pc hrd hby hke
      have hto : Oc.bytes t.text := fun x hx => by
        obtain ⟨i, hi, rfl⟩ := List.mem_iff_getElem.1 hx
        have := hby i
        simpa [List.getD, hi] using this
      obtain ⟨A1, c1, hval⟩ : ∃ A1 c1, t.val = .slice A1 t.text.length c1 := by obtain ⟨A1, c1, h, _⟩ := hrd; exact ⟨A1, c1, h⟩
      rw [hval] at pc hrd
      have CP := rparse_code t.text A1 c1 wr hrd hto
      have HRD := Lib.hid hrd
      have HTO := Lib.hid hto
      have HBY := Lib.hid hby
      have HKE := Lib.hid hke
      have i1 : ((k : Nat) : Int) < no := by omega
      have i2 : (0 : Int) ≤ ((k : Nat) : Int) := by omega
      have i3 : ((no : Nat) : Int) ≤ 64 := by have := HN8.out; omega
      have HLT : Hid (k + 1 ≤ no) := Lib.hid hlt
      have HBL := Lib.hid hbl
      have HCE := Lib.hid hcell
      obtain ⟨tx, htx⟩ : ∃ tx, tx = t.text := ⟨_, rfl⟩
      obtain ⟨nt, hnt⟩ : ∃ n, n = tx.length := ⟨_, rfl⟩
      rw [← htx] at pc CP HRD HTO HBY HKE
      rw [← hnt] at pc CP HRD
      have HNT := Lib.hid hnt
      clear hki hkt hbl hcell hrd hby hke hto hval hk hlt htx hnt
      clear t
      go_wp2_with (go_at_call 28; refine pause ?_)
      unfold Paused
      refine CP.mono ?_
      rintro r w4 ⟨hb4, cs, kc, rfl, h36, hone, hcode⟩
      have HE4 := Lib.hid (HE3.out.below hb4)
      have HRD4 := Lib.hid (HRD.out.below hb4 (Nat.le_refl _))
      have H36 := Lib.hid h36
      have H1 := Lib.hid hone
      have HKK : Hid (En.obKey tx = (textOf tx, En.objOk tx)) := Lib.hid rfl
      obtain ⟨r2, hr2⟩ : ∃ r2, r2 = En.objOk tx := ⟨_, rfl⟩
      rw [← hr2] at hcode HKK
      clear hb4 h36 hone CP pc HE3 HRD hr2
      go_wp2_with (with_reducible (show wpList _ _ _ (Oper.mk _ (Op.store 66 _ _) _ _ _ _ :: _) _ _); refine pause ?_)
      unfold Paused
      change wpList _ _ _ _ _ (w4.alloc (.cells zc0 66))
      refine wpList_store_row (by rfl) 66 (.tmp 5) (.tmp 71) (by rfl) w4.heap.size cs (by rfl) (by rfl) 66 zc0 (Blk.new w4 _ _) (robj_load H36.out) (by rw [H36.out]; rfl) H1.out ?_
      have HN5 := Lib.hid (show Below w4.heap.size w4 ((w4.alloc (.cells zc0 66)).setRow w4.heap.size cs) from below_row ((Below.refl _ _).alloc (Nat.le_refl _) _) (Nat.le_refl _) _)
      generalize (w4.alloc (.cells zc0 66)).setRow w4.heap.size cs = w5 at HN5 ⊢
      have HE5 := Lib.hid (HE4.out.below HN5.out)
      have HRD5 := Lib.hid (HRD4.out.below HN5.out (Nat.le_refl _))
      clear HE4 HRD4 HN5 H36 H1
      generalize w4.heap.size = g5
      clear w4
      simp only [Act.put]
      cases r2
      · have hc : (kc != 0) = true := hcode
        have HF : Hid (R = false) := Lib.hid (by rw [HF3.out, En.once_bad HKI.out (by rw [HKE.out, HKK.out])])
        clear hcode
        go_wp2
        go_ret
        exact ⟨by rw [HF.out]; rfl, HE5.out.bel⟩
      have hc : (kc != 0) = false := hcode
      clear hcode
      have p4 := HE5.out.c4
      rw [← HNO.out] at p4
      have q1 : ∀ w', (Instr.slice 23 (.slice (some ⟨b, o, none⟩) no co) none (some (.int .i64 (k : Int))) none).run Tryz.prog w' = .ok (.slice (some ⟨b, o, none⟩) k co) w' := fun w' => run_sliceHi Tryz.underlying23 (by kernel_rfl) (some ⟨b, o, none⟩) no co k (by have := HLT.out; have := HCAP.out; omega) rfl w'
      go_wp2
      go_loopw [80] (fun i wr => wr = w5 ∧ ∃ j : Nat, j ≤ k ∧ i = .int .i64 j ∧ Hid (textOf tx ∉ (ks.take j).map (·.1))) (fun i _ => k - (intOf i).toNat)
      case atStart => exact ⟨rfl, 0, Nat.zero_le _, rfl, Lib.hid (by rw [List.take_zero]; simp)⟩
      case round =>
        obtain ⟨rfl, j, hj, rfl, HNM⟩ := hrel
        by_cases hjk : j < k
        · have hjt : j < ts.length := by have := HLT.out; have h1 := HE5.out.ent.nobj; rw [← HNO.out] at h1; omega
          have hjks : j < ks.length := by have := HLT.out; have := HLK.out; omega
          have i4 : ((j : Nat) : Int) < k := by omega
          have i5 : (0 : Int) ≤ ((j : Nat) : Int) := by omega
          obtain ⟨b2, o2, hbo, hbl2, hcell2⟩ := HE5.out.ent.objs.row (by have := HLT.out; rw [← HNO.out]; omega)
          injection hbo with hbo
          injection hbo with hb2 ho2 _
          subst hb2 ho2
          have pc := hcell2 j _ (List.getElem?_eq_getElem hjt)
          obtain ⟨hrd, hby⟩ := HE5.out.ent.objs.rd _ (List.getElem_mem hjt)
          have hke : ks[j]'hjks = En.obKey ts[j].text := (List.getElem_of_eq HKS.out hjks).trans (by simp [← HE5.out.ent.txt])
          generalize ts[j] = t at pc hrd hby hke
          obtain ⟨A2, c2, hval⟩ : ∃ A1 c1, t.val = .slice A1 t.text.length c1 := by obtain ⟨A1, c1, h, _⟩ := hrd; exact ⟨A1, c1, h⟩
          rw [hval] at pc hrd
          have cv1 := conv_rd hrd
          have cv2 := conv_rd HRD5.out
          have HJK : Hid (j + 1 ≤ k) := Lib.hid hjk
          have HSAME : Hid (textOf t.text = textOf tx → En.once ks = false) := Lib.hid (fun e => En.once_twice HKI.out (by
            rw [HKE.out, HKK.out]
            show textOf tx ∈ _
            rw [← e]
            refine List.mem_map.2 ⟨ks[j]'hjks, ?_, by rw [hke]; rfl⟩
            exact List.mem_take_iff_getElem.2 ⟨j, by omega, rfl⟩))
          have HDIFF : Hid (textOf t.text ≠ textOf tx → textOf tx ∉ (ks.take (j + 1)).map (·.1)) := Lib.hid (fun e hm => by
            rw [List.take_succ_eq_append_getElem hjks, List.map_append] at hm
            rcases List.mem_append.1 hm with hm | hm
            · exact HNM.out hm
            · simp only [List.map_cons, List.map_nil, List.mem_singleton] at hm
              rw [hke] at hm
              exact e hm.symm)
          obtain ⟨nt2, hnt2⟩ : ∃ n, n = t.text.length := ⟨_, rfl⟩
          rw [← hnt2] at pc cv1
          obtain ⟨T1, hT1⟩ : ∃ T, T = textOf t.text := ⟨_, rfl⟩
          obtain ⟨T2, hT2⟩ : ∃ T, T = textOf tx := ⟨_, rfl⟩
          rw [← hT1] at cv1 HSAME HDIFF
          rw [← hT2] at cv2 HSAME
          have HDF : Hid (T1 ≠ T2 → textOf tx ∉ (ks.take (j + 1)).map (·.1)) := Lib.hid (by rw [hT2]; exact HDIFF.out)
          clear hjt hjks hbl2 hcell2 hrd hby hke hval hj hjk hnt2 hT1 hT2 HDIFF HNM
          clear t
          rcases Classical.em (T1 = T2) with e | e
          · have hq : (T1.toList == T2.toList) = true := toList_inj.trans (eqv_true e)
            have HF : Hid (R = false) := Lib.hid (by rw [HF3.out, HSAME.out e])
            clear e HSAME HDF
            go_wp2
            go_ret
            exact ⟨by rw [HF.out]; rfl, HE5.out.bel⟩
          · have hq : (T1.toList == T2.toList) = false := toList_inj.trans (eqv_false e)
            have HNX := Lib.hid (HDF.out e)
            clear e HSAME HDF
            go_wp2
            go_roundw
            case rel => exact ⟨trivial, j + 1, HJK.out, by go_num, HNX⟩
            case measure => have h5 := HJK.out; simp [intOf]; omega
        · obtain rfl : j = k := by omega
          have ij : ¬ ((j : Nat) : Int) < j := by omega
          have HON : Hid (En.once (ks.take (j + 1)) = true) := Lib.hid (En.once_step HKI.out HO.out (by rw [HKE.out, HKK.out]) (by rw [HKE.out, HKK.out]; exact HNM.out))
          go_wp2
          go_roundw
          case rel => exact ⟨j + 1, HLT.out, by go_num, HE5, HON⟩
          case measure => have h5 := HLT.out; simp [intOf]; omega
    · obtain rfl : k = no := by omega
      have ik : ¬ ((k : Nat) : Int) < k := by omega
      have HFT : Hid (R = true) := Lib.hid (by
        have h1 := HO.out
        rw [HLK.out, List.take_length] at h1
        rw [HF3.out, h1])
      clear hk hlt HO
      go_wp2
      go_ret
      exact ⟨by rw [HFT.out]; rfl, HE3.out.bel⟩
end Go.Proofs.YtjkneidoochfjaaGreatDoor
/- The document's Laid: words. -/
namespace Go.Proofs.YtjkneidoochfjaaGreatDoor
open Go Go.RowKit
theorem Pad.next {B : Nat} {w wr w' : World} {v : Value} {ys : List Nat} (h : Pad B w v ys wr) (hB : w.heap.size = B) (hb : Below wr.heap.size wr w') : Pad B w v ys w' := by
  subst hB
  exact h.step hb
/-- bytes are appended onto one's own row -/
theorem wpList_padX {ops : Array Oper} {rest : List Oper} {o : Oper} {a : Act} {wr : World} {Q : Exit → Act → World → Prop} (hgd : o.guard = none) (s x : Operand)
    (ho : o.op = .call { callee := .builtin .append, args := #[s, x], argTypes := #[32, 32] }) {B : Nat} {w2 : World} (hB : w2.heap.size = B) {v : Value} {ys : List Nat} (hs : a.eval s = v) (hp : Pad B w2 v ys wr) {u : Value} {xs : List Nat} (hx : a.eval x = u) (hu : Rd wr u xs) (hn : ys.length + xs.length ≤ 1000000)
    (h : ∀ v' w', Pad B w2 v' (ys ++ xs) w' → wpList Tryz.prog ops Q rest (a.put o.dst v') w') : wpList Tryz.prog ops Q (o :: rest) a wr := by
  have hl := hp.low hB
  refine wpList_appendB hgd s x ho B v ys hs hp.own hl u hx xs hu (by omega) fun v' w' ho hg => ?_
  exact h v' w' ⟨ho, below_ownB hB hp.bel hp.own hg⟩
theorem wp_padX {o : Oper} {a : Act} {wr : World} {K : Act → World → Prop} {Q : Exit → Act → World → Prop} (s x : Operand)
    (ho : o.op = .call { callee := .builtin .append, args := #[s, x], argTypes := #[32, 32] }) {B : Nat} {w2 : World} (hB : w2.heap.size = B) {v : Value} {ys : List Nat} (hs : a.eval s = v) (hp : Pad B w2 v ys wr) {u : Value} {xs : List Nat} (hx : a.eval x = u) (hu : Rd wr u xs) (hn : ys.length + xs.length ≤ 1000000)
    (h : ∀ v' w', Pad B w2 v' (ys ++ xs) w' → K (a.put o.dst v') w') : o.wp Tryz.prog a wr K Q := by
  have hl := hp.low hB
  refine wp_appendB s x ho B v ys hs hp.own hl u hx xs hu (by omega) fun v' w' ho hg => ?_
  exact h v' w' ⟨ho, below_ownB hB hp.bel hp.own hg⟩
theorem exec_buildZ {P : Program} {o : Oper} {a : Act} {w : World} (t : TypeId) (parts : Array (Nat × Operand)) (ho : o.op = .build t parts) (vals : List (Nat × Value)) (hv : (parts.map fun (i, x) => (i, a.eval x)).toList = vals) (cells : Array Value) (h : P.built t vals = some cells) : (execOp a.eval o).run P w = .ok (.value (.agg cells)) w := by
  unfold execOp
  simp only [ho, Sem.run_bind, run_build w t _ cells (by rw [hv]; exact h), Result.andThen_ok]
  rfl
theorem En.laidUps_len : ∀ {us : List En.Up}, (∀ u ∈ us, u.Fit) → (∀ u ∈ us, u.ref.size ≤ 24) → (En.laidUps us).length ≤ 90 * us.length
  | [], _, _ => by simp [En.laidUps]
  | u :: us, hf, hs => by
    have h1 := En.laidUps_len (us := us) (fun v hv => hf v (List.mem_cons_of_mem _ hv)) (fun v hv => hs v (List.mem_cons_of_mem _ hv))
    have h2 := hf u (List.mem_cons_self ..)
    have h3 := hs u (List.mem_cons_self ..)
    rw [En.laidUps_eq, List.flatMap_cons, List.length_append, ← En.laidUps_eq, List.length_cons]
    unfold En.laidUp
    simp only [List.length_append, Oc.nums_len, strB_len, h2.1.1, h2.2.1]
    omega
theorem En.laidObjs_len : ∀ {os : List (List Nat)}, (∀ x ∈ os, x.length ≤ 300) → (En.laidObjs os).length ≤ 302 * os.length
  | [], _ => by simp [En.laidObjs]
  | x :: os, hs => by
    have h1 := En.laidObjs_len (os := os) (fun v hv => hs v (List.mem_cons_of_mem _ hv))
    have h3 := hs x (List.mem_cons_self ..)
    rw [En.laidObjs_eq, List.flatMap_cons, List.length_append, ← En.laidObjs_eq, List.length_cons]
    unfold En.laidOb
    simp only [List.length_append, Oc.nums_len]
    omega
theorem En.nums_one {n : Nat} (h : n < 256) : Oc.nums 1 n = [n] := by
  have h1 := Oc.nums_val 1 [n] (fun x hx => by rw [List.mem_singleton.1 hx]; exact h) rfl
  have h2 : Oc.val [n] = n := by simp [Oc.val]
  rwa [h2] at h1
theorem fld2_built (A : Option Addr) (n c : Nat) : Tryz.prog.built 77 [(1, .slice A n c)] = some #[.int .i64 0, .slice A n c] := by kernel_rfl
theorem frow_blk {w : World} {g T : Nat} {fs : List Fld} (h : Blk w g T (cellsFd fs).toArray) (hr : ∀ f ∈ fs, Rd w (.slice f.A f.l f.c) f.bs ∧ f.bs.length = f.l) : FRow w g 0 fs :=
  ⟨fun i hi => by rw [Nat.zero_add, h.cell, List.getElem?_toArray]; exact (cellsFd_at fs i hi).1, fun i hi => by rw [Nat.zero_add, h.cell, List.getElem?_toArray]; exact (cellsFd_at fs i hi).2, hr, h.lt⟩
/-- an update's three fields are its bytes -/
theorem En.up_encs {u : En.Up} (fs : List Fld) (h : fs.map Oc.fkey = En.upF u) : Oc.encs [116, 111, 111] fs = En.laidUp u := by
  rw [Oc.encs_P, h]
  show Oc.enc 116 0 (strB u.ref) ++ (Oc.enc 111 0 u.old ++ (Oc.enc 111 0 u.new ++ [])) = _
  rw [En.enc_t, En.enc_o, En.enc_o, List.append_nil]
  unfold En.laidUp
  simp only [List.append_assoc]
theorem En.up_ok {u : En.Up} (hf : u.Fit) (hs : u.ref.size ≤ 65535) (fs : List Fld) (h : fs.map Oc.fkey = En.upF u) (hl : ∀ f ∈ fs, f.bs.length = f.l) (k : Nat) : Oc.okTo [116, 111, 111] fs k := by
  refine Oc.okTo_P _ _ hl ?_ k
  rw [h]
  show (Oc.fits 116 0 (strB u.ref).length && (Oc.fits 111 0 u.old.length && (Oc.fits 111 0 u.new.length && true))) = true
  rw [hf.1.1, hf.2.1, En.fits_o, En.fits_t (by rw [strB_len]; exact hs)]
  rfl
/-- the front of an entry: a row is made and a number laid, in either order -/
structure St2 where
  b3 : Bool
  b6 : Bool
def St2.ls (s : St2) : Array Bool := #[true, true, true, s.b3, true, true, s.b6, false, false]
def St2.left (s : St2) : Nat := (!s.b3).toNat + (!s.b6).toNat
def St2.nx (s : St2) : List Nat := (if s.b3 then [] else [3]) ++ (if s.b6 then [] else [6])
def St2.V (_ : St2) : Prop := True
theorem St2.mem_nx {s : St2} {i : Nat} (h : i ∈ s.nx) : (i = 3 ∧ s.b3 = false) ∨ (i = 6 ∧ s.b6 = false) := by
  obtain ⟨b1, z⟩ := s
  cases b1 <;> cases z <;> simp [St2.nx] at h ⊢ <;> omega
theorem St2.nx_ne {s : St2} (_ : s.V) (hl : s.left ≠ 0) : s.nx ≠ [] := by
  obtain ⟨b1, z⟩ := s
  cases b1 <;> cases z <;> simp [St2.nx, St2.left] at hl ⊢
structure I2 (w1 : World) (x : List Nat) (ys : List Nat) (s : St2) (v13 v16 : Value) (w' : World) : Prop where
  bel : Below w1.heap.size w1 w'
  pad : s.b3 = true → Pad w1.heap.size w1 v13 x w'
  num : s.b6 = true → Rd w' v16 ys
def IS2 (a1 : Act) (w1 : World) (x : List Nat) (ys : List Nat) (s : St2) (a : Act) (w' : World) : Prop :=
  ∃ v13 v16, a = ((a1.put (some 13) v13).put (some 16) v16) ∧ I2 w1 x ys s v13 v16 w'
theorem I2.row {w1 : World} {x : Nat} {ys : List Nat} {z : Bool} {v13 v16 : Value} {w' : World} (h : I2 w1 [x] ys ⟨false, z⟩ v13 v16 w') : I2 w1 [x] ys ⟨true, z⟩ (.slice (some ⟨w'.heap.size, 0, none⟩) 1 1) v16 (w'.alloc (.cells #[.int .u8 (x : Int)] 5)) := by
  have hb : Below w'.heap.size w' (w'.alloc (.cells #[.int .u8 (x : Int)] 5)) := (Below.refl _ _).alloc (Nat.le_refl _) _
  refine ⟨below_next h.bel hb, fun _ => ⟨?_, below_next h.bel hb⟩, fun hn => (h.num hn).below hb (Nat.le_refl _)⟩
  exact own_low (World.ownsRow_lit (base := w'.heap.size) (e := 5) (size := 1) w' #[.int .u8 (x : Int)] 1 (Nat.le_refl _) (by decide) rfl) h.bel.size
theorem I2.laid {w1 : World} {x : List Nat} {ys : List Nat} {b : Bool} {v13 v16 v : Value} {w' w'' : World} (h : I2 w1 x ys ⟨b, false⟩ v13 v16 w') (hb : Below w'.heap.size w' w'') (hr : Rd w'' v ys) : I2 w1 x ys ⟨b, true⟩ v13 v w'' :=
  ⟨below_next h.bel hb, fun hn => (h.pad hn).next rfl hb, fun _ => hr⟩
theorem wpAnyH_states3 {P : Program} {md : Region.Mode} {ops : Array Oper} {Q : Exit → Act → World → Prop} {S : World → Prop} {σ : Type} (ls : σ → Array Bool) (left : σ → Nat) (nx : σ → List Nat) (V : σ → Prop) (I : σ → Act → World → Prop) (m : Nat)
    (hS : ∀ s a w, I s a w → S w)
    (hr : ∀ s, V s → left s ≠ 0 → Region.ready md ops (ls s) = nx s) (hv : ∀ s a w, I s a w → V s) (hn : ∀ s, V s → left s ≠ 0 → nx s ≠ [])
    (hs : ∀ s a w, I s a w → ∀ i ∈ nx s, ∃ t, (ls s).setIfInBounds i true = ls t ∧ left t + 1 = left s ∧ wpOp P ops Q i (I t) a w)
    (h0 : ∀ s a w, I s a w → left s = 0 → wpAnyH P md ops Q S m (ls s) a w) :
    ∀ k s a w, I s a w → left s = k → wpAnyH P md ops Q S (m + k) (ls s) a w
  | 0, s, a, w, h, hk => h0 s a w h hk
  | k + 1, s, a, w, h, hk => by
    have hl : left s ≠ 0 := by omega
    have hrs := hr s (hv s a w h) hl
    refine ⟨fun he => absurd (hrs.symm.trans he) (hn s (hv s a w h) hl), fun i hi => ?_⟩
    rw [hrs] at hi
    obtain ⟨t, h3, h4, h5⟩ := hs s a w h i hi
    refine wpOp_mono (fun a' w' h6 => ⟨hS _ _ _ h6, ?_⟩) h5
    rw [h3]
    exact wpAnyH_states3 ls left nx V I m hS hr hv hn hs h0 k t a' w' h6 (by omega)
end Go.Proofs.YtjkneidoochfjaaGreatDoor
