/- The law ClosureParts. -/
import Derived.Test.YtlodalppnglclaaDoorMCl12s
namespace Go.Proofs.YtlodalppnglclaaDoor
open Go Go.RowKit
set_option maxRecDepth 100000 in
set_option maxHeartbeats 8000000 in
theorem cparts_law (A : Option Addr) (n c : Nat) (ls : List Cl.Lk) (z : Int) (a : Nat → Addr) (w : World) (hT : LkT w A n ls) (ht : Tabs w) (hS : CSents w a) :
    Calls Tryd.prog 5 #[.slice A n c, .int .i64 z] w fun e w' => e = .returned (.bool true) ∧ Below w.heap.size w w' := by
  have AL := cl_alive_any a w ht hS
  have HT := Lib.hid hT
  have HTB := Lib.hid ht
  have HS := Lib.hid hS
  clear hT ht hS
  go_enter Tryd.func5, Tryd.ntmps5
  go_wp2_with (go_at_call 6; refine pause ?_)
  unfold Paused
  refine AL.mono ?_
  rintro e w1 ⟨rfl, hb1⟩
  have H1 := Lib.hid hb1
  have CR := lrow_any A n c ls a w1 (HT.out.below hb1) (HTB.out.below hb1 (Nat.le_refl _)) (HS.out.at_ hb1).p.2.1
  unfold RowPost at CR
  clear hb1 AL
  go_wp2_with (go_at_call 16; refine pause ?_)
  unfold Paused
  refine CR.mono ?_
  rintro e w2 ⟨vo, va, hb2, hq⟩
  have H2 := Lib.hid (below_next H1.out hb2)
  rcases hq with rfl | ⟨rfl, its, hrs, hl20⟩
  · clear hb2 CR
    go_wp2
    go_ret
    exact ⟨rfl, H2.out⟩
  obtain ⟨m, hm⟩ : ∃ m, m = its.length := ⟨_, rfl⟩
  obtain ⟨Ao, co, hvo⟩ := own_slice hrs.oo
  obtain ⟨Aa, ca, hva⟩ := own_slice hrs.oa
  rw [List.length_map] at hva
  rw [← hm] at hvo hva
  subst hvo hva
  have HRS := Lib.hid hrs
  have HL := Lib.hid hl20
  have HM := Lib.hid hm
  have HID2 : Hid (RdK w2 (.slice Aa m ca) m (cellsP (its.map fun p => Sha.sum p.text))) := Lib.hid (by have h1 := rowst_ids hrs; rwa [← hm] at h1)
  have HM20 : Hid (m ≤ 20) := Lib.hid (by omega)
  clear hrs hl20 hm hb2 CR
  by_cases hm0 : m = 0
  · have g0 : ((m : Int) == 0) = true := by simp [hm0]
    clear hm0
    go_wp2
    go_ret
    exact ⟨rfl, H2.out⟩
  have g0 : ((m : Int) == 0) = false := by simp [hm0]
  have HM0 : Hid (0 < m) := Lib.hid (by omega)
  have m0 : (0 : Int) < (m : Int) := by omega
  have m2 : (m : Int) ≤ 20 := by have := HM20.out; omega
  clear hm0
  go_wp2_with (with_reducible (show wpList _ _ _ (Oper.mk _ (Op.indexAddr 23 _ _) _ _ _ _ :: _) _ _); refine pause ?_)
  unfold Paused
  obtain ⟨r2, hr2, hf1, hf2, _⟩ := lk_rem z m HM0.out (by have := HM20.out; omega) 0 (by omega)
  have hf0 : IntKind.u64.wrap (m : Int) = (m : Int) := to_u64 m (Nat.le_trans HM20.out (by decide))
  simp only [hf1, hf2]
  have r1 : ((r2 : Nat) : Int) < (m : Int) := Int.ofNat_lt.2 hr2
  have r0 : (0 : Int) ≤ ((r2 : Nat) : Int) := Int.natCast_nonneg _
  obtain ⟨ba, oa, x, rfl, hxm, hxr⟩ := ids_at HID2.out HM.out hr2
  have HXM := Lib.hid hxm
  have HXR := Lib.hid hxr
  have HIX := Lib.hid (ids_id32 its x hxm)
  clear hr2 hf0 hf1 hf2 hxm hxr
  go_wp2_with (with_reducible (show wpList _ _ _ (Oper.mk _ (Op.load 37 _) _ _ _ _ :: _) _ _); refine pause ?_)
  unfold Paused
  refine wpList_mid_w (by rfl) 37 (.tmp 37) (by rfl) ba (oa + r2 * 32) (by rfl) (cellsB x) _ HXR.out Tryd.underlying37 (by rfl) (by rw [cellsP1_len HIX.out]; kernel_rfl) ?_
  obtain ⟨ip, hip, hpz, hps, hpb⟩ := info_parts oid_info25
  go_wp2_with (with_reducible (show wpList _ _ _ (Oper.mk _ (Op.buildSlice _ _ _) _ _ _ _ :: _) _ _); refine pause ?_)
  unfold Paused
  refine wpList_buildSliceK (by rfl) 23 37 1 _ (by rfl) (cellsB x).toArray ip (.agg (cellsB (List.replicate 32 0)).toArray) Tryd.underlying23 hip hpz (by rw [hps]; decide) (by rw [hps]; decide) _ (by kernel_rfl) (by rw [hps]; exact fill_one 32 (Value.agg (cellsB (List.replicate 32 0)).toArray).cells _ (cellsP1_len HIX.out) (by rfl)) ?_
  have b3 : Below w2.heap.size w2 (w2.alloc (.cells (cellsB x).toArray 37)) := (Below.refl _ _).alloc (Nat.le_refl _) _
  have HX3 := Lib.hid (Blk.new w2 37 (cellsB x).toArray)
  have H3 := Lib.hid (below_next H2.out b3)
  have HR3 := Lib.hid (HRS.out.below b3)
  have HID3 := Lib.hid (HID2.out.below b3 (Nat.le_refl _))
  clear b3 hip hpz hps hpb HXR r1 r0
  generalize w2.alloc (.cells (cellsB x).toArray 37) = w3 at HX3 H3 HR3 HID3 ⊢
  generalize w2.heap.size = g3 at HX3 ⊢
  simp only [Act.put]
  have HTB3 := Lib.hid (HTB.out.below H3.out (Nat.le_refl _))
  have HS3 := Lib.hid (HS.out.at_ H3.out)
  have HIN := Lib.hid (rowst_in (A2 := some ⟨g3, 0, none⟩) (n2 := 1) (c2 := 1) (roots := [x]) HR3.out HL.out HTB3.out HS3.out ⟨_, 1, rfl, Nat.le_refl _, fun _ => ⟨g3, 0, rfl, HX3.out.lt, fun j u hj => by
    rw [Nat.zero_add]
    exact (HX3.out.cell j).trans (by simpa [cellsP] using hj)⟩⟩ rfl (fun y hy => by rw [List.mem_singleton.1 hy]; exact HIX.out) (by simp))
  have HINA := Lib.hid (rowst_in (A2 := some ⟨ba, oa, none⟩) (n2 := m) (c2 := ca) (roots := its.map fun p => Sha.sum p.text) HR3.out HL.out HTB3.out HS3.out HID3.out (by rw [List.length_map]; exact HM.out) (ids_id32 its) (by rw [List.length_map]; have := HL.out; omega))
  have HIN0 := Lib.hid (rowst_in (A2 := none) (n2 := 0) (c2 := 0) (roots := []) HR3.out HL.out HTB3.out HS3.out (RdK.nil _ _) rfl (fun y hy => (by cases hy)) (by simp))
  have HBY := Lib.hid HIN.out.byt
  have HOL : Hid ((its.map (·.text)).length ≤ 20) := Lib.hid (by rw [List.length_map]; exact HL.out)
  have HTX := Lib.hid HR3.out.tx
  have HOO := Lib.hid HR3.out.oo
  have C4 := reached_any HIN.out w3 (Below.refl _ _)
  unfold SetPost at C4
  clear HX3 HID3 HID2 HTB HS
  go_wp2_with (go_at_call 11; refine pause ?_)
  unfold Paused
  refine C4.mono ?_
  rintro e w4 ⟨v4, r4, rfl, hv4, hi4, hr4, hm4, hb4⟩
  have HF4 := Lib.hid (set_few hr4 hi4 (fun y hy h => ((hm4 y hy).1 h).1) HBY.out (by simp) HOL.out)
  have HI4 := Lib.hid hi4
  have HM4 := Lib.hid hm4
  have HB4 := Lib.hid hb4
  have C5 := loose_any HIN.out w4 hb4
  unfold SetPost at C5
  have HV4 := Lib.hid hv4
  clear C4 hv4 hi4 hr4 hm4 hb4
  go_wp2_with (go_at_call 14; refine pause ?_)
  unfold Paused
  refine C5.mono ?_
  rintro e w5 ⟨v5, r5, rfl, hv5, hi5, hr5, hm5, hb5⟩
  have HF5 := Lib.hid (set_few2 hr5 hi5 (fun y hy h => ((hm5 y hy).1 h).1) HOL.out)
  have HI5 := Lib.hid hi5
  have HM5 := Lib.hid hm5
  have HB5 := Lib.hid (below_next HB4.out hb5)
  have HV5 := Lib.hid hv5
  have HV45 := Lib.hid (rdo_go HV4.out hb5 (Nat.le_refl _))
  clear C5 hv5 hi5 hr5 hm5 hb5 HV4
  go_wp2
  go_loopw [48] (fun i wr => ∃ k : Nat, k ≤ m ∧ i = .int .i64 k ∧ Hid (Below w5.heap.size w5 wr)) (fun i _ => m - (intOf i).toNat)
  case atStart => exact ⟨0, Nat.zero_le _, rfl, Lib.hid (Below.refl _ _)⟩
  case round =>
    obtain ⟨k, hk, rfl, HK⟩ := hrel
    rcases Nat.lt_or_ge k m with hlt | hlt
    rotate_left
    · obtain rfl : k = m := by omega
      have ik : ¬ ((k : Nat) : Int) < k := by omega
      clear hk hlt
      have HBK := Lib.hid (below_next HB5.out HK.out)
      have C6 := loose_any HINA.out wr HBK.out
      unfold SetPost at C6
      go_wp2_with (go_at_call 14; refine pause ?_)
      unfold Paused
      refine C6.mono ?_
      rintro e w6 ⟨v6, r6, rfl, hv6, hi6, hr6, hm6, hb6⟩
      obtain rfl : r6 = [] := nil_of fun y hy => by
        obtain ⟨h1, h2⟩ := (hm6 y (hi6 y hy)).1 hy
        exact h2 (Cl.Rch.root (the_ids h1))
      obtain ⟨A6, c6, rfl⟩ := len_rdo hv6
      have HB6 := Lib.hid (below_next HBK.out hb6)
      have C7 := missing_any HIN0.out w6 HB6.out
      unfold SetPost at C7
      clear C6 hv6 hi6 hr6 hm6 hb6
      have e0 : ((([] : List (List Nat)).length : Int) == 0) = true := rfl
      go_wp2_with (go_at_call 12; refine pause ?_)
      unfold Paused
      refine C7.mono ?_
      rintro e w7 ⟨v7, r7, rfl, hv7, hi7, hr7, hm7, hb7⟩
      obtain rfl : r7 = [] := nil_of fun y hy => Cl.rch_nil ((hm7 y (hi7 y hy)).1 hy).1
      obtain ⟨A7, c7, rfl⟩ := len_rdo hv7
      have HB7 := Lib.hid (below_next HB6.out hb7)
      have C8 := whole_any HIN0.out w7 HB7.out
      unfold WholePost at C8
      clear C7 hv7 hi7 hr7 hm7 hb7
      go_wp2_with (go_at_call 15; refine pause ?_)
      unfold Paused
      refine C8.mono ?_
      rintro e w8 ⟨β, rfl, hβ, hb8⟩
      obtain rfl : β = true := hβ.2 fun y _ hr => (Cl.rch_nil hr).elim
      have HF := Lib.hid (below_next H3.out (below_next HB7.out hb8))
      clear C8 hβ hb8
      go_wp2
      go_ret
      exact ⟨rfl, HF.out⟩
    obtain ⟨p, hp⟩ : ∃ p, its[k]? = some p := ⟨its[k]'(by have := HM.out; omega), List.getElem?_eq_getElem _⟩
    have HP := Lib.hid (List.mem_of_getElem? hp)
    obtain ⟨htx, hty, htl⟩ := HTX.out p HP.out
    have HTY := Lib.hid hty
    have HTL := Lib.hid htl
    have HBK := Lib.hid (below_next HB5.out HK.out)
    obtain ⟨Ak, ck, hvk⟩ := own_slice htx
    obtain ⟨bo, oo, hAo, hcell⟩ : ∃ bo oo, Ao = some ⟨bo, oo, none⟩ ∧ wr.cell? ⟨bo, oo + k, none⟩ = some p.val := by
      obtain ⟨A', c', hv', _, hA'⟩ := (rdk_own HOO.out).below HBK.out (Nat.le_refl _)
      injection hv' with e1 e2 e3
      obtain ⟨b', o', ha', _, hx'⟩ := hA' (by omega)
      exact ⟨b', o', e1.trans ha', hx' k p.val (by rw [List.getElem?_map, hp]; rfl)⟩
    subst hAo
    obtain ⟨nk, hnk⟩ : ∃ q, q = p.text.length := ⟨_, rfl⟩
    rw [← hnk] at hvk
    rw [hvk] at hcell
    have HRD : Hid (Rd wr (.slice Ak nk ck) p.text) := Lib.hid (by rw [← hvk]; exact (rd_own htx).below HBK.out (Nat.le_refl _))
    have CID := oid_any p.text (.slice Ak nk ck) wr HRD.out HTY.out (HTB3.out.below HBK.out (Nat.le_refl _)) (by have := HTL.out; omega)
    obtain ⟨sm, hsm⟩ : ∃ s, s = Sha.sum p.text := ⟨_, rfl⟩
    rw [← hsm] at CID
    have HSM := Lib.hid hsm
    have HIS : Hid (Id32 sm) := Lib.hid (by rw [hsm]; exact cl_sum_id _)
    have i1 : ((k : Nat) : Int) < m := by omega
    have i2 : (0 : Int) ≤ ((k : Nat) : Int) := by omega
    have i3 : ((m : Nat) : Int) ≤ 20 := by have := HM20.out; omega
    have HLT := Lib.hid hlt
    clear hp htx hty htl hvk hsm hnk hk hlt
    go_wp2_with (go_at_call 18; refine pause ?_)
    unfold Paused
    refine CID.mono ?_
    rintro e w6 ⟨rfl, hb6⟩
    have HB6 := Lib.hid (below_next HBK.out hb6)
    have HK6 := Lib.hid (below_next HK.out hb6)
    clear hb6 CID hcell
    go_wp2_with (with_reducible (show wpList _ _ _ (Oper.mk _ (Op.store 37 _ _) _ _ _ _ :: _) _ _); refine pause ?_)
    unfold Paused
    change wpList _ _ _ _ _ (w6.alloc (.cells (u8s (List.replicate 32 0)) 37))
    refine wpList_store_row (by rfl) 37 (.tmp 13) (.tmp 53) (by rfl) w6.heap.size (u8s sm) (by rfl) (by rfl) 37 (u8s (List.replicate 32 0)) (Blk.new w6 _ _) (by rw [u8s_size, HIS.out.1]; kernel_rfl) (by rw [u8s_size, u8s_size, HIS.out.1]; rfl) (u8s_one _) ?_
    have b7 : Below w6.heap.size w6 ((w6.alloc (.cells (u8s (List.replicate 32 0)) 37)).setRow w6.heap.size (u8s sm)) := below_row ((Below.refl _ _).alloc (Nat.le_refl _) _) (Nat.le_refl _) _
    have HI7 : Hid (Blk ((w6.alloc (.cells (u8s (List.replicate 32 0)) 37)).setRow w6.heap.size (u8s sm)) w6.heap.size 37 (u8s sm)) := Lib.hid ((Blk.new w6 _ _).row _)
    have HK7 := Lib.hid (below_next HK6.out b7)
    clear b7
    generalize (w6.alloc (.cells (u8s (List.replicate 32 0)) 37)).setRow w6.heap.size (u8s sm) = w7 at HI7 HK7 ⊢
    generalize w6.heap.size = g7 at HI7 ⊢
    simp only [Act.put]
    have HEQ : Hid ((decide (sm ∈ r4) == decide (sm ∈ r5)) = false) := Lib.hid (by
      have h1 := HM4.out sm HIS.out
      have h2 := HM5.out sm HIS.out
      have h3 := the_mem HP.out
      rw [← HSM.out] at h3
      by_cases hr : Cl.Rch (its.map (·.text)) [x] sm
      · rw [decide_eq_true (h1.2 ⟨hr, h3⟩), decide_eq_false (fun h => (h2.1 h).2 hr)]; rfl
      · rw [decide_eq_false (fun h => hr (h1.1 h).1), decide_eq_true (h2.2 ⟨h3, hr⟩)]; rfl)
    have CA := fun (w' : World) (hb : Below w7.heap.size w7 w') => lin_any r4 sm v4 w' (rdo_go HV45.out (below_next HK7.out hb) (Nat.le_refl _)) HI4.out HIS.out (by have := HF4.out; omega)
    have CB := fun (w' : World) (hb : Below w7.heap.size w7 w') => lin_any r5 sm v5 w' (rdo_go HV5.out (below_next HK7.out hb) (Nat.le_refl _)) HI5.out HIS.out (by have := HF5.out; omega)
    obtain ⟨d4, hd4⟩ : ∃ d, d = decide (sm ∈ r4) := ⟨_, rfl⟩
    obtain ⟨d5, hd5⟩ : ∃ d, d = decide (sm ∈ r5) := ⟨_, rfl⟩
    rw [← hd4] at CA
    rw [← hd5] at CB
    rw [← hd4, ← hd5] at HEQ
    clear hd4 hd5
    go_wp2
    refine wp_region_held (S := (fun w' => Below w7.heap.size w7 w')) (by kernel_rfl) ?_
    change wpAnyH _ _ _ _ _ _ _ _ w7.drew
    have HS0 := Lib.hid (below_drewN (Below.refl w7.heap.size w7) 1)
    refine wpAnyH_take (i := 0) (v := ?_) rfl (by kernel_rfl) (by kernel_rfl) (by kernel_rfl) (fun _ _ _ h => h) (Or.inl ⟨by rfl, ?_⟩) (HS0.out) ?_
    rotate_left
    · intro w' hw; go_simp; with_reducible rfl
    try simp only [Act.put, List.getElem_toArray, List.getElem_cons_zero, List.setIfInBounds_toArray, List.set_cons_zero, List.set_cons_succ]
    refine wpAnyH_take (i := 1) rfl (by kernel_rfl) (by kernel_rfl) (by kernel_rfl) (fun _ _ _ h => h) (takes_row 37 (.tmp 13) rfl (by rfl) g7 rfl 37 (u8s sm) _ (fun w' h => HI7.out.below h HI7.out.lt) Tryd.underlying37 rfl (by rw [u8s_size, HIS.out.1]; kernel_rfl)) (HS0.out) ?_
    try simp only [Act.put, List.getElem_toArray, List.getElem_cons_zero, List.getElem_cons_succ, List.setIfInBounds_toArray, List.set_cons_zero, List.set_cons_succ]
    refine wpAnyH_take (i := 3) (v := ?_) rfl (by kernel_rfl) (by kernel_rfl) (by kernel_rfl) (fun _ _ _ h => h) (Or.inl ⟨by rfl, ?_⟩) (HS0.out) ?_
    rotate_left
    · intro w' hw; go_simp; with_reducible rfl
    try simp only [Act.put, List.getElem_toArray, List.getElem_cons_zero, List.getElem_cons_succ, List.setIfInBounds_toArray, List.set_cons_zero, List.set_cons_succ]
    refine wpAnyH_take (i := 4) rfl (by kernel_rfl) (by kernel_rfl) (by kernel_rfl) (fun _ _ _ h => h) (takes_row 37 (.tmp 13) rfl (by rfl) g7 rfl 37 (u8s sm) _ (fun w' h => HI7.out.below h HI7.out.lt) Tryd.underlying37 rfl (by rw [u8s_size, HIS.out.1]; kernel_rfl)) (HS0.out) ?_
    try simp only [Act.put, List.getElem_toArray, List.getElem_cons_zero, List.getElem_cons_succ, List.setIfInBounds_toArray, List.set_cons_zero, List.set_cons_succ]
    refine all_one (i := 2) (by kernel_rfl) rfl (by rfl) (fun K hK => ?_)
    go_simp
    refine (CA _ HS0.out).mono ?_
    rintro e w8 ⟨rfl, hb8⟩
    have HS1 := Lib.hid (below_next HS0.out hb8)
    dsimp only
    refine hK _ _ HS1.out ?_; clear hK K hb8
    try simp only [Act.put, List.getElem_toArray, List.getElem_cons_zero, List.getElem_cons_succ, List.setIfInBounds_toArray, List.set_cons_zero, List.set_cons_succ]
    refine all_one (i := 5) (by kernel_rfl) rfl (by rfl) (fun K hK => ?_)
    go_simp
    refine (CB _ HS1.out).mono ?_
    rintro e w9 ⟨rfl, hb9⟩
    have HS2 := Lib.hid (below_next HS1.out hb9)
    dsimp only
    refine hK _ _ HS2.out ?_; clear hK K hb9
    try simp only [Act.put, List.getElem_toArray, List.getElem_cons_zero, List.getElem_cons_succ, List.setIfInBounds_toArray, List.set_cons_zero, List.set_cons_succ]
    refine wpAnyH_take (i := 6) (v := ?_) rfl (by kernel_rfl) (by kernel_rfl) (by kernel_rfl) (fun _ _ _ h => h) (Or.inl ⟨by rfl, ?_⟩) (HS2.out) ?_
    rotate_left
    · intro w' hw; go_simp; with_reducible rfl
    try simp only [Act.put, List.getElem_toArray, List.getElem_cons_zero, List.getElem_cons_succ, List.setIfInBounds_toArray, List.set_cons_zero, List.set_cons_succ]
    refine wpAnyH_done (by kernel_rfl) ?_ _
    have HKN := Lib.hid (below_next HK7.out HS2.out)
    have heq := HEQ.out
    clear CA CB
    cases d4 <;> cases d5 <;> first
      | exact absurd heq (by decide)
      | (clear heq
         go_wp2
         exact ⟨⟨k + 1, HLT.out, by simp, HKN⟩, by have := HLT.out; simp [intOf]; omega⟩)
end Go.Proofs.YtlodalppnglclaaDoor
