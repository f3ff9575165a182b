/- The law ClosureMore. -/
import Derived.Test.YtlodalppnglclaaDoorMCl26x
import Derived.Deep.CutRange
import Derived.Deep.CutBlock
namespace Go.Proofs.YtlodalppnglclaaDoor
open Go Go.RowKit
theorem set_same2 {r s : List (List Nat)} {Q : List Nat → Prop} (hr : Sha.Rising r) (hs : Sha.Rising s) (ir : ∀ x ∈ r, Id32 x) (is : ∀ x ∈ s, Id32 x) (mr : ∀ x, Id32 x → (x ∈ r ↔ Q x)) (ms : ∀ x, Id32 x → (x ∈ s ↔ Q x)) : r = s :=
  Cl.rising_ext hr hs fun x => ⟨fun h => (ms x (ir x h)).2 ((mr x (ir x h)).1 h), fun h => (mr x (is x h)).2 ((ms x (is x h)).1 h)⟩
theorem bts_info26 : (Tryd.prog.info? 40).map (fun i => (i.zero, i.size, i.bytes)) = some (some (.slice none 0 0), 1, 24) := by kernel_rfl
theorem set_few3 {objs r : List (List Nat)} (hr : Sha.Rising r) (hi : ∀ x ∈ r, Id32 x) (hm : ∀ x, Id32 x → x ∈ r → Cl.the objs x = true) : r.length ≤ objs.length := by
  have h3 := Cl.nodup_le (M := objs.map Sha.sum) (Cl.rising_nodup hr) (fun x hx => by
    have h4 := hm x (hi x hx) hx
    unfold Cl.the at h4
    exact Cl.stk_iff.1 h4)
  rw [List.length_map] at h3
  exact h3
theorem fill_pair (n : Nat) (zc : Array Value) (xs ys : List Value) (hx : xs.length = n) (hy : ys.length = n) : Instr.fill (fun i => some (i * n, n)) ((Array.range (2 * n)).map (zc[· % zc.size]!)) [(0, .agg xs.toArray), (1, .agg ys.toArray)] = some (xs ++ ys).toArray := by
  obtain ⟨old, ho⟩ : ∃ old : List Value, (Array.range (2 * n)).map (zc[· % zc.size]!) = old.toArray := ⟨_, (Array.toArray_toList ..).symm⟩
  have hl : old.length = 2 * n := by
    have := congrArg Array.size ho
    simpa using this.symm
  rw [ho]
  have e : old = [] ++ old.take n ++ old.drop n := by simp
  have h := fill_part (fun i => some (i * n, n)) 0 0 n (.agg xs.toArray) [(1, .agg ys.toArray)] xs (old.take n) [] (old.drop n) (by simp) rfl hx (by rw [List.length_take]; omega) rfl
  have h2 := fill_part (fun i => some (i * n, n)) 1 n n (.agg ys.toArray) [] ys (old.drop n) xs [] (by simp) rfl hy (by rw [List.length_drop]; omega) hx
  rw [List.append_nil, List.append_nil] at h2
  rw [← e] at h
  rw [List.nil_append] at h
  rw [h, h2]
  rfl
theorem takes_mid {P : Program} {ops : Array Oper} {S : World → Prop} {o : Oper} {a : Act} (ty : TypeId) (x : Operand) (ho : o.op = .load ty x) (hw : Region.wanted o (yielded ops a.tmps) = true)
    (b off : Nat) (hx : a.eval x = .pointer (some ⟨b, off, none⟩)) (cs : List Value) (d : TypeDesc) (hg : ∀ w, S w → w.rangeAt b off cs)
    (hu : P.underlying ty = some d) (hd : d.isRow = true) (hi : (P.info? ty).map (·.size) = some cs.length) : YieldsIf P ops S o (.agg cs.toArray) a :=
  Or.inl ⟨hw, fun w h => by
    unfold execOp
    simp only [ho, hx, Instr.loadAt, Instr.sureAddr, Sem.run_bind, Sem.run_pure, Result.andThen_ok, run_loadVar_mid w b off ty cs d (hg w h) hu hd hi]⟩
set_option maxRecDepth 100000 in
set_option maxHeartbeats 8000000 in
theorem cmore_law (A : Option Addr) (n c : Nat) (ls : List Cl.Lk) (z1 z2 : Int) (a : Nat → Addr) (w : World) (hT : LkT w A n ls) (ht : Tabs w) (hS : CSents w a) :
    Calls Tryd.prog 4 #[.slice A n c, .int .i64 z1, .int .i64 z2] w fun e w' => e = .returned (.bool true) ∧ Below w.heap.size w w' := by
  have AL := cl_alive_any a w ht hS
  have HT := Lib.hid hT
  have HTB := Lib.hid ht
  have HS := Lib.hid hS
  clear hT ht hS
  go_enter Tryd.func4, Tryd.ntmps4
  go_wp2_with (go_at_call 6; refine pause ?_)
  unfold Paused
  refine AL.mono ?_
  rintro e w1 ⟨rfl, hb1⟩
  have H1 := Lib.hid hb1
  have CR := lrow_any A n c ls a w1 (HT.out.below hb1) (HTB.out.below hb1 (Nat.le_refl _)) (HS.out.at_ hb1).p.2.1
  unfold RowPost at CR
  clear hb1 AL
  go_wp2_with (go_at_call 16; refine pause ?_)
  unfold Paused
  refine CR.mono ?_
  rintro e w2 ⟨vo, va, hb2, hq⟩
  have H2 := Lib.hid (below_next H1.out hb2)
  rcases hq with rfl | ⟨rfl, its, hrs, hl20⟩
  · clear hb2 CR
    go_wp2
    go_ret
    exact ⟨rfl, H2.out⟩
  obtain ⟨m, hm⟩ : ∃ m, m = its.length := ⟨_, rfl⟩
  obtain ⟨Ao, co, hvo⟩ := own_slice hrs.oo
  obtain ⟨Aa, ca, hva⟩ := own_slice hrs.oa
  rw [List.length_map] at hva
  rw [← hm] at hvo hva
  subst hvo hva
  have HRS := Lib.hid hrs
  have HL := Lib.hid hl20
  have HM := Lib.hid hm
  have HID2 : Hid (RdK w2 (.slice Aa m ca) m (cellsP (its.map fun p => Sha.sum p.text))) := Lib.hid (by have h1 := rowst_ids hrs; rwa [← hm] at h1)
  have HM20 : Hid (m ≤ 20) := Lib.hid (by omega)
  clear hrs hl20 hm hb2 CR
  by_cases hm0 : m = 0
  · have g0 : ((m : Int) == 0) = true := by simp [hm0]
    clear hm0
    go_wp2
    go_ret
    exact ⟨rfl, H2.out⟩
  have g0 : ((m : Int) == 0) = false := by simp [hm0]
  have HM0 : Hid (0 < m) := Lib.hid (by omega)
  have m0 : (0 : Int) < (m : Int) := by omega
  have m1 : m ≠ 0 := hm0
  have m2 : (m : Int) ≤ 20 := by have := HM20.out; omega
  clear hm0
  obtain ⟨ba, oa, x0, hAa, _, _⟩ := ids_at HID2.out HM.out HM0.out
  subst hAa
  go_upto_region 6 with fail
  go_cut [10, 11] from 35 to 54 (fun p q wx => ∃ gx gy x y, p = .pointer (some ⟨gx, 0, none⟩) ∧ q = .pointer (some ⟨gy, 0, none⟩) ∧ Hid (Below w2.heap.size w2 wx ∧ Blk wx gx 37 (u8s x) ∧ Blk wx gy 37 (u8s y) ∧ x ∈ its.map (fun p : Cl.T => Sha.sum p.text) ∧ y ∈ its.map (fun p : Cl.T => Sha.sum p.text)))
  case rest =>
    obtain ⟨gx, gy, x, y, hp10, hq11, HW⟩ := hcut
    subst hp10 hq11
    have H3 := Lib.hid (below_next H2.out HW.out.1)
    have HR3 := Lib.hid (HRS.out.below HW.out.1)
    have HX3 := Lib.hid HW.out.2.1
    have HY3 := Lib.hid HW.out.2.2.1
    have HXM := Lib.hid HW.out.2.2.2.1
    have HYM := Lib.hid HW.out.2.2.2.2
    have HXI := Lib.hid (ids_id32 its x HXM.out)
    have HYI := Lib.hid (ids_id32 its y HYM.out)
    have HTB3 := Lib.hid (HTB.out.below H3.out (Nat.le_refl _))
    have HS3 := Lib.hid (HS.out.at_ H3.out)
    clear HW HRS HID2
    obtain ⟨ip, hip, hpz, hps, hpb⟩ := info_parts oid_info25
    go_wp2_with (with_reducible (show wpList _ _ _ (Oper.mk _ (Op.load 37 _) _ _ _ _ :: _) _ _); refine pause ?_)
    unfold Paused
    refine wpList_row_w (by rfl) 37 (.tmp 10) (by rfl) gx (by rfl) 37 (u8s x) _ HX3.out Tryd.underlying37 (by rfl) (by rw [u8s_size, HXI.out.1]; kernel_rfl) ?_
    go_wp2_with (with_reducible (show wpList _ _ _ (Oper.mk _ (Op.buildSlice _ _ _) _ _ _ _ :: _) _ _); refine pause ?_)
    unfold Paused
    refine wpList_buildSliceK (by rfl) 23 37 1 _ (by rfl) (cellsB x).toArray ip (.agg (cellsB (List.replicate 32 0)).toArray) Tryd.underlying23 hip hpz (by rw [hps]; decide) (by rw [hps]; decide) _ (by kernel_rfl) (by rw [hps]; exact fill_one 32 (Value.agg (cellsB (List.replicate 32 0)).toArray).cells _ (cellsP1_len HXI.out) (by rfl)) ?_
    have b4 : Below wc.heap.size wc (wc.alloc (.cells (cellsB x).toArray 37)) := (Below.refl _ _).alloc (Nat.le_refl _) _
    have HL4 := Lib.hid (Blk.new wc 37 (cellsB x).toArray)
    have H4 := Lib.hid (below_next H3.out b4)
    have HR4 := Lib.hid (HR3.out.below b4)
    have HX4 := Lib.hid (HX3.out.below b4 HX3.out.lt)
    have HY4 := Lib.hid (HY3.out.below b4 HY3.out.lt)
    clear b4 HX3 HY3 HR3 H3
    generalize wc.alloc (.cells (cellsB x).toArray 37) = w4 at HL4 H4 HR4 HX4 HY4 ⊢
    generalize wc.heap.size = g4 at HL4 ⊢
    simp only [Act.put]
    have HTB4 := Lib.hid (HTB.out.below H4.out (Nat.le_refl _))
    have HS4 := Lib.hid (HS.out.at_ H4.out)
    have HIN := Lib.hid (rowst_in (A2 := some ⟨g4, 0, none⟩) (n2 := 1) (c2 := 1) (roots := [x]) HR4.out HL.out HTB4.out HS4.out ⟨_, 1, rfl, Nat.le_refl _, fun _ => ⟨g4, 0, rfl, HL4.out.lt, fun j u hj => by
      rw [Nat.zero_add]
      exact (HL4.out.cell j).trans (by simpa [cellsP] using hj)⟩⟩ rfl (fun y hy => by rw [List.mem_singleton.1 hy]; exact HXI.out) (by simp))
    have HBY := Lib.hid HIN.out.byt
    have HOL : Hid ((its.map (·.text)).length ≤ 20) := Lib.hid (by rw [List.length_map]; exact HL.out)
    have C5 := reached_any HIN.out w4 (Below.refl _ _)
    unfold SetPost at C5
    go_wp2_with (go_at_call 11; refine pause ?_)
    unfold Paused
    refine C5.mono ?_
    rintro e w5 ⟨v5, r5, rfl, hv5, hi5, hr5, hm5, hb5⟩
    have HF5 := Lib.hid (set_few hr5 hi5 (fun y hy h => ((hm5 y hy).1 h).1) HBY.out (by simp) HOL.out)
    have HI5 := Lib.hid hi5
    have HM5 := Lib.hid hm5
    have HS5 := Lib.hid hr5
    have HV5 := Lib.hid hv5
    have HB5 := Lib.hid hb5
    clear C5 hv5 hi5 hr5 hm5 hb5
    go_wp2_with (with_reducible (show wpList _ _ _ (Oper.mk _ (Op.load 37 _) _ _ _ _ :: _) _ _); refine pause ?_)
    unfold Paused
    have HX5 := Lib.hid (HX4.out.below HB5.out HX4.out.lt)
    have HY5 := Lib.hid (HY4.out.below HB5.out HY4.out.lt)
    have HR5 := Lib.hid (HR4.out.below HB5.out)
    have H5 := Lib.hid (below_next H4.out HB5.out)
    clear HX4 HY4 HR4
    refine wpList_row_w (by rfl) 37 (.tmp 10) (by rfl) gx (by rfl) 37 (u8s x) _ HX5.out Tryd.underlying37 (by rfl) (by rw [u8s_size, HXI.out.1]; kernel_rfl) ?_
    go_wp2_with (with_reducible (show wpList _ _ _ (Oper.mk _ (Op.load 37 _) _ _ _ _ :: _) _ _); refine pause ?_)
    unfold Paused
    refine wpList_row_w (by rfl) 37 (.tmp 11) (by rfl) gy (by rfl) 37 (u8s y) _ HY5.out Tryd.underlying37 (by rfl) (by rw [u8s_size, HYI.out.1]; kernel_rfl) ?_
    go_wp2_with (with_reducible (show wpList _ _ _ (Oper.mk _ (Op.buildSlice _ _ _) _ _ _ _ :: _) _ _); refine pause ?_)
    unfold Paused
    refine wpList_buildSliceK (by rfl) 23 37 2 _ (by rfl) (cellsB x ++ cellsB y).toArray ip (.agg (cellsB (List.replicate 32 0)).toArray) Tryd.underlying23 hip hpz (by rw [hps]; decide) (by rw [hps]; decide) [(0, .agg (cellsB x).toArray), (1, .agg (cellsB y).toArray)] (vals_two _ _ _ _ _ _ _ (by rfl) (by rfl)) (by rw [hps]; exact fill_pair 32 (Value.agg (cellsB (List.replicate 32 0)).toArray).cells _ _ (cellsP1_len HXI.out) (cellsP1_len HYI.out)) ?_
    have b6 : Below w5.heap.size w5 (w5.alloc (.cells (cellsB x ++ cellsB y).toArray 37)) := (Below.refl _ _).alloc (Nat.le_refl _) _
    have HL6 := Lib.hid (Blk.new w5 37 (cellsB x ++ cellsB y).toArray)
    have H6 := Lib.hid (below_next H5.out b6)
    have HR6 := Lib.hid (HR5.out.below b6)
    have HX6 := Lib.hid (HX5.out.below b6 HX5.out.lt)
    have HY6 := Lib.hid (HY5.out.below b6 HY5.out.lt)
    have HV6 := Lib.hid (rdo_go HV5.out b6 (Nat.le_refl _))
    clear b6 HX5 HY5 HR5 H5 hip hpz hps hpb HV5
    generalize w5.alloc (.cells (cellsB x ++ cellsB y).toArray 37) = w6 at HL6 H6 HR6 HX6 HY6 HV6 ⊢
    generalize w5.heap.size = g6 at HL6 ⊢
    simp only [Act.put]
    have HIN2 := Lib.hid (rowst_in (a := a) (A2 := some ⟨g6, 0, none⟩) (n2 := 2) (c2 := 2) (roots := [x, y]) HR6.out HL.out (HTB.out.below H6.out (Nat.le_refl _)) (HS.out.at_ H6.out) ⟨_, 2, rfl, Nat.le_refl _, fun _ => ⟨g6, 0, rfl, HL6.out.lt, fun j u hj => by
      rw [Nat.zero_add]
      exact (HL6.out.cell j).trans (by simpa [cellsP] using hj)⟩⟩ rfl (fun z hz => by
        rcases List.mem_cons.1 hz with rfl | hz
        · exact HXI.out
        · rw [List.mem_singleton.1 hz]; exact HYI.out) (by simp))
    have C7 := reached_any HIN2.out w6 (Below.refl _ _)
    unfold SetPost at C7
    go_wp2_with (go_at_call 11; refine pause ?_)
    unfold Paused
    refine C7.mono ?_
    rintro e w7 ⟨v7, r7, rfl, hv7, hi7, hr7, hm7, hb7⟩
    have HF7 := Lib.hid (set_few hr7 hi7 (fun y hy h => ((hm7 y hy).1 h).1) HBY.out (by simp) HOL.out)
    have HI7 := Lib.hid hi7
    have HSUB : Hid (∀ z ∈ r5, z ∈ r7) := Lib.hid (fun z hz => (hm7 z (HI5.out z hz)).2 (by
      obtain ⟨h1, h2⟩ := (HM5.out z (HI5.out z hz)).1 hz
      exact ⟨Cl.rch_roots h1 (fun q hq => Cl.Rch.root (by rw [List.mem_singleton.1 hq]; simp)), h2⟩))
    have HV7 := Lib.hid hv7
    have HV57 := Lib.hid (rdo_go HV6.out hb7 (Nat.le_refl _))
    have HX7 := Lib.hid (HX6.out.below hb7 HX6.out.lt)
    have HY7 := Lib.hid (HY6.out.below hb7 HY6.out.lt)
    have HR7 := Lib.hid (HR6.out.below hb7)
    have H7 := Lib.hid (below_next H6.out hb7)
    have HF5b := Lib.hid (set_few3 HS5.out HI5.out (fun y hy h => ((HM5.out y hy).1 h).2))
    obtain ⟨A5, c5, hv5⟩ := len_rdo HV57.out
    subst hv5
    obtain ⟨n5, hn5⟩ : ∃ n, n = r5.length := ⟨_, rfl⟩
    have HN5 := Lib.hid hn5
    rw [← hn5] at HV57 HF5b ⊢
    clear C7 hv7 hi7 hr7 hm7 hb7 HV6 HX6 HY6 HR6 hn5
    go_wp2
    go_loopw [66] (fun i wr => ∃ k : Nat, k ≤ n5 ∧ i = .int .i64 k ∧ Hid (Below w7.heap.size w7 wr)) (fun i _ => n5 - (intOf i).toNat)
    case atStart => exact ⟨0, Nat.zero_le _, rfl, Lib.hid (Below.refl _ _)⟩
    case round =>
      obtain ⟨k, hk, rfl, HK⟩ := hrel
      rcases Nat.lt_or_ge k n5 with hlt | hlt
      · obtain ⟨A', c', hv', _, hA'⟩ := HV57.out
        injection hv' with e1 e2 e3
        clear e2 e3
        obtain ⟨b5, o5, ha5, hl5, hx5⟩ := hA' (by rw [← HN5.out]; omega)
        have hA5 : A5 = some ⟨b5, o5, none⟩ := e1.trans ha5
        obtain ⟨z, hz⟩ : ∃ z, z = r5.getD k [] := ⟨_, rfl⟩
        have hzm : z ∈ r5 := by rw [hz, List.getD_eq_getElem?_getD, List.getElem?_eq_getElem (by rw [← HN5.out]; exact hlt)]; exact List.getElem_mem _
        have HZI := Lib.hid (HI5.out z hzm)
        have HZ7 := Lib.hid (HSUB.out z hzm)
        have HRG : Hid (wr.rangeAt b5 (o5 + k * 32) (cellsB z)) := Lib.hid (fun j u hu => (HK.out.cell (p := ⟨b5, _, none⟩) hl5).trans (by
          rw [Nat.mul_comm k 32]
          exact hx5 k (by rw [← HN5.out]; exact hlt) j u (by rw [← hz]; exact hu)))
        rw [hA5]
        have HA5 := Lib.hid hA5
        have i1 : ((k : Nat) : Int) < n5 := by omega
        have i2 : (0 : Int) ≤ ((k : Nat) : Int) := by omega
        have i3 : ((n5 : Nat) : Int) ≤ 20 := by have := HF5b.out; have := HOL.out; omega
        have HLT := Lib.hid hlt
        clear e1 ha5 hl5 hx5 hA' hA5 hz hzm hk hlt
        go_wp2_with (with_reducible (show wpList _ _ _ (Oper.mk _ (Op.load 37 _) _ _ _ _ :: _) _ _); refine pause ?_)
        unfold Paused
        refine wpList_mid_w (by rfl) 37 (.tmp 68) (by rfl) b5 (o5 + k * 32) (by rfl) (cellsB z) _ HRG.out Tryd.underlying37 (by rfl) (by rw [cellsP1_len HZI.out]; kernel_rfl) ?_
        go_wp2_with (with_reducible (show wpList _ _ _ (Oper.mk _ (Op.store 37 _ _) _ _ _ _ :: _) _ _); refine pause ?_)
        unfold Paused
        change wpList _ _ _ _ _ (wr.alloc (.cells (u8s (List.replicate 32 0)) 37))
        refine wpList_store_row (by rfl) 37 (.tmp 15) (.tmp 69) (by rfl) wr.heap.size (u8s z) (by rfl) (by rfl) 37 (u8s (List.replicate 32 0)) (Blk.new wr _ _) (by rw [u8s_size, HZI.out.1]; kernel_rfl) (by rw [u8s_size, u8s_size, HZI.out.1]; rfl) (u8s_one _) ?_
        have b8 : Below wr.heap.size wr ((wr.alloc (.cells (u8s (List.replicate 32 0)) 37)).setRow wr.heap.size (u8s z)) := below_row ((Below.refl _ _).alloc (Nat.le_refl _) _) (Nat.le_refl _) _
        have HB8 : Hid (Blk ((wr.alloc (.cells (u8s (List.replicate 32 0)) 37)).setRow wr.heap.size (u8s z)) wr.heap.size 37 (u8s z)) := Lib.hid ((Blk.new wr _ _).row _)
        have HK8 := Lib.hid (below_next HK.out b8)
        clear b8 HRG
        generalize (wr.alloc (.cells (u8s (List.replicate 32 0)) 37)).setRow wr.heap.size (u8s z) = w8 at HB8 HK8 ⊢
        generalize wr.heap.size = g8 at HB8 ⊢
        simp only [Act.put]
        have CI := lin_any r7 z v7 w8 (rdo_go HV7.out HK8.out (Nat.le_refl _)) HI7.out HZI.out (by have := HF7.out; omega)
        rw [decide_eq_true HZ7.out] at CI
        go_wp2_with (with_reducible (show wpList _ _ _ (Oper.mk _ (Op.load 37 _) _ _ _ _ :: _) _ _); refine pause ?_)
        unfold Paused
        refine wpList_row_w (by rfl) 37 (.tmp 15) (by rfl) g8 (by rfl) 37 (u8s z) _ HB8.out Tryd.underlying37 (by rfl) (by rw [u8s_size, HZI.out.1]; kernel_rfl) ?_
        go_wp2_with (go_at_call 17; refine pause ?_)
        unfold Paused
        refine CI.mono ?_
        rintro e w9 ⟨rfl, hb9⟩
        have HK9 := Lib.hid (below_next HK8.out hb9)
        clear CI hb9
        go_wp2
        go_roundw
        case rel => exact ⟨k + 1, HLT.out, by go_num, HK9⟩
        case measure => have := HLT.out; simp [intOf]; omega
      · obtain rfl : k = n5 := by omega
        have ik : ¬ ((k : Nat) : Int) < k := by omega
        clear hk hlt
        have HB9 := Lib.hid HK.out
        have HRr := Lib.hid (HR7.out.below HK.out)
        have Hr := Lib.hid (below_next H7.out HK.out)
        have HV5r := Lib.hid (rdo_go HV57.out HK.out (Nat.le_refl _))
        have HXr := Lib.hid (HX7.out.below HK.out HX7.out.lt)
        have HYr := Lib.hid (HY7.out.below HK.out HY7.out.lt)
        have HIN3 := Lib.hid (rowst_in (a := a) (A2 := A5) (n2 := k) (c2 := c5) (roots := r5) HRr.out HL.out (HTB.out.below Hr.out (Nat.le_refl _)) (HS.out.at_ Hr.out) (by have h1 := rdk_rdo HV5r.out HI5.out; rwa [← HN5.out] at h1) HN5.out HI5.out (by have := HF5b.out; have := HOL.out; have := HN5.out; omega))
        have C9 := reached_any HIN3.out wr (Below.refl _ _)
        unfold SetPost at C9
        go_wp2_with (go_at_call 11; refine pause ?_)
        unfold Paused
        refine C9.mono ?_
        rintro e w9 ⟨v9, r9, rfl, hv9, hi9, hr9, hm9, hb9⟩
        have he : r9 = r5 := set_same2 hr9 HS5.out hi9 HI5.out hm9 (fun q hq => by
          rw [HM5.out q hq]
          constructor
          · rintro ⟨h1, h2⟩
            exact ⟨Cl.Rch.root ((HM5.out q hq).2 ⟨h1, h2⟩), h2⟩
          · rintro ⟨h1, h2⟩
            exact ⟨Cl.rch_roots h1 (fun s hs => ((HM5.out s (HI5.out s hs)).1 hs).1), h2⟩)
        subst he
        obtain ⟨A9, c9, hv9f⟩ := len_rdo hv9
        subst hv9f
        rw [← HN5.out]
        have b0 : ((k : Int) != (k : Int)) = false := by simp
        have HR9 := Lib.hid (HRr.out.below hb9)
        have H9 := Lib.hid (below_next Hr.out hb9)
        have HV59 := Lib.hid (rdo_go HV5r.out hb9 (Nat.le_refl _))
        have HX9 := Lib.hid (HXr.out.below hb9 HXr.out.lt)
        have HY9 := Lib.hid (HYr.out.below hb9 HYr.out.lt)
        clear C9 hv9 hi9 hr9 hm9 hb9 HRr Hr HV5r HXr HYr HV57 HX7 HY7 HR7 H7
        go_wp2
        have HO0 : Hid ((w9.alloc (.cells #[] 40)).ownsRow w9.heap.size 40 1 (.slice (some ⟨w9.heap.size, 0, none⟩) 0 0) 0 []) := Lib.hid (own_new (Nat.le_refl _))
        have HB0 : Hid (Below w9.heap.size w9 (w9.alloc (.cells #[] 40))) := Lib.hid ((Below.refl _ _).alloc (Nat.le_refl _) _)
        change Code.wp _ _ _ _ (w9.alloc (.cells #[] 40))
        generalize w9.alloc (.cells #[] 40) = w10 at HO0 HB0 ⊢
        clear b0
        go_loopw [17, 86] (fun v i wr => ∃ (k2 : Nat) (ls : List Cl.T), k2 ≤ m ∧ i = .int .i64 k2 ∧ Hid (wr.ownsRow w9.heap.size 40 1 v ls.length (ls.map (·.val))) ∧ Hid (Below w9.heap.size w9 wr) ∧ Hid (ls = (its.take k2).filter (fun p => !decide (Sha.sum p.text = y)))) (fun _ i _ => m - (intOf i).toNat)
        case atStart => exact ⟨0, [], Nat.zero_le _, rfl, HO0, HB0, Lib.hid rfl⟩
        case round =>
          obtain ⟨k2, ls, hk2, rfl, HO, HBK, HLS⟩ := hrel
          obtain ⟨Al, cl, hvl⟩ := own_slice HO.out
          subst hvl
          obtain ⟨nl, hnl⟩ : ∃ q, q = ls.length := ⟨_, rfl⟩
          have HNL := Lib.hid hnl
          rw [← hnl] at HO ⊢
          clear hnl
          rcases Nat.lt_or_ge k2 m with hlt | hlt
          rotate_left
          · obtain rfl : k2 = m := by omega
            have ik : ¬ ((k2 : Nat) : Int) < k2 := by omega
            clear hk2 hlt
            have HLF : Hid (ls = its.filter (fun p => !decide (Sha.sum p.text = y))) := Lib.hid (by
              have h1 := HLS.out
              rw [HM.out, List.take_length] at h1
              exact h1)
            have HSUBL : Hid (∀ p ∈ ls, p ∈ its) := Lib.hid (fun p hp => by
              rw [HLF.out] at hp
              exact (List.mem_filter.1 hp).1)
            have HLT3 : Hid (ls.map (·.text) = Cl.less (its.map (·.text)) y) := Lib.hid (by
              rw [HLF.out]
              unfold Cl.less
              rw [List.filter_map]
              rfl)
            have HLLE : Hid (ls.length ≤ 20) := Lib.hid (by
              have h2 := List.length_filter_le (fun p : Cl.T => !decide (Sha.sum p.text = y)) its
              rw [← HLF.out] at h2
              have := HL.out
              omega)
            have HCL := Lib.hid (fun (w' : World) (hb : Below wr.heap.size wr w') => (show ClT w' (.slice Al nl cl) ls from by
              obtain ⟨A', c', hv', hc', hA'⟩ := rdk_own HO.out
              refine ⟨(show RdV wr (.slice Al nl cl) (ls.map (·.val)) from ⟨A', c', by rw [List.length_map, ← HNL.out]; exact hv', by rw [List.length_map, ← HNL.out]; exact hc', fun h0 => ?_⟩).below hb, fun p hp => ⟨(rd_own (HR9.out.tx p (HSUBL.out p hp)).1).below (below_next HBK.out hb) (Nat.le_refl _), (HR9.out.tx p (HSUBL.out p hp)).2.1⟩⟩
              obtain ⟨b', o', ha', hb', hx'⟩ := hA' (by rw [List.length_map, ← HNL.out] at h0; exact h0)
              exact ⟨b', o', ha', hb', fun i u hu => hx' i u hu⟩))
            have HHr := Lib.hid (below_next H9.out HBK.out)
            have HXr := Lib.hid (HX9.out.below HBK.out HX9.out.lt)
            have HYr := Lib.hid (HY9.out.below HBK.out HY9.out.lt)
            have HV5r := Lib.hid (rdo_go HV59.out HBK.out (Nat.le_refl _))
            obtain ⟨ip, hip, hpz, hps, hpb⟩ := info_parts oid_info25
            go_wp2
            refine wp_region_held (S := (fun w' => Below wr.heap.size wr w')) (by kernel_rfl) ?_
            change wpAnyH _ _ _ _ _ _ _ _ wr.drew
            have HS0 := Lib.hid (below_drewN (Below.refl wr.heap.size wr) 1)
            refine wpAnyH_take (i := 0) (v := ?_) rfl (by kernel_rfl) (by kernel_rfl) (by kernel_rfl) (fun _ _ _ h => h) (Or.inl ⟨by rfl, ?_⟩) (HS0.out) ?_
            rotate_left
            · intro w' hw; go_simp; with_reducible rfl
            try simp only [Act.put, List.getElem_toArray, List.getElem_cons_zero, List.setIfInBounds_toArray, List.set_cons_zero, List.set_cons_succ]
            refine wpAnyH_take (i := 1) rfl (by kernel_rfl) (by kernel_rfl) (by kernel_rfl) (fun _ _ _ h => h) (takes_row 37 (.tmp 10) rfl (by rfl) gx rfl 37 (u8s x) _ (fun w' h => HXr.out.below h HXr.out.lt) Tryd.underlying37 rfl (by rw [u8s_size, HXI.out.1]; kernel_rfl)) (HS0.out) ?_
            try simp only [Act.put, List.getElem_toArray, List.getElem_cons_zero, List.getElem_cons_succ, List.setIfInBounds_toArray, List.set_cons_zero, List.set_cons_succ]
            refine wpAnyH_take (i := 4) rfl (by kernel_rfl) (by kernel_rfl) (by kernel_rfl) (fun _ _ _ h => h) (takes_row 37 (.tmp 11) rfl (by rfl) gy rfl 37 (u8s y) _ (fun w' h => HYr.out.below h HYr.out.lt) Tryd.underlying37 rfl (by rw [u8s_size, HYI.out.1]; kernel_rfl)) (HS0.out) ?_
            try simp only [Act.put, List.getElem_toArray, List.getElem_cons_zero, List.getElem_cons_succ, List.setIfInBounds_toArray, List.set_cons_zero, List.set_cons_succ]
            refine wpAnyH_take (i := 6) (v := ?_) rfl (by kernel_rfl) (by kernel_rfl) (by kernel_rfl) (fun _ _ _ h => h) (Or.inl ⟨by rfl, ?_⟩) (HS0.out) ?_
            rotate_left
            · intro w' hw; go_simp; with_reducible rfl
            try simp only [Act.put, List.getElem_toArray, List.getElem_cons_zero, List.getElem_cons_succ, List.setIfInBounds_toArray, List.set_cons_zero, List.set_cons_succ]
            refine wpAnyH_take (i := 7) rfl (by kernel_rfl) (by kernel_rfl) (by kernel_rfl) (fun _ _ _ h => h) (takes_row 37 (.tmp 11) rfl (by rfl) gy rfl 37 (u8s y) _ (fun w' h => HYr.out.below h HYr.out.lt) Tryd.underlying37 rfl (by rw [u8s_size, HYI.out.1]; kernel_rfl)) (HS0.out) ?_
            try simp only [Act.put, List.getElem_toArray, List.getElem_cons_zero, List.getElem_cons_succ, List.setIfInBounds_toArray, List.set_cons_zero, List.set_cons_succ]
            refine all_one (i := 2) (by kernel_rfl) rfl (by rfl) (fun K hK => ?_)
            refine wp_buildSliceK 23 37 1 _ (by rfl) (cellsB x).toArray ip (.agg (cellsB (List.replicate 32 0)).toArray) Tryd.underlying23 hip hpz (by rw [hps]; decide) (by rw [hps]; decide) _ (by kernel_rfl) (by rw [hps]; exact fill_one 32 (Value.agg (cellsB (List.replicate 32 0)).toArray).cells _ (cellsP1_len HXI.out) (by rfl)) ?_
            have b13 : Below wr.heap.size wr (wr.drew.alloc (.cells (cellsB x).toArray 37)) := HS0.out.alloc HS0.out.size _
            have HX13 := Lib.hid (Blk.new wr.drew 37 (cellsB x).toArray)
            refine hK _ _ b13 ?_
            clear hK K
            try simp only [Act.put, List.getElem_toArray, List.getElem_cons_zero, List.getElem_cons_succ, List.setIfInBounds_toArray, List.set_cons_zero, List.set_cons_succ]
            have HS1 := Lib.hid b13
            clear b13 hip hpz hps hpb
            generalize wr.drew.alloc (.cells (cellsB x).toArray 37) = w13 at HX13 HS1 ⊢
            generalize wr.drew.heap.size = g13 at HX13 ⊢
            have HIN4 := Lib.hid (show ClIn w13 Al nl cl ls (some ⟨g13, 0, none⟩) 1 1 [x] a from ⟨HCL.out w13 HS1.out, fun p hp => by have := (HR9.out.tx p (HSUBL.out p hp)).2.2; omega, HTB.out.below (below_next HHr.out HS1.out) (Nat.le_refl _), HS.out.at_ (below_next HHr.out HS1.out), ⟨_, 1, rfl, Nat.le_refl _, fun _ => ⟨g13, 0, rfl, HX13.out.lt, fun j u hj => by
              rw [Nat.zero_add]
              exact (HX13.out.cell j).trans (by simpa [cellsP] using hj)⟩⟩, rfl, fun q hq => by rw [List.mem_singleton.1 hq]; exact HXI.out, by have := HLLE.out; simp; omega⟩)
            have CM := missing_any HIN4.out w13 (Below.refl _ _)
            unfold SetPost at CM
            refine all_one (i := 3) (by kernel_rfl) rfl (by rfl) (fun K hK => ?_)
            go_simp
            refine CM.mono ?_
            rintro e w14 ⟨v14, r14, rfl, hv14, hi14, hr14, hm14, hb14⟩
            have HS2 := Lib.hid (below_next HS1.out hb14)
            have HI14 := Lib.hid hi14
            have HF14 := Lib.hid (set_few hr14 hi14 (fun q hq h => ((hm14 q hq).1 h).1) HIN4.out.byt (by simp) (by rw [List.length_map]; exact HLLE.out))
            have HEQ : Hid (decide (y ∈ r14) = decide (y ∈ r9)) := Lib.hid (by
              have h1 := hm14 y HYI.out
              have h2 := HM5.out y HYI.out
              rw [HLT3.out] at h1
              have h3 : Cl.the (its.map (·.text)) y = true := by
                obtain ⟨p, hp, rfl⟩ := List.mem_map.1 HYM.out
                exact the_mem hp
              rw [decide_eq_decide, h1, h2]
              show (Cl.Rch (Cl.less (its.map (·.text)) y) [x] y ∧ Cl.the (Cl.less (its.map (·.text)) y) y = false) ↔ (Cl.Rch (its.map (·.text)) [x] y ∧ Cl.the (its.map (·.text)) y = true)
              rw [Cl.less_iff]
              exact ⟨fun h => ⟨h.1, h3⟩, fun h => ⟨h.1, Cl.less_the⟩⟩)
            have HV14 := Lib.hid hv14
            dsimp only
            refine hK _ _ HS2.out ?_
            clear hK K CM hv14 hi14 hr14 hm14 hb14
            try simp only [Act.put, List.getElem_toArray, List.getElem_cons_zero, List.getElem_cons_succ, List.setIfInBounds_toArray, List.set_cons_zero, List.set_cons_succ]
            have CA := lin_any r14 y v14 w14 HV14.out HI14.out HYI.out (by have := HF14.out; omega)
            refine all_one (i := 5) (by kernel_rfl) rfl (by rfl) (fun K hK => ?_)
            go_simp
            refine CA.mono ?_
            rintro e w15 ⟨rfl, hb15⟩
            have HS3b := Lib.hid (below_next HS2.out hb15)
            dsimp only
            refine hK _ _ HS3b.out ?_
            clear hK K CA hb15
            try simp only [Act.put, List.getElem_toArray, List.getElem_cons_zero, List.getElem_cons_succ, List.setIfInBounds_toArray, List.set_cons_zero, List.set_cons_succ]
            have CB := lin_any r9 y _ w15 (rdo_go HV5r.out HS3b.out (Nat.le_refl _)) HI5.out HYI.out (by have := HF5.out; omega)
            refine all_one (i := 8) (by kernel_rfl) rfl (by rfl) (fun K hK => ?_)
            go_simp
            refine CB.mono ?_
            rintro e w16 ⟨rfl, hb16⟩
            have HS4b := Lib.hid (below_next HS3b.out hb16)
            dsimp only
            refine hK _ _ HS4b.out ?_
            clear hK K CB hb16
            try simp only [Act.put, List.getElem_toArray, List.getElem_cons_zero, List.getElem_cons_succ, List.setIfInBounds_toArray, List.set_cons_zero, List.set_cons_succ]
            have heq := HEQ.out
            rw [heq]
            obtain ⟨d, hd⟩ : ∃ d, d = decide (y ∈ r9) := ⟨_, rfl⟩
            rw [← hd]
            clear hd heq
            have HFN := Lib.hid (below_next HHr.out HS4b.out)
            cases d
            · refine wpAnyH_take (i := 9) (v := ?_) rfl (by kernel_rfl) (by kernel_rfl) (by kernel_rfl) (fun _ _ _ h => h) (Or.inl ⟨by rfl, ?_⟩) (HS4b.out) ?_
              rotate_left
              · intro w' hw; go_simp; with_reducible rfl
              try simp only [Act.put, List.getElem_toArray, List.getElem_cons_zero, List.getElem_cons_succ, List.setIfInBounds_toArray, List.set_cons_zero, List.set_cons_succ]
              refine wpAnyH_take (i := 10) (v := ?_) rfl (by kernel_rfl) (by kernel_rfl) (by kernel_rfl) (fun _ _ _ h => h) (Or.inl ⟨by rfl, ?_⟩) (HS4b.out) ?_
              rotate_left
              · intro w' hw; go_simp; with_reducible rfl
              try simp only [Act.put, List.getElem_toArray, List.getElem_cons_zero, List.getElem_cons_succ, List.setIfInBounds_toArray, List.set_cons_zero, List.set_cons_succ]
              refine wpAnyH_done (by kernel_rfl) ?_ _
              go_wp2
              go_ret
              exact ⟨rfl, HFN.out⟩
            · refine wpAnyH_take (i := 9) (v := ?_) rfl (by kernel_rfl) (by kernel_rfl) (by kernel_rfl) (fun _ _ _ h => h) (Or.inl ⟨by rfl, ?_⟩) (HS4b.out) ?_
              rotate_left
              · intro w' hw; go_simp; with_reducible rfl
              try simp only [Act.put, List.getElem_toArray, List.getElem_cons_zero, List.getElem_cons_succ, List.setIfInBounds_toArray, List.set_cons_zero, List.set_cons_succ]
              refine wpAnyH_take (i := 10) (v := ?_) rfl (by kernel_rfl) (by kernel_rfl) (by kernel_rfl) (fun _ _ _ h => h) (Or.inl ⟨by rfl, ?_⟩) (HS4b.out) ?_
              rotate_left
              · intro w' hw; go_simp; with_reducible rfl
              try simp only [Act.put, List.getElem_toArray, List.getElem_cons_zero, List.getElem_cons_succ, List.setIfInBounds_toArray, List.set_cons_zero, List.set_cons_succ]
              refine wpAnyH_done (by kernel_rfl) ?_ _
              go_wp2
              go_ret
              exact ⟨rfl, HFN.out⟩
          have hki : k2 < its.length := by rw [← HM.out]; exact hlt
          obtain ⟨p, hp⟩ : ∃ p, its[k2]? = some p := ⟨its[k2], List.getElem?_eq_getElem hki⟩
          have HTK : Hid (its.take (k2 + 1) = its.take k2 ++ [p]) := Lib.hid (by
            rw [List.take_succ_eq_append_getElem hki]
            rw [List.getElem?_eq_getElem hki] at hp
            rw [Option.some.inj hp])
          have HP := Lib.hid (List.mem_of_getElem? hp)
          obtain ⟨htx, hty, htl⟩ := HR9.out.tx p HP.out
          have HTY := Lib.hid hty
          have HTL := Lib.hid htl
          obtain ⟨Ak, ck, hvk⟩ := own_slice htx
          obtain ⟨bo, oo, hAo, hcell⟩ : ∃ bo oo, Ao = some ⟨bo, oo, none⟩ ∧ wr.cell? ⟨bo, oo + k2, none⟩ = some p.val := by
            obtain ⟨A', c', hv', _, hA'⟩ := (rdk_own HR9.out.oo).below HBK.out (Nat.le_refl _)
            injection hv' with e1 e2 e3
            obtain ⟨b', o', ha', _, hx'⟩ := hA' (by omega)
            exact ⟨b', o', e1.trans ha', hx' k2 p.val (by rw [List.getElem?_map, hp]; rfl)⟩
          obtain ⟨nk, hnk⟩ : ∃ q, q = p.text.length := ⟨_, rfl⟩
          rw [← hnk] at hvk
          rw [hvk] at hcell
          have HPV := Lib.hid hvk
          have HRD : Hid (Rd wr (.slice Ak nk ck) p.text) := Lib.hid (by rw [← hvk]; exact (rd_own htx).below HBK.out (Nat.le_refl _))
          have HTBr := Lib.hid (HTB.out.below (below_next H9.out HBK.out) (Nat.le_refl _))
          have HYr := Lib.hid (HY9.out.below HBK.out HY9.out.lt)
          obtain ⟨sm, hsm⟩ : ∃ s, s = Sha.sum p.text := ⟨_, rfl⟩
          have HSM := Lib.hid hsm
          have HIS : Hid (Id32 sm) := Lib.hid (by rw [hsm]; exact cl_sum_id _)
          have CID := fun (w' : World) (hb : Below wr.heap.size wr w') => oid_any p.text (.slice Ak nk ck) w' (HRD.out.below hb (Nat.le_refl _)) HTY.out (HTBr.out.below hb (Nat.le_refl _)) (by have := HTL.out; omega)
          rw [← hsm] at CID
          have i1 : ((k2 : Nat) : Int) < m := by omega
          have i2 : (0 : Int) ≤ ((k2 : Nat) : Int) := by omega
          have i3 : ((m : Nat) : Int) ≤ 20 := by have := HM20.out; omega
          have HLT2 := Lib.hid hlt
          have HAO := Lib.hid hAo
          rw [hAo]
          clear hp htx hty htl hvk hsm hnk hk2 hlt hki hAo
          go_wp2
          clear hcell
          obtain ⟨β, hβ⟩ : ∃ β, β = (sm == y) := ⟨_, rfl⟩
          have HBE := Lib.hid hβ
          have qe := fun (w' : World) => run_equalIn_u8s (P := Tryd.prog) w' 37 5 32 Tryd.underlying37 Tryd.underlying5 size_u8 sm y HIS.out.1 HYI.out.1 HIS.out.2 HYI.out.2
          rw [← hβ] at qe
          clear hβ
          refine wp_region_held (S := (fun w' => Below wr.heap.size wr w')) (by kernel_rfl) ?_
          change wpAnyH _ _ _ _ _ _ _ _ wr.drew
          have HS0 := Lib.hid (below_drewN (Below.refl wr.heap.size wr) 1)
          refine wpAnyH_take (i := 0) (v := ?_) rfl (by kernel_rfl) (by kernel_rfl) (by kernel_rfl) (fun _ _ _ h => h) (Or.inl ⟨by rfl, ?_⟩) (HS0.out) ?_
          rotate_left
          · intro w' hw; go_simp; with_reducible rfl
          try simp only [Act.put, List.getElem_toArray, List.getElem_cons_zero, List.setIfInBounds_toArray, List.set_cons_zero, List.set_cons_succ]
          refine wpAnyH_take (i := 2) rfl (by kernel_rfl) (by kernel_rfl) (by kernel_rfl) (fun _ _ _ h => h) (takes_row 37 (.tmp 11) rfl (by rfl) gy rfl 37 (u8s y) _ (fun w' h => HYr.out.below h HYr.out.lt) Tryd.underlying37 rfl (by rw [u8s_size, HYI.out.1]; kernel_rfl)) (HS0.out) ?_
          try simp only [Act.put, List.getElem_toArray, List.getElem_cons_zero, List.getElem_cons_succ, List.setIfInBounds_toArray, List.set_cons_zero, List.set_cons_succ]
          refine all_one (i := 1) (by kernel_rfl) rfl (by rfl) (fun K hK => ?_)
          go_simp
          refine (CID _ HS0.out).mono ?_
          rintro e w11 ⟨rfl, hb11⟩
          have HS1 := Lib.hid (below_next HS0.out hb11)
          dsimp only
          refine hK _ _ HS1.out ?_; clear hK K hb11
          try simp only [Act.put, List.getElem_toArray, List.getElem_cons_zero, List.getElem_cons_succ, List.setIfInBounds_toArray, List.set_cons_zero, List.set_cons_succ]
          refine wpAnyH_take (i := 3) (v := ?_) rfl (by kernel_rfl) (by kernel_rfl) (by kernel_rfl) (fun _ _ _ h => h) (Or.inl ⟨by rfl, ?_⟩) (HS1.out) ?_
          rotate_left
          · intro w' hw; have q0 := qe w'; go_simp; with_reducible rfl
          try simp only [Act.put, List.getElem_toArray, List.getElem_cons_zero, List.getElem_cons_succ, List.setIfInBounds_toArray, List.set_cons_zero, List.set_cons_succ]
          refine wpAnyH_done (by kernel_rfl) ?_ _
          have HKN := Lib.hid (below_next HBK.out HS1.out)
          have HOn := Lib.hid (own_below HO.out HS1.out)
          have HNLK : Hid (nl ≤ 20) := Lib.hid (by
            have h1 := HNL.out
            rw [HLS.out] at h1
            have h2 := List.length_filter_le (fun p : Cl.T => !decide (Sha.sum p.text = y)) (its.take k2)
            rw [List.length_take] at h2
            have := HL.out
            omega)
          clear qe CID
          cases β
          rotate_left
          · have heq : Sha.sum p.text = y := by
              have h1 := HBE.out
              rw [HSM.out] at h1
              exact eq_of_beq h1.symm
            have HFI : Hid (ls = (its.take (k2 + 1)).filter (fun p => !decide (Sha.sum p.text = y))) := Lib.hid (by
              rw [HTK.out, List.filter_append, ← HLS.out]
              simp [heq])
            have HOr : Hid (w11.ownsRow w9.heap.size 40 1 (.slice Al nl cl) ls.length (ls.map (·.val))) := Lib.hid (by rw [← HNL.out]; exact HOn.out)
            clear heq
            go_wp2
            go_roundw
            case rel => exact ⟨k2 + 1, ls, HLT2.out, by go_num, HOr, HKN, HFI⟩
            case measure => have := HLT2.out; simp [intOf]; omega
          have hne : ¬ Sha.sum p.text = y := by
            intro h1
            have h2 := HBE.out
            rw [HSM.out, h1] at h2
            simp at h2
          have HFI : Hid (ls ++ [p] = (its.take (k2 + 1)).filter (fun p => !decide (Sha.sum p.text = y))) := Lib.hid (by
            rw [HTK.out, List.filter_append, ← HLS.out]
            simp [hne])
          clear hne
          obtain ⟨ib, hib, hbz, hbs, hbb⟩ := info_parts bts_info26
          go_wp2_with (with_reducible (show wpList _ _ _ (Oper.mk _ (Op.call (Call.mk (Callee.builtin Builtin.append) _ _)) _ _ _ _ :: _) _ _); refine pause ?_)
          unfold Paused
          change wpList _ _ _ _ _ (w11.alloc (.cells #[.slice Ak nk ck] 40))
          have b12 : Below w11.heap.size w11 (w11.alloc (.cells #[.slice Ak nk ck] 40)) := (Below.refl _ _).alloc (Nat.le_refl _) _
          have HX12 := Lib.hid (Blk.new w11 40 #[.slice Ak nk ck])
          have HO12 := Lib.hid (own_below HOn.out b12)
          have HK12 := Lib.hid (below_next HKN.out b12)
          clear b12
          generalize w11.alloc (.cells #[.slice Ak nk ck] 40) = w12 at HX12 HO12 HK12 ⊢
          generalize w11.heap.size = g12 at HX12 ⊢
          refine wpList_append_lies w12 (by rfl) (.tmp 94) (.tmp 96) 22 (by rfl) w9.heap.size 40 ib _ 1 24 Tryd.underlying22 hib hbz hbs hbb (by rfl) (by decide) (.slice Al nl cl) nl (ls.map (·.val)) (by rfl) HO12.out ⟨g12, 0, none⟩ 1 1 [.slice Ak nk ck] (by rfl) (by rfl) (fun j u hj => by rw [Addr.add_mid, Nat.zero_add, HX12.out.cell j]; simpa using hj) (fun u hu => by rw [List.mem_singleton.1 hu]; rfl) (by decide) (by have := HNLK.out; unfold maxLen; omega) (by have := HNLK.out; omega) HK12.out.size w12.heap.size rfl ?_
          intro gc cc wk hoc hgc hlc _
          have HNO : Hid (wk.ownsRow w9.heap.size 40 1 (.slice (some ⟨gc, 0, none⟩) (nl + 1) cc) (ls ++ [p]).length ((ls ++ [p]).map (·.val))) := Lib.hid (by
            rw [List.length_append, List.length_singleton, ← HNL.out, List.map_append]
            show wk.ownsRow _ _ _ _ _ (ls.map (·.val) ++ [p.val])
            rw [HPV.out]
            exact hoc)
          have HBN := Lib.hid (cl_grow HK12.out hgc (fun q hq => (own_in HO12.out hq).1))
          clear hoc hgc hlc hib hbz hbs hbb
          simp only [Act.put]
          go_wp2
          go_roundw
          case rel => exact ⟨k2 + 1, ls ++ [p], HLT2.out, by go_num, HNO, HBN, HFI⟩
          case measure => have := HLT2.out; simp [intOf]; omega
  case first =>
    have HF0 : Hid (IntKind.u64.wrap (m : Int) = (m : Int)) := Lib.hid (to_u64 m (Nat.le_trans HM20.out (by decide)))
    have HRA := Lib.hid (lk_rem z1 m HM0.out (by have := HM20.out; omega) 0 (by omega))
    have HRB := Lib.hid (lk_rem z2 m HM0.out (by have := HM20.out; omega) 0 (by omega))
    have HI64 : Hid (∀ r : Nat, r < m → IntKind.i64.wrap (r : Int) = (r : Int)) := Lib.hid (fun r hr => to_i64 r (Nat.le_trans (Nat.le_of_lt hr) (Nat.le_trans HM20.out (by decide))))
    refine wp_region_held (S := (fun w' => Below w2.heap.size w2 w')) (by kernel_rfl) ?_
    change wpAnyH _ _ _ _ _ _ _ _ w2.drew
    have HS0 := Lib.hid (below_drewN (Below.refl w2.heap.size w2) 1)
    refine wpAnyH_take (i := 0) (v := ?_) rfl (by kernel_rfl) (by kernel_rfl) (by kernel_rfl) (fun _ _ _ h => h) (Or.inl ⟨by rfl, ?_⟩) (HS0.out) ?_
    rotate_left
    · intro w' hw; go_simp; with_reducible rfl
    try simp only [Act.put, List.getElem_toArray, List.getElem_cons_zero, List.setIfInBounds_toArray, List.set_cons_zero, List.set_cons_succ]
    refine wpAnyH_take (i := 1) (v := ?_) rfl (by kernel_rfl) (by kernel_rfl) (by kernel_rfl) (fun _ _ _ h => h) (Or.inl ⟨by rfl, ?_⟩) (HS0.out) ?_
    rotate_left
    · intro w' hw; go_simp; with_reducible rfl
    try simp only [Act.put, List.getElem_toArray, List.getElem_cons_zero, List.getElem_cons_succ, List.setIfInBounds_toArray, List.set_cons_zero, List.set_cons_succ]
    refine wpAnyH_take (i := 2) (v := ?_) rfl (by kernel_rfl) (by kernel_rfl) (by kernel_rfl) (fun _ _ _ h => h) (Or.inl ⟨by rfl, ?_⟩) (HS0.out) ?_
    rotate_left
    · intro w' hw; go_simp; with_reducible rfl
    try simp only [Act.put, List.getElem_toArray, List.getElem_cons_zero, List.getElem_cons_succ, List.setIfInBounds_toArray, List.set_cons_zero, List.set_cons_succ]
    refine wpAnyH_take (i := 3) (v := ?_) rfl (by kernel_rfl) (by kernel_rfl) (by kernel_rfl) (fun _ _ _ h => h) (Or.inl ⟨by rfl, ?_⟩) (HS0.out) ?_
    rotate_left
    · intro w' hw; go_simp; with_reducible rfl
    try simp only [Act.put, List.getElem_toArray, List.getElem_cons_zero, List.getElem_cons_succ, List.setIfInBounds_toArray, List.set_cons_zero, List.set_cons_succ]
    refine wpAnyH_take (i := 4) (v := ?_) rfl (by kernel_rfl) (by kernel_rfl) (by kernel_rfl) (fun _ _ _ h => h) (Or.inl ⟨by rfl, ?_⟩) (HS0.out) ?_
    rotate_left
    · intro w' hw; go_simp; with_reducible rfl
    try simp only [Act.put, List.getElem_toArray, List.getElem_cons_zero, List.getElem_cons_succ, List.setIfInBounds_toArray, List.set_cons_zero, List.set_cons_succ]
    refine wpAnyH_take (i := 5) (v := ?_) rfl (by kernel_rfl) (by kernel_rfl) (by kernel_rfl) (fun _ _ _ h => h) (Or.inl ⟨by rfl, ?_⟩) (HS0.out) ?_
    rotate_left
    · intro w' hw; go_simp; with_reducible rfl
    try simp only [Act.put, List.getElem_toArray, List.getElem_cons_zero, List.getElem_cons_succ, List.setIfInBounds_toArray, List.set_cons_zero, List.set_cons_succ]
    simp only [HF0.out]
    refine wpAnyH_take (i := 6) (v := ?_) rfl (by kernel_rfl) (by kernel_rfl) (by kernel_rfl) (fun _ _ _ h => h) (Or.inl ⟨by rfl, ?_⟩) (HS0.out) ?_
    rotate_left
    · intro w' hw; go_simp; with_reducible rfl
    try simp only [Act.put, List.getElem_toArray, List.getElem_cons_zero, List.getElem_cons_succ, List.setIfInBounds_toArray, List.set_cons_zero, List.set_cons_succ]
    refine wpAnyH_take (i := 7) (v := ?_) rfl (by kernel_rfl) (by kernel_rfl) (by kernel_rfl) (fun _ _ _ h => h) (Or.inl ⟨by rfl, ?_⟩) (HS0.out) ?_
    rotate_left
    · intro w' hw; go_simp; with_reducible rfl
    try simp only [Act.put, List.getElem_toArray, List.getElem_cons_zero, List.getElem_cons_succ, List.setIfInBounds_toArray, List.set_cons_zero, List.set_cons_succ]
    obtain ⟨k5, hk5, hfk5, _, _⟩ := HRA.out
    have hik5 := HI64.out k5 hk5
    have r1k5 : ((k5 : Nat) : Int) < (m : Int) := Int.ofNat_lt.2 hk5
    have r0k5 : (0 : Int) ≤ ((k5 : Nat) : Int) := Int.natCast_nonneg _
    obtain ⟨bx, ox, x, hak5, hmx, hrx⟩ := ids_at HID2.out HM.out hk5
    injection hak5 with hE
    injection hE with hE1 hE2
    subst hE1 hE2
    have HxM := Lib.hid hmx
    have HxR : Hid (∀ w', Below w2.heap.size w2 w' → w'.rangeAt ba (oa + k5 * 32) (cellsB x)) := Lib.hid (fun w' hw j u hu => (World.cell?_of_block (hw.block _ (block_lt_of_cell (hrx j u hu)))).trans (hrx j u hu))
    have HxI := Lib.hid (ids_id32 its x hmx)
    try simp only [hfk5, hik5]
    clear hk5 hfk5 hik5 hmx hrx HRA
    refine wpAnyH_take (i := 8) (v := ?_) rfl (by kernel_rfl) (by kernel_rfl) (by kernel_rfl) (fun _ _ _ h => h) (Or.inl ⟨by rfl, ?_⟩) (HS0.out) ?_
    rotate_left
    · intro w' hw; go_simp; with_reducible rfl
    try simp only [Act.put, List.getElem_toArray, List.getElem_cons_zero, List.getElem_cons_succ, List.setIfInBounds_toArray, List.set_cons_zero, List.set_cons_succ]
    refine wpAnyH_take (i := 9) (v := .agg (cellsB x).toArray) rfl (by kernel_rfl) (by kernel_rfl) (by kernel_rfl) (fun _ _ _ h => h) (takes_mid 37 (.tmp 43) rfl (by rfl) ba (oa + k5 * 32) (by rfl) (cellsB x) _ (fun w' hw => HxR.out w' hw) Tryd.underlying37 rfl (by rw [cellsP1_len HxI.out]; kernel_rfl)) (HS0.out) ?_
    try simp only [Act.put, List.getElem_toArray, List.getElem_cons_zero, List.getElem_cons_succ, List.setIfInBounds_toArray, List.set_cons_zero, List.set_cons_succ]
    refine wpAnyH_take (i := 10) (v := ?_) rfl (by kernel_rfl) (by kernel_rfl) (by kernel_rfl) (fun _ _ _ h => h) (Or.inl ⟨by rfl, ?_⟩) (HS0.out) ?_
    rotate_left
    · intro w' hw; go_simp; with_reducible rfl
    try simp only [Act.put, List.getElem_toArray, List.getElem_cons_zero, List.getElem_cons_succ, List.setIfInBounds_toArray, List.set_cons_zero, List.set_cons_succ]
    refine wpAnyH_take (i := 11) (v := ?_) rfl (by kernel_rfl) (by kernel_rfl) (by kernel_rfl) (fun _ _ _ h => h) (Or.inl ⟨by rfl, ?_⟩) (HS0.out) ?_
    rotate_left
    · intro w' hw; go_simp; with_reducible rfl
    try simp only [Act.put, List.getElem_toArray, List.getElem_cons_zero, List.getElem_cons_succ, List.setIfInBounds_toArray, List.set_cons_zero, List.set_cons_succ]
    refine wpAnyH_take (i := 12) (v := ?_) rfl (by kernel_rfl) (by kernel_rfl) (by kernel_rfl) (fun _ _ _ h => h) (Or.inl ⟨by rfl, ?_⟩) (HS0.out) ?_
    rotate_left
    · intro w' hw; go_simp; with_reducible rfl
    try simp only [Act.put, List.getElem_toArray, List.getElem_cons_zero, List.getElem_cons_succ, List.setIfInBounds_toArray, List.set_cons_zero, List.set_cons_succ]
    refine wpAnyH_take (i := 13) (v := ?_) rfl (by kernel_rfl) (by kernel_rfl) (by kernel_rfl) (fun _ _ _ h => h) (Or.inl ⟨by rfl, ?_⟩) (HS0.out) ?_
    rotate_left
    · intro w' hw; go_simp; with_reducible rfl
    try simp only [Act.put, List.getElem_toArray, List.getElem_cons_zero, List.getElem_cons_succ, List.setIfInBounds_toArray, List.set_cons_zero, List.set_cons_succ]
    refine wpAnyH_take (i := 14) (v := ?_) rfl (by kernel_rfl) (by kernel_rfl) (by kernel_rfl) (fun _ _ _ h => h) (Or.inl ⟨by rfl, ?_⟩) (HS0.out) ?_
    rotate_left
    · intro w' hw; go_simp; with_reducible rfl
    try simp only [Act.put, List.getElem_toArray, List.getElem_cons_zero, List.getElem_cons_succ, List.setIfInBounds_toArray, List.set_cons_zero, List.set_cons_succ]
    refine wpAnyH_take (i := 15) (v := ?_) rfl (by kernel_rfl) (by kernel_rfl) (by kernel_rfl) (fun _ _ _ h => h) (Or.inl ⟨by rfl, ?_⟩) (HS0.out) ?_
    rotate_left
    · intro w' hw; go_simp; with_reducible rfl
    try simp only [Act.put, List.getElem_toArray, List.getElem_cons_zero, List.getElem_cons_succ, List.setIfInBounds_toArray, List.set_cons_zero, List.set_cons_succ]
    try simp only [HF0.out]
    refine wpAnyH_take (i := 16) (v := ?_) rfl (by kernel_rfl) (by kernel_rfl) (by kernel_rfl) (fun _ _ _ h => h) (Or.inl ⟨by rfl, ?_⟩) (HS0.out) ?_
    rotate_left
    · intro w' hw; go_simp; with_reducible rfl
    try simp only [Act.put, List.getElem_toArray, List.getElem_cons_zero, List.getElem_cons_succ, List.setIfInBounds_toArray, List.set_cons_zero, List.set_cons_succ]
    refine wpAnyH_take (i := 17) (v := ?_) rfl (by kernel_rfl) (by kernel_rfl) (by kernel_rfl) (fun _ _ _ h => h) (Or.inl ⟨by rfl, ?_⟩) (HS0.out) ?_
    rotate_left
    · intro w' hw; go_simp; with_reducible rfl
    try simp only [Act.put, List.getElem_toArray, List.getElem_cons_zero, List.getElem_cons_succ, List.setIfInBounds_toArray, List.set_cons_zero, List.set_cons_succ]
    obtain ⟨k6, hk6, hfk6, _, _⟩ := HRB.out
    have hik6 := HI64.out k6 hk6
    have r1k6 : ((k6 : Nat) : Int) < (m : Int) := Int.ofNat_lt.2 hk6
    have r0k6 : (0 : Int) ≤ ((k6 : Nat) : Int) := Int.natCast_nonneg _
    obtain ⟨by_, oy, y, hak6, hmy, hry⟩ := ids_at HID2.out HM.out hk6
    injection hak6 with hE
    injection hE with hE1 hE2
    subst hE1 hE2
    have HyM := Lib.hid hmy
    have HyR : Hid (∀ w', Below w2.heap.size w2 w' → w'.rangeAt ba (oa + k6 * 32) (cellsB y)) := Lib.hid (fun w' hw j u hu => (World.cell?_of_block (hw.block _ (block_lt_of_cell (hry j u hu)))).trans (hry j u hu))
    have HyI := Lib.hid (ids_id32 its y hmy)
    try simp only [hfk6, hik6]
    clear hk6 hfk6 hik6 hmy hry HRB
    refine wpAnyH_take (i := 18) (v := ?_) rfl (by kernel_rfl) (by kernel_rfl) (by kernel_rfl) (fun _ _ _ h => h) (Or.inl ⟨by rfl, ?_⟩) (HS0.out) ?_
    rotate_left
    · intro w' hw; go_simp; with_reducible rfl
    try simp only [Act.put, List.getElem_toArray, List.getElem_cons_zero, List.getElem_cons_succ, List.setIfInBounds_toArray, List.set_cons_zero, List.set_cons_succ]
    refine wpAnyH_take (i := 19) (v := .agg (cellsB y).toArray) rfl (by kernel_rfl) (by kernel_rfl) (by kernel_rfl) (fun _ _ _ h => h) (takes_mid 37 (.tmp 53) rfl (by rfl) ba (oa + k6 * 32) (by rfl) (cellsB y) _ (fun w' hw => HyR.out w' hw) Tryd.underlying37 rfl (by rw [cellsP1_len HyI.out]; kernel_rfl)) (HS0.out) ?_
    try simp only [Act.put, List.getElem_toArray, List.getElem_cons_zero, List.getElem_cons_succ, List.setIfInBounds_toArray, List.set_cons_zero, List.set_cons_succ]
    refine all_two (i := 20) (j := 21) (by kernel_rfl) rfl rfl (by rfl) (by rfl) (fun K hK => ?_) (fun K hK => ?_)
    · go_simp
      change K _ ((w2.alloc (.cells (u8s (List.replicate 32 0)) 37)).drew)
      have ha1 : Below w2.heap.size w2 ((w2.alloc (.cells (u8s (List.replicate 32 0)) 37)).drew) := below_drewN ((Below.refl _ _).alloc (Nat.le_refl _) _) 1
      have hb1 : Blk ((w2.alloc (.cells (u8s (List.replicate 32 0)) 37)).drew) w2.heap.size 37 (u8s (List.replicate 32 0)) := Blk.new w2 _ _
      refine hK _ _ ha1 ?_
      clear hK K
      try simp only [Act.put, List.getElem_toArray, List.getElem_cons_zero, List.getElem_cons_succ, List.setIfInBounds_toArray, List.set_cons_zero, List.set_cons_succ]
      have HA1 := Lib.hid ha1
      have HB1 := Lib.hid hb1
      clear ha1 hb1
      generalize (w2.alloc (.cells (u8s (List.replicate 32 0)) 37)).drew = wa at HA1 HB1 ⊢
      refine all_one (i := 21) (by kernel_rfl) rfl (by rfl) (fun K hK => ?_)
      go_simp
      change K _ (wa.alloc (.cells (u8s (List.replicate 32 0)) 37))
      have ha2 : Below w2.heap.size w2 (wa.alloc (.cells (u8s (List.replicate 32 0)) 37)) := HA1.out.alloc HA1.out.size _
      have HB2 := Lib.hid (HB1.out.alloc (.cells (u8s (List.replicate 32 0)) 37))
      have HC2 := Lib.hid (Blk.new wa 37 (u8s (List.replicate 32 0)))
      have HLT := Lib.hid HB1.out.lt
      refine hK _ _ ha2 ?_
      clear hK K
      try simp only [Act.put, List.getElem_toArray, List.getElem_cons_zero, List.getElem_cons_succ, List.setIfInBounds_toArray, List.set_cons_zero, List.set_cons_succ]
      have HA2 := Lib.hid ha2
      clear ha2 HB1 HA1
      generalize wa.alloc (.cells (u8s (List.replicate 32 0)) 37) = wb at HA2 HB2 HC2 ⊢
      generalize hgb : wa.heap.size = gb at HC2 HLT ⊢
      clear hgb
      refine all_one (i := 22) (by kernel_rfl) rfl (by rfl) (fun K hK => ?_)
      refine wp_store_row 37 (.tmp 10) (.tmp 44) (by rfl) w2.heap.size (cellsB x).toArray (by rfl) (by rfl) 37 (u8s (List.replicate 32 0)) HB2.out (by rw [List.size_toArray, cellsP1_len HxI.out]; kernel_rfl) (show (u8s (List.replicate 32 0)).size = (cellsB x).toArray.size by rw [u8s_size, List.size_toArray, cellsP1_len HxI.out]; rfl) (u8s_one x) ?_
      have hg22 : wb.grownBy (wb.setRow w2.heap.size (cellsB x).toArray) (some w2.heap.size) := only_setRow (World.grownBy.refl wb _) (Or.inl rfl) _
      have h22a := Lib.hid (HB2.out.row (cellsB x).toArray)
      have h22b := Lib.hid (HC2.out.stands (hg22.block gb HC2.out.lt (fun e => by injection e with e; have := HLT.out; omega)))
      have h22c := below_row HA2.out (show w2.heap.size ≤ w2.heap.size by have := HLT.out; omega) (cellsB x).toArray
      refine hK _ _ h22c ?_
      clear hK K hg22
      try simp only [Act.put, List.getElem_toArray, List.getElem_cons_zero, List.getElem_cons_succ]
      have HA3 := Lib.hid h22c
      clear h22c
      generalize wb.setRow w2.heap.size (cellsB x).toArray = wc at h22a h22b HA3 ⊢
      refine all_one (i := 23) (by kernel_rfl) rfl (by rfl) (fun K hK => ?_)
      refine wp_store_row 37 (.tmp 11) (.tmp 54) (by rfl) gb (cellsB y).toArray (by rfl) (by rfl) 37 (u8s (List.replicate 32 0)) h22b.out (by rw [List.size_toArray, cellsP1_len HyI.out]; kernel_rfl) (show (u8s (List.replicate 32 0)).size = (cellsB y).toArray.size by rw [u8s_size, List.size_toArray, cellsP1_len HyI.out]; rfl) (u8s_one y) ?_
      have hg23 : wc.grownBy (wc.setRow gb (cellsB y).toArray) (some gb) := only_setRow (World.grownBy.refl wc _) (Or.inl rfl) _
      have h23a := Lib.hid (h22b.out.row (cellsB y).toArray)
      have h23b := Lib.hid (h22a.out.stands (hg23.block w2.heap.size h22a.out.lt (fun e => by injection e with e; have := HLT.out; omega)))
      have h23c := below_row HA3.out (show w2.heap.size ≤ gb by have := HLT.out; omega) (cellsB y).toArray
      refine hK _ _ h23c ?_
      clear hK K hg23
      try simp only [Act.put, List.getElem_toArray, List.getElem_cons_zero, List.getElem_cons_succ]
      have HA4 := Lib.hid h23c
      clear h23c
      generalize wc.setRow gb (cellsB y).toArray = wd at h23a h23b HA4 ⊢
      refine wpAnyH_done (by kernel_rfl) ?_ _
      go_wp2_with fail
      go_meet
      exact ⟨w2.heap.size, gb, x, y, rfl, rfl, Lib.hid ⟨HA4.out, h23b.out, h23a.out, HxM.out, HyM.out⟩⟩
    · go_simp
      change K _ ((w2.alloc (.cells (u8s (List.replicate 32 0)) 37)).drew)
      have ha1 : Below w2.heap.size w2 ((w2.alloc (.cells (u8s (List.replicate 32 0)) 37)).drew) := below_drewN ((Below.refl _ _).alloc (Nat.le_refl _) _) 1
      have hb1 : Blk ((w2.alloc (.cells (u8s (List.replicate 32 0)) 37)).drew) w2.heap.size 37 (u8s (List.replicate 32 0)) := Blk.new w2 _ _
      refine hK _ _ ha1 ?_
      clear hK K
      try simp only [Act.put, List.getElem_toArray, List.getElem_cons_zero, List.getElem_cons_succ, List.setIfInBounds_toArray, List.set_cons_zero, List.set_cons_succ]
      have HA1 := Lib.hid ha1
      have HB1 := Lib.hid hb1
      clear ha1 hb1
      generalize (w2.alloc (.cells (u8s (List.replicate 32 0)) 37)).drew = wa at HA1 HB1 ⊢
      refine all_one (i := 20) (by kernel_rfl) rfl (by rfl) (fun K hK => ?_)
      go_simp
      change K _ (wa.alloc (.cells (u8s (List.replicate 32 0)) 37))
      have ha2 : Below w2.heap.size w2 (wa.alloc (.cells (u8s (List.replicate 32 0)) 37)) := HA1.out.alloc HA1.out.size _
      have HB2 := Lib.hid (HB1.out.alloc (.cells (u8s (List.replicate 32 0)) 37))
      have HC2 := Lib.hid (Blk.new wa 37 (u8s (List.replicate 32 0)))
      have HLT := Lib.hid HB1.out.lt
      refine hK _ _ ha2 ?_
      clear hK K
      try simp only [Act.put, List.getElem_toArray, List.getElem_cons_zero, List.getElem_cons_succ, List.setIfInBounds_toArray, List.set_cons_zero, List.set_cons_succ]
      have HA2 := Lib.hid ha2
      clear ha2 HB1 HA1
      generalize wa.alloc (.cells (u8s (List.replicate 32 0)) 37) = wb at HA2 HB2 HC2 ⊢
      generalize hgb : wa.heap.size = gb at HC2 HLT ⊢
      clear hgb
      refine all_one (i := 22) (by kernel_rfl) rfl (by rfl) (fun K hK => ?_)
      refine wp_store_row 37 (.tmp 10) (.tmp 44) (by rfl) gb (cellsB x).toArray (by rfl) (by rfl) 37 (u8s (List.replicate 32 0)) HC2.out (by rw [List.size_toArray, cellsP1_len HxI.out]; kernel_rfl) (show (u8s (List.replicate 32 0)).size = (cellsB x).toArray.size by rw [u8s_size, List.size_toArray, cellsP1_len HxI.out]; rfl) (u8s_one x) ?_
      have hg22 : wb.grownBy (wb.setRow gb (cellsB x).toArray) (some gb) := only_setRow (World.grownBy.refl wb _) (Or.inl rfl) _
      have h22a := Lib.hid (HC2.out.row (cellsB x).toArray)
      have h22b := Lib.hid (HB2.out.stands (hg22.block w2.heap.size HB2.out.lt (fun e => by injection e with e; have := HLT.out; omega)))
      have h22c := below_row HA2.out (show w2.heap.size ≤ gb by have := HLT.out; omega) (cellsB x).toArray
      refine hK _ _ h22c ?_
      clear hK K hg22
      try simp only [Act.put, List.getElem_toArray, List.getElem_cons_zero, List.getElem_cons_succ]
      have HA3 := Lib.hid h22c
      clear h22c
      generalize wb.setRow gb (cellsB x).toArray = wc at h22a h22b HA3 ⊢
      refine all_one (i := 23) (by kernel_rfl) rfl (by rfl) (fun K hK => ?_)
      refine wp_store_row 37 (.tmp 11) (.tmp 54) (by rfl) w2.heap.size (cellsB y).toArray (by rfl) (by rfl) 37 (u8s (List.replicate 32 0)) h22b.out (by rw [List.size_toArray, cellsP1_len HyI.out]; kernel_rfl) (show (u8s (List.replicate 32 0)).size = (cellsB y).toArray.size by rw [u8s_size, List.size_toArray, cellsP1_len HyI.out]; rfl) (u8s_one y) ?_
      have hg23 : wc.grownBy (wc.setRow w2.heap.size (cellsB y).toArray) (some w2.heap.size) := only_setRow (World.grownBy.refl wc _) (Or.inl rfl) _
      have h23a := Lib.hid (h22b.out.row (cellsB y).toArray)
      have h23b := Lib.hid (h22a.out.stands (hg23.block gb h22a.out.lt (fun e => by injection e with e; have := HLT.out; omega)))
      have h23c := below_row HA3.out (show w2.heap.size ≤ w2.heap.size by have := HLT.out; omega) (cellsB y).toArray
      refine hK _ _ h23c ?_
      clear hK K hg23
      try simp only [Act.put, List.getElem_toArray, List.getElem_cons_zero, List.getElem_cons_succ]
      have HA4 := Lib.hid h23c
      clear h23c
      generalize wc.setRow w2.heap.size (cellsB y).toArray = wd at h23a h23b HA4 ⊢
      refine wpAnyH_done (by kernel_rfl) ?_ _
      go_wp2_with fail
      go_meet
      exact ⟨gb, w2.heap.size, x, y, rfl, rfl, Lib.hid ⟨HA4.out, h23b.out, h23a.out, HxM.out, HyM.out⟩⟩
end Go.Proofs.YtlodalppnglclaaDoor
