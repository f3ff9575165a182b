/- The law's example: alive. -/
import Derived.Test.YtgcgomdhdgjpdaaGreatDoorMRp28
import Derived.Test.YtgcgomdhdgjpdaaGreatDoorMRp23
import Derived.Test.YtgcgomdhdgjpdaaGreatDoorMIters
import Derived.Test.YtgcgomdhdgjpdaaGreatDoorMEn11s
import Derived.Test.YtgcgomdhdgjpdaaGreatDoorMEn17s
import Derived.Test.YtgcgomdhdgjpdaaGreatDoorMZers
import Derived.Test.YtgcgomdhdgjpdaaGreatDoorMEn19s
import Derived.Test.YtgcgomdhdgjpdaaGreatDoorMUpto
namespace Go.Proofs.YtgcgomdhdgjpdaaGreatDoor
open Go Go.RowKit Go.Maps
set_option maxRecDepth 100000 in
set_option maxHeartbeats 4000000 in
theorem ralive_any (a : Nat → Addr) (w : World) (ht : Tabs w) (hS : RSents w a) (hm : MaxAt w) :
  Calls Tryz.prog 5 #[] w fun e w' => e = .returned (.bool true) ∧ Below w.heap.size w w' := by
 have CN := new_any w
 have HT := Lib.hid ht
 have HS := Lib.hid hS
 have HM := Lib.hid hm
 clear ht hS hm
 go_enter Tryz.func5, Tryz.ntmps5
 go_wp2_with (go_at_call 7; refine pause ?_)
 unfold Paused
 refine CN.mono ?_
 rintro e w1 ⟨rfl, hr1, hb1⟩
 have HX1 := Lib.hid (RpX.fresh hr1)
 have HB1 := Lib.hid hb1
 have CB := blob_any w1 (HT.out.below hb1 (Nat.le_refl _))
 clear CN hr1 hb1
 go_wp2_with (go_at_call 19; refine pause ?_)
 unfold Paused
 refine CB.mono ?_
 unfold BlPost
 rintro e w2 ⟨cs, U, cu, O, co, ts, rfl, he, hb2⟩
 have HX2 := Lib.hid (HX1.out.below hb2)
 have HB2 := Lib.hid (below_next HB1.out hb2)
 have CA := apply_any w.heap.size none 0 (.map none) (.map none) 0 0 [] (fun _ => none) Rp.empty Rp.blE cs U O cu co ts a w2 HX2.out he (by show 1 ≤ 1000; omega) (by simp) (HT.out.below HB2.out (Nat.le_refl _)) (HS.out.at_ HB2.out) (HM.out.below HB2.out (Nat.le_refl _))
 unfold ApPost at CA
 rw [Rp.bl_step] at CA
 clear CB he hb2 HX1 HB1
 clear w1
 go_wp2_with (go_at_call 10; refine pause ?_)
 unfold Paused
 refine CA.mono ?_
 rintro e w3 ⟨rfl, ⟨A', c', rf', ob', N', M', js', O', hx3⟩, hk3⟩
 have hn : Rp.next Rp.empty Rp.blE = Rp.put Rp.empty Rp.blE := by unfold Rp.next; rw [if_pos Rp.bl_step]
 rw [hn] at hx3
 have hl : js'.length = 1 := by rw [hx3.len, Rp.put_js]; rfl
 have HX3 := Lib.hid hx3
 have HB3 : Hid (Below w.heap.size w w3) := Lib.hid (by
  have h2 := HX2.out
  have h := (hk3.below (B := w.heap.size) (fun j hj => by
   rcases hj with hj | hj
   ·omega
   ·cases hj) (Nat.le_of_lt h2.rp.lt))
  exact ⟨h.os.trans HB2.out.os, h.tape.trans HB2.out.tape, h.output.trans HB2.out.output, Nat.le_trans HB2.out.size h.size, fun k hk => (h.block k hk).trans (HB2.out.block k hk)⟩)
 have HL := Lib.hid hl
 have e1 : errV a 0 = .nilIface := rfl
 rw [e1]
 clear CA hx3 hk3 hl hn e1 HX2 HB2
 clear w2
 have CR := refs_any w.heap.size (.slice A' js'.length c') rf' ob' (Rp.lastsOf (Rp.put Rp.empty Rp.blE).js) N' (Rp.put Rp.empty Rp.blE).refs w3 HX3.out.rp HX3.out.refs (fun i x h => (HX3.out.good.refs i x h).2.1) (by have := HX3.out.lim; have := HL.out; omega)
 unfold RfPost at CR
 go_wp2_with (go_at_call 12; refine pause ?_)
 unfold Paused
 refine CR.mono ?_
 rintro e w4 ⟨v4, ss, rfl, ho4, _, hc4, hb4⟩
 obtain ⟨A4, c4, rfl⟩ := own_slice ho4
 have h1 : ss.length = 1 := by
  have := Rp.cnt_eq hc4
  rw [← this]
  have e1 : (Rp.put Rp.empty Rp.blE).refs = Rp.behindR Rp.empty.refs Rp.blE.ups := by unfold Rp.put; rw [if_pos (show Rp.blE.answer = 0 from rfl)]
  rw [e1]
  exact Rp.bl_cR
 rw [h1]
 have HX4 := Lib.hid (HX3.out.below hb4)
 have HB4 := Lib.hid (below_next HB3.out hb4)
 clear CR ho4 hc4 h1 hb4 HX3 HB3
 clear w3
 have CO := objs_any w.heap.size A' c' rf' ob' N' M' js' O' (Rp.put Rp.empty Rp.blE) w4 HX4.out (by have := HL.out; omega)
 unfold ObsPost at CO
 go_wp2_with (go_at_call 14; refine pause ?_)
 unfold Paused
 refine CO.mono ?_
 rintro e w5 ⟨A5, c5, ts5, rfl, _, _, hc5, hb5⟩
 have h1 : ts5.length = 1 := by
  have := Rp.cnt_eq hc5
  rw [← this]
  have e1 : (Rp.put Rp.empty Rp.blE).objs = Rp.behindO Rp.empty.objs Rp.blE.objs := by unfold Rp.put; rw [if_pos (show Rp.blE.answer = 0 from rfl)]
  rw [e1]
  exact Rp.bl_cO
 rw [h1]
 have HX5 := Lib.hid (HX4.out.below hb5)
 have HB5 := Lib.hid (below_next HB4.out hb5)
 have CS := seq_any w.heap.size A' js'.length c' (Rp.lastsOf (Rp.put Rp.empty Rp.blE).js) rf' ob' w5 HX5.out.rp
 rw [HL.out] at CS
 clear CO hc5 h1 hb5 HX4 HB4
 clear w4
 go_wp2_with (go_at_call 9; refine pause ?_)
 unfold Paused
 refine CS.mono ?_
 rintro e w6 ⟨rfl, rfl⟩
 clear CS
 go_wp2
 go_ret
 exact ⟨rfl, HB5.out⟩
end Go.Proofs.YtgcgomdhdgjpdaaGreatDoor
/- The law's entries as the document has them: cartagelaw11.Entries. -/
namespace Go.Proofs.YtgcgomdhdgjpdaaGreatDoor
open Go Go.RowKit
theorem rent_info : (Tryz.prog.info? 58).map (fun i => (i.zero, i.size, i.bytes)) = some (some (.agg zJ), 5, 72) := by kernel_rfl
def EsPost (w : World) (n : Nat) (js : List Jt) (e : Ending) (w' : World) : Prop :=
 ∃ v β, e = .returned (.tuple #[v, .bool β]) ∧ (β = true → n ≤ 12 ∧ ∀ j ∈ js, En.few j.e = true) ∧ Below w.heap.size w w'
set_option maxRecDepth 100000 in
set_option maxHeartbeats 4000000 in
theorem ents_any (A : Option Addr) (n c : Nat) (js : List Jt) (w : World) (h : JrO w A n js) (hn : n * 72 ≤ 140737488355328) :
  Calls Tryz.prog 6 #[.slice A n c] w (EsPost w n js) := by
 have H := Lib.hid h
 have HN := Lib.hid hn
 obtain ⟨ip, hip, hpz, hps, hpb⟩ := info_parts rent_info
 have HIP : Hid (_ ∧ _ ∧ _ ∧ _) := Lib.hid ⟨hip, hpz, hps, hpb⟩
 clear hip hpz hps hpb h hn
 go_enter Tryz.func6, Tryz.ntmps6
 go_wp2_with fail
 have HO0 := Lib.hid (own_none w w.heap.size 58 5 (Nat.le_refl _))
 have HB0 : Hid (Below w.heap.size w (w.alloc (.cells #[] 58))) := Lib.hid ((Below.refl _ _).alloc (Nat.le_refl _) _)
 go_loopw [4, 5, 13] (fun v mm i wr => ∃ k m : Nat, k ≤ n ∧ i = .int .i64 k ∧ mm = .int .i64 m ∧ m ≤ 70 ∧ ∃ xs, Hid (wr.ownsRow w.heap.size 58 5 v k xs ∧ Below w.heap.size w wr ∧ ∀ j ∈ js.take k, En.few j.e = true)) (fun _ _ i _ => n - (intOf i).toNat)
 case atStart => exact ⟨0, 0, Nat.zero_le _, rfl, rfl, by omega, [], Lib.hid ⟨HO0.out, HB0.out, fun j hj => by simp at hj⟩⟩
 case round =>
  obtain ⟨k, m, hk, rfl, rfl, hm, xs, HW⟩ := hrel
  clear HO0 HB0
  obtain ⟨Av, cv, hv⟩ := own_slice HW.out.1
  subst hv
  rcases Nat.lt_or_ge k n with hlt | hge
  ·have hkl : k < js.length := by rw [← H.out.len]; exact hlt
   have i1 : ((k : Nat) : Int) < n := by omega
   have i2 : (0 : Int) ≤ ((k : Nat) : Int) := by omega
   have i3 : ((k : Nat) : Int) < 2000000000000 := by have := HN.out; omega
   obtain ⟨b, o, rfl, hbl, hrow⟩ := H.out.row (by omega)
   have hrg : wr.rangeAt b (o + k * 5) js[k].cs.toList := fun i v hi => (HW.out.2.1.cell (p := ⟨b, o + k * 5 + i, none⟩) hbl).trans (hrow k js[k] (List.getElem?_eq_getElem hkl) i v hi)
   have hok := H.out.ok js[k] (List.getElem_mem hkl)
   have HTK : Hid (En.few js[k].e = true → ∀ j ∈ js.take (k + 1), En.few j.e = true) := Lib.hid (fun h j hj => by
    rw [List.take_succ_eq_append_getElem hkl] at hj
    rcases List.mem_append.1 hj with hj | hj
    ·exact HW.out.2.2 j hj
    ·rw [List.mem_singleton.1 hj]; exact h)
   generalize js[k] = j at hrg hok HTK
   have h5 := hok.1.five
   have HRG := Lib.hid hrg
   have HOK := Lib.hid hok.1
   have H5 := Lib.hid h5
   have HLT : Hid (k + 1 ≤ n) := Lib.hid hlt
   clear hkl hbl hrow hrg hok h5 hk hlt
   go_wp2_with (with_reducible (show wpList _ _ _ (Oper.mk _ (Op.load 32 _) _ _ _ _ :: _) _ _); refine pause ?_)
   unfold Paused
   refine wpList_mid_w (by rfl) 32 (.tmp 15) (by rfl) b (o + k * 5) (by rfl) j.cs.toList _ HRG.out Tryz.underlying32 (by rfl) (by rw [Array.length_toList]; exact ent_load H5.out) ?_
   clear HRG
   go_wp2_with (with_reducible (show wpList _ _ _ (Oper.mk _ (Op.store 32 _ _) _ _ _ _ :: _) _ _); refine pause ?_)
   unfold Paused
   change wpList _ _ _ _ _ (wr.alloc (.cells zJ 32))
   refine wpList_store_row (by rfl) 32 (.tmp 7) (.tmp 16) (by rfl) wr.heap.size j.cs (by rfl) (by rfl) 32 zJ (Blk.new wr _ _) (ent_load H5.out) (by rw [H5.out]; rfl) HOK.out.oneJ ?_
   have b6 : Below wr.heap.size wr ((wr.alloc (.cells zJ 32)).setRow wr.heap.size j.cs) := below_row ((Below.refl _ _).alloc (Nat.le_refl _) _) (Nat.le_refl _) _
   have HI6 : Hid (Blk ((wr.alloc (.cells zJ 32)).setRow wr.heap.size j.cs) wr.heap.size 32 j.cs) := Lib.hid ((Blk.new wr _ _).row _)
   have HW6 : Hid (((wr.alloc (.cells zJ 32)).setRow wr.heap.size j.cs).ownsRow w.heap.size 58 5 (.slice Av k cv) k xs ∧ Below w.heap.size w ((wr.alloc (.cells zJ 32)).setRow wr.heap.size j.cs)) := Lib.hid ⟨HW.out.1.kept (only_of_below b6 none) (by cases hv : (Value.slice Av k cv).ownBlock with | none => exact Or.inl rfl | some g => exact Or.inr (by simp)), below_next HW.out.2.1 b6⟩
   clear b6 HW
   generalize (wr.alloc (.cells zJ 32)).setRow wr.heap.size j.cs = w6 at HI6 HW6 ⊢
   generalize wr.heap.size = g6 at HI6 ⊢
   clear wr
   simp only [Act.put]
   have CE := eof_any j.e j.cs j.U j.O j.cu j.co j.ts w6 (HOK.out.below HW6.out.2)
   unfold EOfPost at CE
   go_wp2_with (with_reducible (show wpList _ _ _ (Oper.mk _ (Op.load 32 _) _ _ _ _ :: _) _ _); refine pause ?_)
   unfold Paused
   refine wpList_row_w (by rfl) 32 (.tmp 7) (by rfl) g6 (by rfl) 32 j.cs _ HI6.out Tryz.underlying32 (by rfl) (ent_load H5.out) ?_
   go_wp2_with (go_at_call 20; refine pause ?_)
   unfold Paused
   refine CE.mono ?_
   rintro e w7 ⟨hb7, hyes, hno⟩
   have HI7 := Lib.hid (HI6.out.below hb7 HI6.out.lt)
   have HW7 : Hid (w7.ownsRow w.heap.size 58 5 (.slice Av k cv) k xs ∧ Below w.heap.size w w7) := Lib.hid ⟨HW6.out.1.kept (only_of_below hb7 none) (by cases hv : (Value.slice Av k cv).ownBlock with | none => exact Or.inl rfl | some g => exact Or.inr (by simp)), below_next HW6.out.2 hb7⟩
   have hc4 : w7.cell? ⟨g6, 4, none⟩ = some (.slice j.O j.e.objs.length j.co) := by rw [HI7.out.cell, HOK.out.cells]; rfl
   clear CE HI6 HW6 hb7
   clear w6
   cases hfew : En.few j.e with
   | false =>
    obtain ⟨cs7, rfl, h57, h17⟩ := hno hfew
    clear hyes hno hfew
    go_wp2_with (with_reducible (show wpList _ _ _ (Oper.mk _ (Op.store 58 _ _) _ _ _ _ :: _) _ _); refine pause ?_)
    unfold Paused
    change wpList _ _ _ _ _ (w7.alloc (.cells zJ 58))
    refine wpList_store_row (by rfl) 58 (.tmp 8) (.tmp 20) (by rfl) w7.heap.size cs7 (by rfl) (by rfl) 58 zJ (Blk.new w7 _ _) (rent5_load h57) (by rw [h57]; rfl) h17 ?_
    have b8 : Below w7.heap.size w7 ((w7.alloc (.cells zJ 58)).setRow w7.heap.size cs7) := below_row ((Below.refl _ _).alloc (Nat.le_refl _) _) (Nat.le_refl _) _
    have hc4' : ((w7.alloc (.cells zJ 58)).setRow w7.heap.size cs7).cell? ⟨g6, 4, none⟩ = some (.slice j.O j.e.objs.length j.co) := (b8.cell (p := ⟨g6, 4, none⟩) HI7.out.lt).trans hc4
    have HI8 : Hid (Blk ((w7.alloc (.cells zJ 58)).setRow w7.heap.size cs7) w7.heap.size 58 cs7) := Lib.hid ((Blk.new w7 _ _).row _)
    have HW8 : Hid (((w7.alloc (.cells zJ 58)).setRow w7.heap.size cs7).ownsRow w.heap.size 58 5 (.slice Av k cv) k xs ∧ Below w.heap.size w ((w7.alloc (.cells zJ 58)).setRow w7.heap.size cs7)) := Lib.hid ⟨HW7.out.1.kept (only_of_below b8 none) (by cases hv : (Value.slice Av k cv).ownBlock with | none => exact Or.inl rfl | some g => exact Or.inr (by simp)), below_next HW7.out.2 b8⟩
    clear hc4 b8 HW7 HI7
    generalize (w7.alloc (.cells zJ 58)).setRow w7.heap.size cs7 = w8 at HI8 HW8 hc4' ⊢
    generalize w7.heap.size = g8 at HI8 ⊢
    clear w7
    simp only [Act.put]
    have HF : Hid (EsPost w n js (.returned (.tuple #[.slice none 0 0, .bool false])) w8) := Lib.hid ⟨_, _, rfl, fun h => (by cases h), HW8.out.2⟩
    clear HI8 HW8
    go_wp2
    go_ret2
    exact HF.out
   | true =>
    obtain ⟨U', cu', rfl, hE⟩ := hyes hfew
    have HTK2 := Lib.hid (HTK.out hfew)
    have hno70 : j.e.objs.length ≤ 70 := by
     unfold En.few En.long at hfew
     simp only [Bool.and_eq_true, Bool.not_eq_true', Bool.or_eq_false_iff, decide_eq_false_iff_not, decide_eq_true_eq] at hfew
     omega
    have h5r : (ecs j.e (.slice U' j.e.ups.length cu') j.O j.co).size = 5 := rfl
    have H5R := Lib.hid h5r
    have H1R : Hid ((ecs j.e (.slice U' j.e.ups.length cu') j.O j.co).all (·.oneCell') = true) := Lib.hid (by simp [ecs, Value.oneCell'])
    obtain ⟨cs7, hcs7⟩ : ∃ cs7, cs7 = ecs j.e (.slice U' j.e.ups.length cu') j.O j.co := ⟨_, rfl⟩
    rw [← hcs7] at H5R H1R ⊢
    have HNO := Lib.hid hno70
    clear hno hyes hfew hno70 h5r hcs7 hE
    go_wp2_with (with_reducible (show wpList _ _ _ (Oper.mk _ (Op.store 58 _ _) _ _ _ _ :: _) _ _); refine pause ?_)
    unfold Paused
    change wpList _ _ _ _ _ (w7.alloc (.cells zJ 58))
    refine wpList_store_row (by rfl) 58 (.tmp 8) (.tmp 20) (by rfl) w7.heap.size cs7 (by rfl) (by rfl) 58 zJ (Blk.new w7 _ _) (rent5_load H5R.out) (by rw [H5R.out]; rfl) H1R.out ?_
    have b8 : Below w7.heap.size w7 ((w7.alloc (.cells zJ 58)).setRow w7.heap.size cs7) := below_row ((Below.refl _ _).alloc (Nat.le_refl _) _) (Nat.le_refl _) _
    have hc4' : ((w7.alloc (.cells zJ 58)).setRow w7.heap.size cs7).cell? ⟨g6, 4, none⟩ = some (.slice j.O j.e.objs.length j.co) := (b8.cell (p := ⟨g6, 4, none⟩) HI7.out.lt).trans hc4
    have HI8 : Hid (Blk ((w7.alloc (.cells zJ 58)).setRow w7.heap.size cs7) w7.heap.size 58 cs7) := Lib.hid ((Blk.new w7 _ _).row _)
    have HW8 : Hid (((w7.alloc (.cells zJ 58)).setRow w7.heap.size cs7).ownsRow w.heap.size 58 5 (.slice Av k cv) k xs ∧ Below w.heap.size w ((w7.alloc (.cells zJ 58)).setRow w7.heap.size cs7)) := Lib.hid ⟨HW7.out.1.kept (only_of_below b8 none) (by cases hv : (Value.slice Av k cv).ownBlock with | none => exact Or.inl rfl | some g => exact Or.inr (by simp)), below_next HW7.out.2 b8⟩
    clear hc4 b8 HW7 HI7
    generalize (w7.alloc (.cells zJ 58)).setRow w7.heap.size cs7 = w8 at HI8 HW8 hc4' ⊢
    generalize w7.heap.size = g8 at HI8 ⊢
    clear w7
    simp only [Act.put]
    have hwr : wrap64 ((m : Int) + (j.e.objs.length : Nat)) = ((m + j.e.objs.length : Nat) : Int) := by
     have := HNO.out
     rw [IntWalk.wrap64_in _ (by omega)]; omega
    obtain ⟨no, hno⟩ : ∃ no, no = j.e.objs.length := ⟨_, rfl⟩
    rw [← hno] at hwr hc4'
    obtain ⟨q, hq⟩ : ∃ q, q = m + no := ⟨_, rfl⟩
    rw [← hq] at hwr
    clear hno HNO hm hq
    by_cases h70 : q ≤ 70
    ·have i4 : ¬ (70 : Int) < (q : Int) := by omega
     have HM : Hid (q ≤ 70) := Lib.hid h70
     clear h70
     go_wp2_with (with_reducible (show wpList _ _ _ (Oper.mk _ (Op.load 58 _) _ _ _ _ :: _) _ _); refine pause ?_)
     unfold Paused
     refine wpList_row_w (by rfl) 58 (.tmp 8) (by rfl) g8 (by rfl) 58 cs7 _ HI8.out Tryz.underlying58 (by rfl) (rent5_load H5R.out) ?_
     clear HI8
     go_wp2_with (with_reducible (show wpList _ _ _ (Oper.mk _ (Op.buildSlice _ _ _) _ _ _ _ :: _) _ _); refine pause ?_)
     unfold Paused
     refine wpList_buildSliceK (by rfl) 24 58 1 _ (by rfl) cs7.toList.toArray ip (.agg zJ) Tryz.underlying24 HIP.out.1 HIP.out.2.1 (by rw [HIP.out.2.2.1]; decide) (by rw [HIP.out.2.2.1]; decide) [(0, .agg cs7.toList.toArray)] (by kernel_rfl) (by rw [HIP.out.2.2.1]; exact fill_one 5 (Value.agg zJ).cells cs7.toList (by rw [Array.length_toList]; exact H5R.out) (by rfl)) ?_
     try simp only [Act.put, List.setIfInBounds_toArray, List.set_cons_zero, List.set_cons_succ]
     go_wp2_with (with_reducible (show wpList _ _ _ (Oper.mk _ (Op.call (Call.mk (Callee.builtin Builtin.append) _ _)) _ _ _ _ :: _) _ _); refine pause ?_)
     unfold Paused
     have b6 : Below w8.heap.size w8 (w8.alloc (.cells cs7.toList.toArray 58)) := (Below.refl _ _).alloc (Nat.le_refl _) _
     have HX6 := Lib.hid (Blk.new w8 58 cs7.toList.toArray)
     have HW6 : Hid ((w8.alloc (.cells cs7.toList.toArray 58)).ownsRow w.heap.size 58 5 (.slice Av k cv) k xs ∧ Below w.heap.size w (w8.alloc (.cells cs7.toList.toArray 58))) := Lib.hid ⟨HW8.out.1.kept (only_of_below b6 none) (by cases hv : (Value.slice Av k cv).ownBlock with | none => exact Or.inl rfl | some g => exact Or.inr (by simp)), below_next HW8.out.2 b6⟩
     clear b6 HW8
     generalize w8.alloc (.cells cs7.toList.toArray 58) = w6 at HX6 HW6 ⊢
     generalize w8.heap.size = g6 at HX6 ⊢
     clear hc4' w8
     refine wpList_append_own w6 (by rfl) (.tmp 33) (.tmp 35) 24 (by rfl) w.heap.size 58 ip (.agg zJ) 5 72 Tryz.underlying24 HIP.out.1 HIP.out.2.1 HIP.out.2.2.1 HIP.out.2.2.2 (by rfl) (by decide) (.slice Av k cv) k xs (by rfl) HW6.out.1 ⟨g6, 0, none⟩ 1 1 cs7.toList (by rfl) (by rw [Array.length_toList]; exact H5R.out) (fun j u hj => by rw [Addr.add_mid, Nat.zero_add, HX6.out.cell j]; simpa using hj) (fun v hv => by
      have h1 := H1R.out
      rw [Array.all_eq_true_iff_forall_mem] at h1
      exact h1 v (by simpa using hv)) (by have := HLT.out; have := HN.out; unfold maxLen; omega) (by have := HLT.out; have := HN.out; omega) HW6.out.2.size ?_
     intro v7 w7 ho hg _
     have HW7 : Hid (w7.ownsRow w.heap.size 58 5 v7 (k + 1) (xs ++ cs7.toList) ∧ Below w.heap.size w w7 ∧ ∀ j ∈ js.take (k + 1), En.few j.e = true) := Lib.hid ⟨ho, ⟨hg.os.trans HW6.out.2.os, hg.tape.trans HW6.out.2.tape, hg.output.trans HW6.out.2.output, Nat.le_trans HW6.out.2.size hg.size, fun b hb => (hg.block b (Nat.lt_of_lt_of_le hb HW6.out.2.size) (fun e => by have := (HW6.out.1.lt b e.symm).1; omega)).trans (HW6.out.2.block b hb)⟩, HTK2.out⟩
     clear ho hg HW6 HX6
     try simp only [Act.put, List.setIfInBounds_toArray, List.set_cons_zero, List.set_cons_succ]
     go_wp2
     go_roundw
     case rel => exact ⟨k + 1, q, HLT.out, by go_num, rfl, HM.out, _, HW7⟩
     case measure => have h5 := HLT.out; simp [intOf]; omega
    ·have i4 : (70 : Int) < (q : Int) := by omega
     have HF : Hid (EsPost w n js (.returned (.tuple #[.slice none 0 0, .bool false])) w8) := Lib.hid ⟨_, _, rfl, fun h => (by cases h), HW8.out.2⟩
     clear h70 HI8 HW8
     go_wp2
     go_ret2
     exact HF.out
  ·obtain rfl : k = n := by omega
   have i1 : ¬ ((k : Nat) : Int) < k := by omega
   have HF : Hid (∀ β : Bool, (β = true → k ≤ 12) → EsPost w k js (.returned (.tuple #[.slice Av k cv, .bool β])) wr) := Lib.hid (fun β hb => ⟨_, _, rfl, fun h => ⟨hb h, fun j hj => HW.out.2.2 j (by rw [H.out.len, List.take_length]; exact hj)⟩, HW.out.2.1⟩)
   clear HW hk hge hm
   by_cases h12 : k ≤ 12
   ·have i4 : ((k : Nat) : Int) ≤ 12 := by omega
    have HF2 := Lib.hid (HF.out true (fun _ => h12))
    clear h12
    go_wp2
    go_ret2
    exact HF2.out
   ·have i4 : ¬ ((k : Nat) : Int) ≤ 12 := by omega
    have HF2 := Lib.hid (HF.out false (fun h => by cases h))
    clear h12
    go_wp2
    go_ret2
    exact HF2.out
end Go.Proofs.YtgcgomdhdgjpdaaGreatDoor
/- Two repositories compared. -/
namespace Go.Proofs.YtgcgomdhdgjpdaaGreatDoor
open Go Go.RowKit Go.Maps
set_option maxRecDepth 100000 in
set_option maxHeartbeats 4000000 in
theorem same_any (ra rb : Nat) (A B : Option Addr) (n m c d : Nat) (ls ls2 : List Nat) (rf ob rf2 ob2 : Value) (ts us : List Jt) (w : World) (h1 : RpM w ra (.slice A n c) ls rf ob) (h2 : RpM w rb (.slice B m d) ls2 rf2 ob2) (ht : JrT w A n ts) (hu : JrT w B m us) (hn : n ≤ 100000) :
  Calls Tryz.prog 11 #[.pointer (some ⟨ra, 0, none⟩), .pointer (some ⟨rb, 0, none⟩)] w fun e w' => e = .returned (.bool (eqv (ts.map (·.e)) (us.map (·.e)))) ∧ Below w.heap.size w w' := by
 have bd : Below w.heap.size w w.drew := below_drewN (Below.refl _ _) 1
 have CE := eqJ_any A B n m c d ts us w.drew (ht.below bd) (hu.below bd) hn
 have HL1 := Lib.hid h1.lt
 have HL2 := Lib.hid h2.lt
 have HSX : Hid (w.drew.cell? ⟨ra, 0, none⟩ = some (.slice A n c) ∧ w.drew.cell? ⟨rb, 0, none⟩ = some (.slice B m d)) := Lib.hid ⟨(bd.cell (p := ⟨ra, 0, none⟩) h1.lt).trans h1.at0, (bd.cell (p := ⟨rb, 0, none⟩) h2.lt).trans h2.at0⟩
 have HBD := Lib.hid bd
 clear ht hu hn h1 h2 bd
 go_enter Tryz.func11, Tryz.ntmps11
 go_wp2_with fail
 refine wp_region_upto (S := fun w' => (w'.cell? ⟨ra, 0, none⟩ = some (.slice A n c) ∧ w'.cell? ⟨rb, 0, none⟩ = some (.slice B m d))) (b := 8) (by kernel_rfl) ?_
 change Upto _ _ _ _ _ _ _ _ _ w.drew
 refine Upto.takeY (i := 0) (v := ?_) rfl (by kernel_rfl) (by kernel_rfl) (by kernel_rfl) (by kernel_rfl) (fun _ _ _ h => h) (Or.inl ⟨by rfl, ?_⟩) (fun _ => HSX.out) ?_
 rotate_left
 ·intro w' _; go_simp; with_reducible rfl
 try simp only [Act.put, List.getElem_toArray, List.getElem_cons_zero, List.setIfInBounds_toArray, List.set_cons_zero, List.set_cons_succ]
 refine Upto.takeY (i := 1) (v := ?_) rfl (by kernel_rfl) (by kernel_rfl) (by kernel_rfl) (by kernel_rfl) (fun _ _ _ h => h) (Or.inl ⟨by rfl, ?_⟩) (fun _ => HSX.out) ?_
 rotate_left
 ·intro w' _; go_simp; with_reducible rfl
 try simp only [Act.put, List.getElem_toArray, List.getElem_cons_zero, List.getElem_cons_succ, List.setIfInBounds_toArray, List.set_cons_zero, List.set_cons_succ]
 refine Upto.takeY (i := 2) (v := ?_) rfl (by kernel_rfl) (by kernel_rfl) (by kernel_rfl) (by kernel_rfl) (fun _ _ _ h => h) (Or.inl ⟨by rfl, ?_⟩) (fun _ => HSX.out) ?_
 rotate_left
 ·intro w' _; go_simp; with_reducible rfl
 try simp only [Act.put, List.getElem_toArray, List.getElem_cons_zero, List.getElem_cons_succ, List.setIfInBounds_toArray, List.set_cons_zero, List.set_cons_succ]
 refine Upto.take (i := 3) (v := ?_) rfl (by kernel_rfl) (by kernel_rfl) (by kernel_rfl) (by kernel_rfl) (fun _ _ _ h => h) (Or.inl ⟨by rfl, ?_⟩) HSX.out ?_
 rotate_left
 ·intro w' hS; have h0 := hS.1; go_simp; with_reducible rfl
 try simp only [Act.put, List.getElem_toArray, List.getElem_cons_zero, List.getElem_cons_succ, List.setIfInBounds_toArray, List.set_cons_zero, List.set_cons_succ]
 refine Upto.takeY (i := 4) (v := ?_) rfl (by kernel_rfl) (by kernel_rfl) (by kernel_rfl) (by kernel_rfl) (fun _ _ _ h => h) (Or.inl ⟨by rfl, ?_⟩) (fun _ => HSX.out) ?_
 rotate_left
 ·intro w' _; go_simp; with_reducible rfl
 try simp only [Act.put, List.getElem_toArray, List.getElem_cons_zero, List.getElem_cons_succ, List.setIfInBounds_toArray, List.set_cons_zero, List.set_cons_succ]
 refine Upto.takeY (i := 5) (v := ?_) rfl (by kernel_rfl) (by kernel_rfl) (by kernel_rfl) (by kernel_rfl) (fun _ _ _ h => h) (Or.inl ⟨by rfl, ?_⟩) (fun _ => HSX.out) ?_
 rotate_left
 ·intro w' _; go_simp; with_reducible rfl
 try simp only [Act.put, List.getElem_toArray, List.getElem_cons_zero, List.getElem_cons_succ, List.setIfInBounds_toArray, List.set_cons_zero, List.set_cons_succ]
 refine Upto.takeY (i := 6) (v := ?_) rfl (by kernel_rfl) (by kernel_rfl) (by kernel_rfl) (by kernel_rfl) (fun _ _ _ h => h) (Or.inl ⟨by rfl, ?_⟩) (fun _ => HSX.out) ?_
 rotate_left
 ·intro w' _; go_simp; with_reducible rfl
 try simp only [Act.put, List.getElem_toArray, List.getElem_cons_zero, List.getElem_cons_succ, List.setIfInBounds_toArray, List.set_cons_zero, List.set_cons_succ]
 refine Upto.take (i := 7) (v := ?_) rfl (by kernel_rfl) (by kernel_rfl) (by kernel_rfl) (by kernel_rfl) (fun _ _ _ h => h) (Or.inl ⟨by rfl, ?_⟩) HSX.out ?_
 rotate_left
 ·intro w' hS; have h0 := hS.2; go_simp; with_reducible rfl
 try simp only [Act.put, List.getElem_toArray, List.getElem_cons_zero, List.getElem_cons_succ, List.setIfInBounds_toArray, List.set_cons_zero, List.set_cons_succ]
 refine Upto.one (i := 8) (by kernel_rfl) rfl (by rfl) (fun K hK => ?_)
 go_simp
 refine CE.mono ?_
 rintro e w7 ⟨rfl, hb7⟩
 have HS7 : Hid (w7.cell? ⟨ra, 0, none⟩ = some (.slice A n c) ∧ w7.cell? ⟨rb, 0, none⟩ = some (.slice B m d)) := Lib.hid ⟨(hb7.cell (p := ⟨ra, 0, none⟩) HL1.out).trans HSX.out.1, (hb7.cell (p := ⟨rb, 0, none⟩) HL2.out).trans HSX.out.2⟩
 have HB7 := Lib.hid (below_next HBD.out hb7)
 clear hb7 CE
 refine hK _ _ (fun _ _ => HS7.out) ?_
 clear HSX hK
 have HSX := HS7
 try simp only [Act.put, List.getElem_toArray, List.getElem_cons_zero, List.getElem_cons_succ, List.setIfInBounds_toArray, List.set_cons_zero, List.set_cons_succ]
 refine Upto.takeY (i := 9) (v := ?_) rfl (by kernel_rfl) (by kernel_rfl) (by kernel_rfl) (by kernel_rfl) (fun _ _ _ h => h) (Or.inl ⟨by rfl, ?_⟩) (fun _ => HSX.out) ?_
 rotate_left
 ·intro w' _; go_simp; with_reducible rfl
 try simp only [Act.put, List.getElem_toArray, List.getElem_cons_zero, List.getElem_cons_succ, List.setIfInBounds_toArray, List.set_cons_zero, List.set_cons_succ]
 refine Upto.done (by kernel_rfl) ?_ _
 go_wp2
 go_ret
 exact ⟨rfl, HB7.out⟩
end Go.Proofs.YtgcgomdhdgjpdaaGreatDoor
