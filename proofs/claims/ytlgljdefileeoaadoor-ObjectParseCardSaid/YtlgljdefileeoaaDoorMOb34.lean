/- An object that is not too large, as the document's (cartagelaw06.Of answers true). -/
import Derived.Test.YtlgljdefileeoaaDoorMOb12
namespace Go.Proofs.YtlgljdefileeoaaDoor
open Go Go.RowKit
def OfPost2 (o : Ob) (w : World) (e : Ending) (w' : World) : Prop :=
  Below w.heap.size w w' ∧ ∃ cs, e = .returned (.tuple #[.agg cs, .bool true]) ∧ cs.size = 36 ∧ cs.all (·.oneCell') = true ∧ ∃ T tc E ec P pc, ObC w' o cs T tc E ec P pc
set_option maxRecDepth 100000 in
set_option maxHeartbeats 4000000 in
theorem of_small (o : Ob) (cs : Array Value) (T E P : Option Addr) (tc ec pc : Nat) (w : World) (h : ObC w o cs T tc E ec P pc) (hf : o.Fit) (hsm : o.small) :
    Calls Tryd.prog 11 #[.agg cs] w (OfPost2 o w) := by
  have HSM := Lib.hid hsm
  clear hsm
  obtain ⟨w2, hw2⟩ : ∃ w2, w2 = w.alloc (.cells cs 30) := ⟨_, rfl⟩
  have X1 : Box w w2 w.heap.size 30 cs := hw2 ▸ Box.new w _ cs
  have HC := Lib.hid h
  have K0 := Lib.hid h.c0
  have K1 := Lib.hid h.c1
  have K2 := Lib.hid h.c2
  have K3 := Lib.hid (h.c35 hf)
  have HX1 := Lib.hid X1
  have hg1 : w2.heap.size = w.heap.size + 1 := by rw [hw2]; simp
  have HG1 := Lib.hid hg1
  have HM : ∀ {wb : World}, Blk wb w.heap.size 30 cs → wb.rangeAt w.heap.size 3 (cellsB o.target) := fun hb => h.mid hb
  have HMI := Lib.hid (fun (wb : World) (hb : Blk wb w.heap.size 30 cs) => h.mid hb)
  have HT := Lib.hid hf.target
  have n1 : (Tryd.prog.info? 27).map (·.size) = some (cellsB o.target).length := by rw [cellsP1_len hf.target]; kernel_rfl
  have N1 := Lib.hid n1
  have HF := Lib.hid hf
  have e2 := hw2.symm
  clear h X1 hw2 hg1 HM n1 hf
  go_enter Tryd.func11, Tryd.ntmps11
  go_wp2_with (with_reducible (show wpList _ _ _ (Oper.mk _ (Op.load 3 _) _ _ _ _ :: _) _ _); refine pause ?_)
  unfold Paused
  change wpList _ _ _ _ _ (w2.alloc (.cells zc0 38))
  have X3 : Box w (w2.alloc (.cells zc0 38)) w.heap.size 30 cs := HX1.out.go ((Below.refl _ _).alloc (Nat.le_refl _) _)
  have B1 : Blk (w2.alloc (.cells zc0 38)) w2.heap.size 38 zc0 := Blk.new w2 _ _
  have hg3 : (w2.alloc (.cells zc0 38)).heap.size = w2.heap.size + 1 := by simp
  generalize w2.alloc (.cells zc0 38) = w3 at X3 B1 hg3 ⊢
  have a0 : w3.cell? ⟨w.heap.size, 0, none⟩ = some (.int .i64 o.kind) := (X3.at_.cell 0).trans K0.out
  have a1 : w3.cell? ⟨w.heap.size, 1, none⟩ = some (.slice T o.text.length tc) := (X3.at_.cell 1).trans K1.out
  have HX3 := Lib.hid X3
  have HB1 := Lib.hid B1
  have HG3 := Lib.hid hg3
  clear X3 B1 hg3 e2
  go_wp2_with (with_reducible (show wpList _ _ _ (Oper.mk _ (Op.load 27 _) _ _ _ _ :: _) _ _); refine pause ?_)
  unfold Paused
  refine wpList_mid_w (by rfl) 27 (.tmp 13) (by rfl) w.heap.size 3 (by rfl) _ _ (HMI.out _ HX3.out.at_) Tryd.underlying27 (by rfl) N1.out ?_
  go_wp2_with (with_reducible (show wpList _ _ _ (Oper.mk _ (Op.build _ _) _ _ _ _ :: _) _ _); refine pause ?_)
  unfold Paused
  refine wpList_buildK (by rfl) 38 _ (by rfl) _ (by kernel_rfl) _ (robj_built o.kind T o.text.length tc o.target HT.out.1) ?_
  go_wp2_with (with_reducible (show wpList _ _ _ (Oper.mk _ (Op.store 38 _ _) _ _ _ _ :: _) _ _); refine pause ?_)
  unfold Paused
  change wpList _ _ _ _ _ (w3.alloc (.cells zc0 38))
  have B3 : Blk (w3.alloc (.cells zc0 38)) w3.heap.size 38 zc0 := Blk.new w3 _ _
  have hsz : (cellsOb o.kind (.slice T o.text.length tc) nilV nilV o.target).toArray.size = 36 := cellsOb_size _ _ _ _ _ HT.out.1
  refine wpList_store_row (by rfl) 38 (.tmp 4) (.tmp 15) (by rfl) w3.heap.size (cellsOb o.kind (.slice T o.text.length tc) nilV nilV o.target).toArray (by rfl) (by rfl) 38 zc0 B3 (by rw [hsz]; kernel_rfl) (by rw [hsz]; rfl) (cellsOb_one _ _ _ _ _ _ _ _ _ _ _) ?_
  have HW := Lib.hid (OfW.mk (w := w) (cs := cs) (g1 := w2.heap.size) (g2 := w3.heap.size) (HX3.out.go (below_row ((Below.refl _ _).alloc (Nat.le_refl _) _) (Nat.le_refl _) _)) ((HB1.out.alloc _).farRow (by rw [HG3.out]; omega) _) (B3.row _) hsz (cellsOb_one _ _ _ _ _ _ _ _ _ _ _) (by rw [HG1.out]; omega) (by rw [HG3.out]; omega))
  clear B3 hsz a0 a1
  generalize World.setRow _ w3.heap.size (cellsOb o.kind (.slice T o.text.length tc) nilV nilV o.target).toArray = w4 at HW ⊢
  generalize w3.heap.size = g2 at HW ⊢
  generalize w2.heap.size = g1 at HW ⊢
  have a1 : w4.cell? ⟨w.heap.size, 1, none⟩ = some (.slice T o.text.length tc) := (HW.out.box.at_.cell 1).trans K1.out
  have a2 : w4.cell? ⟨w.heap.size, 2, none⟩ = some (.slice E o.ents.length ec) := (HW.out.box.at_.cell 2).trans K2.out
  have a3 : w4.cell? ⟨w.heap.size, 35, none⟩ = some (.slice P o.pars.length pc) := (HW.out.box.at_.cell 35).trans K3.out
  clear HX3 HB1 HG3 HX1 HG1
  have z1 : ¬ (400 : Int) < o.text.length := by have := HSM.out.1; omega
  have z2 : ¬ (20 : Int) < o.ents.length := by have := HSM.out.2.1; omega
  have z3 : ¬ (20 : Int) < o.pars.length := by have := HSM.out.2.2.1; omega
  obtain ⟨B, hB⟩ : ∃ B, B = w4.heap.size := ⟨_, rfl⟩
  have HB2 : Hid (g2 < B) := Lib.hid (hB ▸ HW.out.b2.lt)
  have HO0 : Hid (w4.ownsRow B 56 33 nilV 0 (cellsE (o.ents.take 0))) := Lib.hid (World.ownsRow_nil _ _ _ _)
  have HBW : Hid (B ≤ w4.heap.size) := Lib.hid (by omega)
  have HZ := Lib.hid (And.intro (show o.text.length ≤ 400 by omega) (And.intro (show o.ents.length ≤ 20 by omega) (show o.pars.length ≤ 20 by omega)))
  obtain ⟨ie, hie, hiz, his, hib⟩ := info_parts ent_info
  obtain ⟨ip, hip, hpz, hps, hpb⟩ := info_parts oid32_info
  have HIE := Lib.hid (And.intro hie (And.intro hiz (And.intro his hib)))
  have HIP := Lib.hid (And.intro hip (And.intro hpz (And.intro hps hpb)))
  clear hie hiz his hib hip hpz hps hpb
  go_wp2
  clear a1 a2
  go_loopw [36] (fun i wr => ∃ (k : Nat) (v : Value), k ≤ o.ents.length ∧ i = .int .i64 k ∧ Hid (OfW w wr cs g1 g2 (cellsOb o.kind (.slice T o.text.length tc) v nilV o.target).toArray) ∧ Hid (wr.ownsRow B 56 33 v k (cellsE (o.ents.take k))) ∧ Hid (B ≤ wr.heap.size) ∧ Hid (∀ j (h : j < o.ents.length), j < k → o.ents[j].name.size ≤ 100)) (fun i _ => o.ents.length - (intOf i).toNat)
  case atStart => exact ⟨0, nilV, Nat.zero_le _, rfl, HW, HO0, HBW, Lib.hid fun _ _ h => by omega⟩
  case round =>
    obtain ⟨k, v, hk, rfl, HWk, HO, HBk, HSm⟩ := hrel
    obtain ⟨vA, vc, rfl⟩ := own_slice HO.out
    by_cases hlt : k < o.ents.length
    · obtain ⟨sb, so, rfl, _, hsr⟩ := (HC.out.ents.below HWk.out.box.bel (Nat.le_refl _)).ent rfl HF.out.ents hlt
      have HID := Lib.hid (HF.out.ents _ (List.getElem_mem hlt))
      have HTK := Lib.hid (cellsE_take hlt)
      have HEN := Lib.hid (HSM.out.2.2.2 _ (List.getElem_mem hlt))
      have HSM2 := Lib.hid (fun (h : o.ents[k].name.size ≤ 100) => (fun j (hj : j < o.ents.length) (hjk : j < k + 1) => by
        rcases Nat.lt_or_ge j k with h1 | h1
        · exact HSm.out j hj h1
        · obtain rfl : j = k := by omega
          exact h : ∀ j (hj : j < o.ents.length), j < k + 1 → o.ents[j].name.size ≤ 100))
      have HSR := Lib.hid hsr
      clear hsr
      obtain ⟨en, hen⟩ : ∃ en, en = o.ents[k] := ⟨_, rfl⟩
      rw [← hen] at HID HTK HSM2 HSR HEN
      clear hen
      have i1 : ((k : Nat) : Int) < o.ents.length := by omega
      have i2 : (0 : Int) ≤ ((k : Nat) : Int) := by omega
      go_wp2_with (with_reducible (show wpList _ _ _ (Oper.mk _ (Op.load 61 _) _ _ _ _ :: _) _ _); refine pause ?_)
      unfold Paused
      refine wpList_mid_w (by rfl) 61 (.tmp 38) (by rfl) sb (so + k * 33) (by rfl) _ _ HSR.out Tryd.underlying61 (by rfl) (by rw [cellsE1_len HID.out]; kernel_rfl) ?_
      go_wp2_with (with_reducible (show wpList _ _ _ (Oper.mk _ (Op.store 61 _ _) _ _ _ _ :: _) _ _); refine pause ?_)
      unfold Paused
      change wpList _ _ _ _ _ (wr.alloc (.cells (cellsE1 ⟨⟨#[]⟩, List.replicate 32 0⟩).toArray 61))
      refine wpList_store_row (by rfl) 61 (.tmp 6) (.tmp 39) (by rfl) wr.heap.size (cellsE1 en).toArray (by rfl) (by rfl) 61 (cellsE1 ⟨⟨#[]⟩, List.replicate 32 0⟩).toArray (Blk.new wr _ _) (by rw [List.size_toArray, cellsE1_len HID.out]; kernel_rfl) (by rw [List.size_toArray, List.size_toArray, cellsE1_len HID.out]; rfl) (arr_one (cellsE1_one en)) ?_
      have hbe : Below wr.heap.size wr ((wr.alloc (.cells (cellsE1 ⟨⟨#[]⟩, List.replicate 32 0⟩).toArray 61)).setRow wr.heap.size (cellsE1 en).toArray) := below_row ((Below.refl _ _).alloc (Nat.le_refl _) _) (Nat.le_refl _) _
      have HWa := Lib.hid (HWk.out.below hbe)
      have HOa := Lib.hid (own_farRow (g := wr.heap.size) (HO.out.alloc (.cells (cellsE1 ⟨⟨#[]⟩, List.replicate 32 0⟩).toArray 61)) (fun k hk => by have := (HO.out.lt k hk).2; omega) (cellsE1 en).toArray)
      have HXa := Lib.hid ((Blk.new wr 61 (cellsE1 ⟨⟨#[]⟩, List.replicate 32 0⟩).toArray).row (cellsE1 en).toArray)
      have HBa := Lib.hid (Nat.le_trans HBk.out hbe.size)
      clear hbe
      generalize World.setRow _ wr.heap.size (cellsE1 en).toArray = wa at HWa HOa HXa HBa ⊢
      generalize wr.heap.size = gx at HXa ⊢
      have d0 : wa.cell? ⟨gx, 0, none⟩ = some (.string en.name) := HXa.out.cell 0
      have d2 : wa.cell? ⟨g2, 2, none⟩ = some (.slice vA k vc) := HWa.out.b2.cell 2
      have hbig : ¬ (100 : Int) < en.name.size := by have := HEN.out; omega
      · have HSM3 := Lib.hid (HSM2.out (by omega))
        have HMD : Hid (wa.rangeAt gx 1 (cellsB en.id)) := Lib.hid (fun j u hu => by
          rw [HXa.out.cell, List.getElem?_toArray, cellsE1, Nat.add_comm 1 j, List.getElem?_cons_succ]
          exact hu)
        go_wp2_with (with_reducible (show wpList _ _ _ (Oper.mk _ (Op.load 27 _) _ _ _ _ :: _) _ _); refine pause ?_)
        unfold Paused
        refine wpList_mid_w (by rfl) 27 (.tmp 49) (by rfl) gx 1 (by rfl) _ _ HMD.out Tryd.underlying27 (by rfl) (by rw [cellsP1_len HID.out]; kernel_rfl) ?_
        go_wp2_with (with_reducible (show wpList _ _ _ (Oper.mk _ (Op.build _ _) _ _ _ _ :: _) _ _); refine pause ?_)
        unfold Paused
        refine wpList_buildK (by rfl) 56 _ (by rfl) _ (by kernel_rfl) _ (rent_built en HID.out) ?_
        go_wp2_with (with_reducible (show wpList _ _ _ (Oper.mk _ (Op.buildSlice _ _ _) _ _ _ _ :: _) _ _); refine pause ?_)
        unfold Paused
        refine wpList_buildSliceK (by rfl) 35 56 1 _ (by rfl) (cellsE1 en).toArray ie (.agg (cellsE1 ⟨⟨#[]⟩, List.replicate 32 0⟩).toArray) Tryd.underlying35 HIE.out.1 HIE.out.2.1 (by rw [HIE.out.2.2.1]; decide) (by rw [HIE.out.2.2.1]; decide) _ (by kernel_rfl) (by rw [HIE.out.2.2.1]; exact fill_one 33 (Value.agg (cellsE1 ⟨⟨#[]⟩, List.replicate 32 0⟩).toArray).cells _ (cellsE1_len HID.out) (by rfl)) ?_
        have hbb : Below wa.heap.size wa (wa.alloc (.cells (cellsE1 en).toArray 56)) := (Below.refl _ _).alloc (Nat.le_refl _) _
        have HWb := Lib.hid (HWa.out.below hbb)
        have HOb := Lib.hid (HOa.out.alloc (.cells (cellsE1 en).toArray 56))
        have HXb := Lib.hid (Blk.new wa 56 (cellsE1 en).toArray)
        have HBb := Lib.hid (Nat.le_trans HBa.out hbb.size)
        clear hbb
        generalize wa.alloc (.cells (cellsE1 en).toArray 56) = wb at HWb HOb HXb HBb ⊢
        generalize wa.heap.size = gs at HXb ⊢
        go_wp2_with (with_reducible (show wpList _ _ _ (Oper.mk _ (Op.call _) _ _ _ _ :: _) _ _); refine pause ?_)
        unfold Paused
        refine wpList_append_own _ (by rfl) (.tmp 46) (.tmp 52) 35 (by rfl) B 56 ie _ 33 48 Tryd.underlying35 HIE.out.1 HIE.out.2.1 HIE.out.2.2.1 HIE.out.2.2.2 (by rfl) (by decide) _ k _ (by rfl) HOb.out ⟨gs, 0, none⟩ 1 1 (cellsE1 en) (by rfl) (by rw [cellsE1_len HID.out]) (fun j u hj => by rw [Addr.add_mid, Nat.zero_add, HXb.out.cell j]; simpa using hj) (cellsE1_one en) (by have := HZ.out; unfold maxLen; omega) (by have := HZ.out; omega) HBb.out ?_
        intro v' w1 hown hgrow _
        have HW1 := Lib.hid (HWb.out.own HOb.out HB2.out hgrow)
        have HO1 : Hid (w1.ownsRow B 56 33 v' (k + 1) (cellsE (o.ents.take (k + 1)))) := Lib.hid (by rw [HTK.out]; exact hown)
        have HB1 := Lib.hid (Nat.le_trans HBb.out hgrow.size)
        clear hown hgrow d0 d2
        obtain ⟨vA', vc', rfl⟩ := own_slice HO1.out
        have d3 : w1.cell? ⟨g2, 2, none⟩ = some (.slice vA k vc) := HW1.out.b2.cell 2
        have d4 := HW1.out.b2.frozen 2
        have HW2 : Hid (OfW w (w1.setCell ⟨g2, 2, none⟩ (.slice vA' (k + 1) vc')) cs g1 g2 (cellsOb o.kind (.slice T o.text.length tc) (.slice vA' (k + 1) vc') nilV o.target).toArray) := Lib.hid (HW1.out.field 2 _ _ (cellsOb_set2 _ _ _ _ _ _) (cellsOb_size _ _ _ _ _ HT.out.1) (cellsOb_one _ _ _ _ _ _ _ _ _ _ _))
        have HO2 : Hid ((w1.setCell ⟨g2, 2, none⟩ (.slice vA' (k + 1) vc')).ownsRow B 56 33 (.slice vA' (k + 1) vc') (k + 1) (cellsE (o.ents.take (k + 1)))) := Lib.hid (ownsRow_far HO1.out HB2.out _)
        have HB3 : Hid (B ≤ (w1.setCell ⟨g2, 2, none⟩ (.slice vA' (k + 1) vc')).heap.size) := Lib.hid (by simpa [World.setCell] using HB1.out)
        go_wp2
        go_roundw
        case rel => exact ⟨k + 1, _, by omega, by go_num, HW2, HO2, HB3, HSM3⟩
        case measure => simp [intOf]; omega
    · obtain ⟨rfl⟩ : k = o.ents.length := by omega
      have HOE : Hid (wr.ownsRow B 56 33 (.slice vA o.ents.length vc) o.ents.length (cellsE o.ents)) := Lib.hid (by have h := HO.out; rwa [List.take_of_length_le (Nat.le_refl _)] at h)
      have HSF : Hid o.small := Lib.hid ⟨HZ.out.1, HZ.out.2.1, HZ.out.2.2, fun e he => by
        obtain ⟨j, hj, rfl⟩ := List.mem_iff_getElem.1 he
        exact HSm.out j hj hj⟩
      obtain ⟨C, hC⟩ : ∃ C, C = wr.heap.size := ⟨_, rfl⟩
      have HC2 : Hid (B ≤ C) := Lib.hid (hC ▸ HBk.out)
      have HCO : Hid (∀ k, (Value.slice vA o.ents.length vc).ownBlock = some k → k < C) := Lib.hid (fun k hk => hC ▸ (HOE.out.lt k hk).2)
      have HP0 : Hid (wr.ownsRow C 26 32 nilV 0 (cellsP (o.pars.take 0))) := Lib.hid (World.ownsRow_nil _ _ _ _)
      have HCW : Hid (C ≤ wr.heap.size) := Lib.hid (by omega)
      have a5 : wr.cell? ⟨w.heap.size, 35, none⟩ = some (.slice P o.pars.length pc) := (HWk.out.box.at_.cell 35).trans K3.out
      clear a3 HO HSm HBk hC
      go_wp2
      clear a5
      go_loopw [59] (fun i wr => ∃ (k : Nat) (v : Value), k ≤ o.pars.length ∧ i = .int .i64 k ∧ Hid (OfW w wr cs g1 g2 (cellsOb o.kind (.slice T o.text.length tc) (.slice vA o.ents.length vc) v o.target).toArray) ∧ Hid (wr.ownsRow B 56 33 (.slice vA o.ents.length vc) o.ents.length (cellsE o.ents)) ∧ Hid (wr.ownsRow C 26 32 v k (cellsP (o.pars.take k))) ∧ Hid (C ≤ wr.heap.size)) (fun i _ => o.pars.length - (intOf i).toNat)
      case atStart => exact ⟨0, nilV, Nat.zero_le _, rfl, HWk, HOE, HP0, HCW⟩
      case round =>
        obtain ⟨k, v, hk, rfl, HWp, HOe, HOp, HBp⟩ := hrel
        obtain ⟨pA, pC, rfl⟩ := own_slice HOp.out
        by_cases hlt : k < o.pars.length
        · obtain ⟨sb, so, rfl, _, hsr⟩ := (HC.out.pars.below HWp.out.box.bel (Nat.le_refl _)).par rfl HF.out.pars hlt
          have HID := Lib.hid (HF.out.pars _ (List.getElem_mem hlt))
          have HTK := Lib.hid (cellsP_take hlt)
          have HSR := Lib.hid hsr
          clear hsr
          obtain ⟨en, hen⟩ : ∃ en, en = o.pars[k] := ⟨_, rfl⟩
          rw [← hen] at HID HTK HSR
          clear hen
          have i1 : ((k : Nat) : Int) < o.pars.length := by omega
          have i2 : (0 : Int) ≤ ((k : Nat) : Int) := by omega
          go_wp2_with (with_reducible (show wpList _ _ _ (Oper.mk _ (Op.load 27 _) _ _ _ _ :: _) _ _); refine pause ?_)
          unfold Paused
          refine wpList_mid_w (by rfl) 27 (.tmp 61) (by rfl) sb (so + k * 32) (by rfl) _ _ HSR.out Tryd.underlying27 (by rfl) (by rw [cellsP1_len HID.out]; kernel_rfl) ?_
          go_wp2_with (with_reducible (show wpList _ _ _ (Oper.mk _ (Op.store 27 _ _) _ _ _ _ :: _) _ _); refine pause ?_)
          unfold Paused
          change wpList _ _ _ _ _ (wr.alloc (.cells (cellsB (List.replicate 32 0)).toArray 27))
          refine wpList_store_row (by rfl) 27 (.tmp 8) (.tmp 62) (by rfl) wr.heap.size (cellsB en).toArray (by rfl) (by rfl) 27 (cellsB (List.replicate 32 0)).toArray (Blk.new wr _ _) (by rw [List.size_toArray, cellsP1_len HID.out]; kernel_rfl) (by rw [List.size_toArray, List.size_toArray, cellsP1_len HID.out]; rfl) (arr_one (cellsB_one en)) ?_
          have hbe : Below wr.heap.size wr ((wr.alloc (.cells (cellsB (List.replicate 32 0)).toArray 27)).setRow wr.heap.size (cellsB en).toArray) := below_row ((Below.refl _ _).alloc (Nat.le_refl _) _) (Nat.le_refl _) _
          have HWa := Lib.hid (HWp.out.below hbe)
          have HOa := Lib.hid (own_farRow (g := wr.heap.size) (HOp.out.alloc (.cells (cellsB (List.replicate 32 0)).toArray 27)) (fun k hk => by have := (HOp.out.lt k hk).2; omega) (cellsB en).toArray)
          have HEa := Lib.hid (own_farRow (g := wr.heap.size) (HOe.out.alloc (.cells (cellsB (List.replicate 32 0)).toArray 27)) (fun k hk => by have := (HOe.out.lt k hk).2; omega) (cellsB en).toArray)
          have HXa := Lib.hid ((Blk.new wr 27 (cellsB (List.replicate 32 0)).toArray).row (cellsB en).toArray)
          have HBa := Lib.hid (Nat.le_trans HBp.out hbe.size)
          clear hbe
          generalize World.setRow _ wr.heap.size (cellsB en).toArray = wa at HWa HOa HEa HXa HBa ⊢
          generalize wr.heap.size = gx at HXa ⊢
          have d2 : wa.cell? ⟨g2, 35, none⟩ = some (.slice pA k pC) := (HWa.out.b2.cell 35).trans (cellsOb_get35 _ _ _ _ _ HT.out.1)
          go_wp2_with (with_reducible (show wpList _ _ _ (Oper.mk _ (Op.load 27 _) _ _ _ _ :: _) _ _); refine pause ?_)
          unfold Paused
          refine wpList_row_w (by rfl) 27 (.tmp 8) (by rfl) gx (by rfl) 27 (cellsB en).toArray _ HXa.out Tryd.underlying27 (by rfl) (by rw [List.size_toArray, cellsP1_len HID.out]; kernel_rfl) ?_
          go_wp2_with (with_reducible (show wpList _ _ _ (Oper.mk _ (Op.buildSlice _ _ _) _ _ _ _ :: _) _ _); refine pause ?_)
          unfold Paused
          refine wpList_buildSliceK (by rfl) 36 26 1 _ (by rfl) (cellsB en).toArray ip (.agg (cellsB (List.replicate 32 0)).toArray) Tryd.underlying36 HIP.out.1 HIP.out.2.1 (by rw [HIP.out.2.2.1]; decide) (by rw [HIP.out.2.2.1]; decide) _ (by kernel_rfl) (by rw [HIP.out.2.2.1]; exact fill_one 32 (Value.agg (cellsB (List.replicate 32 0)).toArray).cells _ (cellsP1_len HID.out) (by rfl)) ?_
          have hbb : Below wa.heap.size wa (wa.alloc (.cells (cellsB en).toArray 26)) := (Below.refl _ _).alloc (Nat.le_refl _) _
          have HWb := Lib.hid (HWa.out.below hbb)
          have HOb := Lib.hid (HOa.out.alloc (.cells (cellsB en).toArray 26))
          have HEb := Lib.hid (HEa.out.alloc (.cells (cellsB en).toArray 26))
          have HXb := Lib.hid (Blk.new wa 26 (cellsB en).toArray)
          have HBb := Lib.hid (Nat.le_trans HBa.out hbb.size)
          clear hbb
          generalize wa.alloc (.cells (cellsB en).toArray 26) = wb at HWb HOb HEb HXb HBb ⊢
          generalize wa.heap.size = gs at HXb ⊢
          go_wp2_with (with_reducible (show wpList _ _ _ (Oper.mk _ (Op.call _) _ _ _ _ :: _) _ _); refine pause ?_)
          unfold Paused
          refine wpList_append_own _ (by rfl) (.tmp 64) (.tmp 66) 36 (by rfl) C 26 ip _ 32 32 Tryd.underlying36 HIP.out.1 HIP.out.2.1 HIP.out.2.2.1 HIP.out.2.2.2 (by rfl) (by decide) _ k _ (by rfl) HOb.out ⟨gs, 0, none⟩ 1 1 (cellsB en) (by rfl) (by rw [cellsP1_len HID.out]) (fun j u hj => by rw [Addr.add_mid, Nat.zero_add, HXb.out.cell j]; simpa using hj) (cellsB_one en) (by have := HZ.out; unfold maxLen; omega) (by have := HZ.out; omega) HBb.out ?_
          intro v' w1 hown hgrow _
          have HG2C : Hid (g2 < C) := Lib.hid (Nat.lt_of_lt_of_le HB2.out HC2.out)
          have HW1 := Lib.hid (HWb.out.own HOb.out HG2C.out hgrow)
          have HE1 := Lib.hid (HEb.out.kept hgrow (by
            cases hv : (Value.slice vA o.ents.length vc).ownBlock with
            | none => exact Or.inl rfl
            | some q => exact Or.inr (fun e => by
                have h1 := HCO.out q hv
                have h2 := (HOb.out.lt q e.symm).1
                omega)))
          have HO1 : Hid (w1.ownsRow C 26 32 v' (k + 1) (cellsP (o.pars.take (k + 1)))) := Lib.hid (by rw [HTK.out]; exact hown)
          have HB1 := Lib.hid (Nat.le_trans HBb.out hgrow.size)
          clear hown hgrow d2
          obtain ⟨pA', pC', rfl⟩ := own_slice HO1.out
          have d3 : w1.cell? ⟨g2, 35, none⟩ = some (.slice pA k pC) := (HW1.out.b2.cell 35).trans (cellsOb_get35 _ _ _ _ _ HT.out.1)
          have d4 := HW1.out.b2.frozen 35
          have HW2 : Hid (OfW w (w1.setCell ⟨g2, 35, none⟩ (.slice pA' (k + 1) pC')) cs g1 g2 (cellsOb o.kind (.slice T o.text.length tc) (.slice vA o.ents.length vc) (.slice pA' (k + 1) pC') o.target).toArray) := Lib.hid (HW1.out.field 35 _ _ (cellsOb_set35 _ _ _ _ _ _ HT.out.1) (cellsOb_size _ _ _ _ _ HT.out.1) (cellsOb_one _ _ _ _ _ _ _ _ _ _ _))
          have HE2 : Hid ((w1.setCell ⟨g2, 35, none⟩ (.slice pA' (k + 1) pC')).ownsRow B 56 33 (.slice vA o.ents.length vc) o.ents.length (cellsE o.ents)) := Lib.hid (ownsRow_far HE1.out HB2.out _)
          have HO2 : Hid ((w1.setCell ⟨g2, 35, none⟩ (.slice pA' (k + 1) pC')).ownsRow C 26 32 (.slice pA' (k + 1) pC') (k + 1) (cellsP (o.pars.take (k + 1)))) := Lib.hid (ownsRow_far HO1.out HG2C.out _)
          have HB3 : Hid (C ≤ (w1.setCell ⟨g2, 35, none⟩ (.slice pA' (k + 1) pC')).heap.size) := Lib.hid (by simpa [World.setCell] using HB1.out)
          go_wp2
          go_roundw
          case rel => exact ⟨k + 1, _, by omega, by go_num, HW2, HE2, HO2, HB3⟩
          case measure => simp [intOf]; omega
        · obtain ⟨rfl⟩ : k = o.pars.length := by omega
          have HPE : Hid (wr.ownsRow C 26 32 (.slice pA o.pars.length pC) o.pars.length (cellsP o.pars)) := Lib.hid (by have h := HOp.out; rwa [List.take_of_length_le (Nat.le_refl _)] at h)
          have HRE := Lib.hid (rdk_own (own_farRow (g := g1) HOe.out (fun k hk => by have h1 := (HOe.out.lt k hk).1; have h2 := HWp.out.o2; have h3 := HB2.out; omega) (cellsOb o.kind (.slice T o.text.length tc) (.slice vA o.ents.length vc) (.slice pA o.pars.length pC) o.target).toArray))
          have HRP := Lib.hid (rdk_own (own_farRow (g := g1) HPE.out (fun k hk => by have h1 := (HPE.out.lt k hk).1; have h2 := HWp.out.o2; have h3 := HB2.out; have h4 := HC2.out; omega) (cellsOb o.kind (.slice T o.text.length tc) (.slice vA o.ents.length vc) (.slice pA o.pars.length pC) o.target).toArray))
          have HRT := Lib.hid (HC.out.text.below (HWp.out.done).bel (Nat.le_refl _))
          go_wp2_with (with_reducible (show wpList _ _ _ (Oper.mk _ (Op.load 38 _) _ _ _ _ :: _) _ _); refine pause ?_)
          unfold Paused
          refine wpList_row_w (by rfl) 38 (.tmp 4) (by rfl) g2 (by rfl) 38 (cellsOb o.kind (.slice T o.text.length tc) (.slice vA o.ents.length vc) (.slice pA o.pars.length pC) o.target).toArray _ HWp.out.b2 robj_under (by rfl) (by rw [HWp.out.s2]; kernel_rfl) ?_
          go_wp2_with (with_reducible (show wpList _ _ _ (Oper.mk _ (Op.store 38 _ _) _ _ _ _ :: _) _ _); refine pause ?_)
          unfold Paused
          refine wpList_store_row (by rfl) 38 (.tmp 2) (.tmp 70) (by rfl) g1 (cellsOb o.kind (.slice T o.text.length tc) (.slice vA o.ents.length vc) (.slice pA o.pars.length pC) o.target).toArray (by rfl) (by rfl) 38 zc0 HWp.out.b1 (by rw [HWp.out.s2]; kernel_rfl) (by rw [HWp.out.s2]; rfl) HWp.out.one ?_
          have HW9 := Lib.hid (HWp.out.done)
          generalize World.setRow _ g1 (cellsOb o.kind (.slice T o.text.length tc) (.slice vA o.ents.length vc) (.slice pA o.pars.length pC) o.target).toArray = w9 at HW9 HRE HRP HRT ⊢
          go_wp2
          exact bodyPost_ret (v := .tuple #[.agg (cellsOb o.kind (.slice T o.text.length tc) (.slice vA o.ents.length vc) (.slice pA o.pars.length pC) o.target).toArray, .bool true]) (results_cell_row2 rfl _ _ g1 38 (cellsOb o.kind (.slice T o.text.length tc) (.slice vA o.ents.length vc) (.slice pA o.pars.length pC) o.target).toArray _ _ (by rfl) (by rfl) HW9.out.b1 robj_under rfl (by rw [HW9.out.s2]; kernel_rfl)) rfl ⟨HW9.out.bel, _, rfl, HW9.out.s2, HW9.out.one, T, tc, vA, vc, pA, pC, rfl, HRT.out, HRE.out, HRP.out⟩
end Go.Proofs.YtlgljdefileeoaaDoor
