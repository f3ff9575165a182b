/- An entry comes: Apply. -/
import Derived.Test.YtgcgomdhdgjpdaaGreatDoorMRp22s
namespace Go.Proofs.YtgcgomdhdgjpdaaGreatDoor
open Go Go.RowKit Go.Maps
def ApPost (w : World) (r : Nat) (A : Option Addr) (n c : Nat) (s : Rp.St) (e : En.E) (a : Nat → Addr) (x : Ending) (w' : World) : Prop :=
 x = .returned (errV a (Rp.step s e)) ∧ (∃ A' c' rf' ob' N' M' js' O', RpX w' r A' c' rf' ob' N' M' js' O' (Rp.next s e)) ∧ KeptP (tnP r A n c) w w'
theorem ApPost.no {w w' : World} {r : Nat} {A : Option Addr} {c : Nat} {rf ob : Value} {N M : Nat} {js : List Jt} {O : List Nat → Option Cl.T} {s : Rp.St} {e : En.E} {a : Nat → Addr} {q : Nat} (h : RpX w r A c rf ob N M js O s) (hb : Below w.heap.size w w') (hq : Rp.step s e = q + 1) : ApPost w r A js.length c s e a (.returned (ev (a q))) w' := by
 refine ⟨by rw [hq]; rfl, ⟨A, c, rf, ob, N, M, js, O, ?_⟩, (KeptP.of_below hb).mono fun _ _ h => h.elim⟩
 have h1 : Rp.next s e = s := by unfold Rp.next; rw [if_neg (by omega)]
 rw [h1]
 exact h.below hb
set_option maxRecDepth 100000 in
set_option maxHeartbeats 8000000 in
theorem apply_any (r : Nat) (A : Option Addr) (c : Nat) (rf ob : Value) (N M : Nat) (js : List Jt) (O : List Nat → Option Cl.T) (s : Rp.St) (e : En.E) (cs : Array Value) (U OO : Option Addr) (cu co : Nat) (ts : List En.Bt) (a : Nat → Addr) (w : World)
  (h : RpX w r A c rf ob N M js O s) (he : EnC w e cs U cu OO co ts) (hu : e.ups.length ≤ 1000) (hj : js.length ≤ 40) (ht : Tabs w) (hS : RSents w a) (hm : MaxAt w) :
  Calls Tryz.prog 10 #[.pointer (some ⟨r, 0, none⟩), .agg cs] w (ApPost w r A js.length c s e a) := by
 obtain ⟨w1, hw1⟩ : ∃ w1, w1 = w.alloc (.cells cs 32) := ⟨_, rfl⟩
 have b1 : Below w.heap.size w w1 := by rw [hw1]; exact (Below.refl _ _).alloc (Nat.le_refl _) _
 have x1 : Blk w1 w.heap.size 32 cs := by rw [hw1]; exact Blk.new w _ _
 have CR := eright_any e cs U OO cu co ts a w1 (he.below b1) (hS.e.at_ b1) (hm.below b1 (Nat.le_refl _)) hu
 obtain ⟨β, hβ⟩ : ∃ β, β = En.right e := ⟨_, rfl⟩
 rw [← hβ] at CR
 have HBT := Lib.hid hβ
 have H := Lib.hid h
 have HE := Lib.hid he
 have HJ := Lib.hid hj
 have HT := Lib.hid ht
 have HS := Lib.hid hS
 have HX1 := Lib.hid x1
 have HB1 := Lib.hid b1
 have HFT : Hid (Rp.Fit e) := Lib.hid ⟨he.fit, fun t ht => by
  rw [← he.txt] at ht
  obtain ⟨u, hu, rfl⟩ := List.mem_map.1 ht
  exact (he.objs.rd u hu).2⟩
 have hw1' := hw1.symm
 have h5 := he.five
 have HU5 := Lib.hid h5
 clear h he hu hj ht hS hm hβ x1 b1 hw1 h5
 go_enter Tryz.func10, Tryz.ntmps10
 go_wp2_with (with_reducible (show wpList _ _ _ (Oper.mk _ (Op.load 32 _) _ _ _ _ :: _) _ _); refine pause ?_)
 unfold Paused
 refine wpList_row_w (by rfl) 32 (.tmp 3) (by rfl) w.heap.size (by rfl) 32 cs _ HX1.out Tryz.underlying32 (by rfl) (ent_load HU5.out) ?_
 go_wp2_with (go_at_call 22; refine pause ?_)
 unfold Paused
 refine CR.mono ?_
 rintro x w2 ⟨rfl, hb2⟩
 have HB2 := Lib.hid (below_next HB1.out hb2)
 have HX2 := Lib.hid (HX1.out.below hb2 HX1.out.lt)
 clear CR hb2 HB1 HX1 hw1'
 clear w1
 cases β with
 | false =>
  have hst : Rp.step s e = 3 + 1 := by unfold Rp.step; rw [if_neg (by rw [← HBT.out]; simp)]
  have HF := Lib.hid (ApPost.no (a := a) H.out HB2.out hst)
  have q := (HS.out.at_ HB2.out).e.p.2.1
  clear hst
  go_wp2
  go_ret
  exact HF.out
 | true =>
  have HR : Hid (En.right e = true) := Lib.hid HBT.out.symm
  obtain ⟨k, hk⟩ : ∃ k : Nat, e.client = (k : Nat) := ⟨e.client.toNat, by have := (Rp.right_ok HR.out).1; omega⟩
  have hk8 : k < 8 := by have := (Rp.right_ok HR.out).2.1; omega
  have HK := Lib.hid (And.intro hk hk8)
  have p0 : w2.cell? ⟨w.heap.size, 0, none⟩ = some (.int .i64 (k : Nat)) := by rw [HX2.out.cell, HE.out.cells, ← hk]; rfl
  have p1 : w2.cell? ⟨w.heap.size, 1, none⟩ = some (.int .i64 e.number) := by rw [HX2.out.cell, HE.out.cells]; rfl
  have CL := last_any r A js.length c rf ob js k w2 (by rw [H.out.es]; exact (H.out.below HB2.out).rp) (H.out.below HB2.out).rt (by have := HJ.out; omega) hk8
  rw [H.out.es] at CL
  clear hk hk8
  go_wp2_with (go_at_call 23; refine pause ?_)
  unfold Paused
  refine CL.mono ?_
  rintro x w3 ⟨rfl, hb3⟩
  have HB3 := Lib.hid (below_next HB2.out hb3)
  have HX3 := Lib.hid (HX2.out.below hb3 HX2.out.lt)
  clear CL hb3 HB2 HX2 p0 p1
  clear w2
  have p1 : w3.cell? ⟨w.heap.size, 1, none⟩ = some (.int .i64 e.number) := by rw [HX3.out.cell, HE.out.cells]; rfl
  by_cases hst : e.number ≤ Rp.lastN s.js (k : Nat)
  ·have hst2 : Rp.step s e = 17 + 1 := by unfold Rp.step; rw [if_pos HR.out, HK.out.1, if_pos hst]
   have HF := Lib.hid (ApPost.no (a := a) H.out HB3.out hst2)
   have q := (HS.out.at_ HB3.out).s
   clear hst2
   go_wp2
   go_ret
   exact HF.out
  have HST : Hid (¬ e.number ≤ Rp.lastN s.js e.client) := Lib.hid (by rw [HK.out.1]; exact hst)
  have CC := ecopy_any e cs U OO cu co ts w3 (HE.out.below HB3.out) (by have := Rp.right_ups HR.out; omega) (by have := Rp.right_ups HR.out; omega) (fun x hx => by have := Rp.right_objs HR.out x hx; omega)
  unfold CpPost at CC
  go_wp2_with (with_reducible (show wpList _ _ _ (Oper.mk _ (Op.load 32 _) _ _ _ _ :: _) _ _); refine pause ?_)
  unfold Paused
  refine wpList_row_w (by rfl) 32 (.tmp 3) (by rfl) w.heap.size (by rfl) 32 cs _ HX3.out Tryz.underlying32 (by rfl) (ent_load HU5.out) ?_
  go_wp2_with (go_at_call 24; refine pause ?_)
  unfold Paused
  refine CC.mono ?_
  rintro x w4 ⟨cs4, U4, cu4, O4, co4, ts4, rfl, hcp⟩
  have HJK := Lib.hid (EnK.of_cp hcp)
  have HX4 := Lib.hid (HX3.out.below hcp.bel HX3.out.lt)
  have HB4 := Lib.hid (below_next HB3.out hcp.bel)
  have h54 : cs4.size = 5 := hcp.ent.five
  have HC4 := Lib.hid hcp.ent
  clear CC hcp p1 hst HB3 HX3
  clear w3
  go_wp2_with (with_reducible (show wpList _ _ _ (Oper.mk _ (Op.store 32 _ _) _ _ _ _ :: _) _ _); refine pause ?_)
  unfold Paused
  refine wpList_store_row (by rfl) 32 (.tmp 3) (.tmp 26) (by rfl) w.heap.size cs4 (by rfl) (by rfl) 32 cs HX4.out (ent_load h54) (by rw [HU5.out, h54]) HC4.out.oneJ ?_
  have HX5 : Hid (Blk (w4.setRow w.heap.size cs4) w.heap.size 32 cs4) := Lib.hid (HX4.out.row _)
  have HB5 : Hid (Below w.heap.size w (w4.setRow w.heap.size cs4)) := Lib.hid (below_row HB4.out (Nat.le_refl _) _)
  have HJ5 : Hid (EnK (w4.setRow w.heap.size cs4) ⟨e, cs4, U4, cu4, O4, co4, ts4⟩) := Lib.hid (HJK.out.kept (KeptP.of_grown (only_setRow (World.grownBy.refl w4 _) (Or.inl rfl) _ : w4.grownBy _ (some w.heap.size))) (fun g hg _ => by injection hg with hg; subst hg; exact ⟨_, _, _, HX4.out, Or.inl rfl⟩))
  have H54 := Lib.hid h54
  clear HX4 HB4 HJK HC4 h54
  generalize w4.setRow w.heap.size cs4 = w5 at HX5 HB5 HJ5 ⊢
  clear w4
  simp only [Act.put]
  have p2 : w5.cell? ⟨w.heap.size, 2, none⟩ = some (.int .i64 e.answer) := by
   rw [HX5.out.cell]
   have h := HJ5.out.ent.cells
   dsimp only at h
   rw [h]
   rfl
  go_upto_if 29 with fail
  go_cut [] from 7 to 70 (fun wx => ∃ rf' ob' N' M' O', Hid (ApT w wx r A c rf' ob' N' M' js O' s ⟨e, cs4, U4, cu4, O4, co4, ts4⟩ ∧ Rp.step s e = 0))
  case first =>
   by_cases h0 : e.answer = 0
   ·have i0 : (e.answer == 0) = true := by simp [h0]
    have H0 := Lib.hid h0
    have HRX := Lib.hid (H.out.below HB5.out)
    have hrp := Rp.right_ups HR.out
    have CB := fun w' (hw' : Below w5.heap.size w5 w') => behind_any rf ob N M s.refs O e cs4 U4 O4 cu4 co4 ts4 w' (HRX.out.refs.below hw') (HRX.out.objs.below hw') (fun i x h => (H.out.good.refs i x h).2.1) H.out.oT (HJ5.out.below hw').ent (by omega) (by omega) (fun x hx => by have := Rp.right_objs HR.out x hx; omega) (fun u hu => Rp.ref_okS (Rp.right_refs HR.out u hu)) (HT.out.below (below_next HB5.out hw') (Nat.le_refl _)) (by have := H.out.lim; have := HJ.out; omega) (by have := H.out.lim; have := HJ.out; omega)
    have HCB := Lib.hid CB
    clear CB hrp h0 p2
    have hc9 : w5.rangeAt r 9 [rf, ob] := fun j v hj => by
     have h9 := HRX.out.rp.refs
     have h10 := HRX.out.rp.objs
     match j, hj with
     | 0, hj => injection hj with hj; subst hj; exact h9
     | 1, hj => injection hj with hj; subst hj; exact h10
    have HRG := Lib.hid hc9
    clear hc9
    go_upto_region 8 with fail
    go_cut [7] from 9 to 70 (fun p wx => ∃ gb, p = .pointer (some ⟨gb, 0, none⟩) ∧ ∃ b1 b2 n1 m1, Hid (Blk wx gb 65 #[.map (some b1), .map (some b2)] ∧ w5.heap.size ≤ gb ∧ MapS wx b1 n1 (fun i => (Rp.behindR s.refs e.ups i).map idV) ∧ MapO wx b2 m1 (fun x => (behindT O ts4 x).map (·.val)) ∧ n1 ≤ N + e.ups.length ∧ m1 ≤ M + e.objs.length ∧ Below w5.heap.size w5 wx))
    case first =>
     have HSX : Hid (w5.drew.rangeAt r 9 [rf, ob] ∧ Blk w5.drew w.heap.size 32 cs4) := Lib.hid ⟨HRG.out, HX5.out⟩
     have HRL : Hid (r < w5.drew.heap.size) := Lib.hid HRX.out.rp.lt
     refine wp_region_upto (S := fun w' => w'.rangeAt r 9 [rf, ob] ∧ Blk w' w.heap.size 32 cs4) (b := 7) (by kernel_rfl) ?_
     change Upto _ _ _ _ _ _ _ _ _ w5.drew
     refine Upto.takeY (i := 0) (v := ?_) rfl (by kernel_rfl) (by kernel_rfl) (by kernel_rfl) (by kernel_rfl) (fun _ _ _ h => h) (Or.inl ⟨by rfl, ?_⟩) (fun _ => HSX.out) ?_
     rotate_left
     ·intro w' _; go_simp; with_reducible rfl
     try simp only [Act.put, List.getElem_toArray, List.getElem_cons_zero, List.setIfInBounds_toArray, List.set_cons_zero, List.set_cons_succ]
     refine Upto.takeY (i := 1) (v := ?_) rfl (by kernel_rfl) (by kernel_rfl) (by kernel_rfl) (by kernel_rfl) (fun _ _ _ h => h) (Or.inl ⟨by rfl, ?_⟩) (fun _ => HSX.out) ?_
     rotate_left
     ·intro w' _; go_simp; with_reducible rfl
     try simp only [Act.put, List.getElem_toArray, List.getElem_cons_zero, List.getElem_cons_succ, List.setIfInBounds_toArray, List.set_cons_zero, List.set_cons_succ]
     refine Upto.takeY (i := 2) (v := ?_) rfl (by kernel_rfl) (by kernel_rfl) (by kernel_rfl) (by kernel_rfl) (fun _ _ _ h => h) (Or.inl ⟨by rfl, ?_⟩) (fun _ => HSX.out) ?_
     rotate_left
     ·intro w' _; go_simp; with_reducible rfl
     try simp only [Act.put, List.getElem_toArray, List.getElem_cons_zero, List.getElem_cons_succ, List.setIfInBounds_toArray, List.set_cons_zero, List.set_cons_succ]
     refine Upto.take (i := 3) (v := .agg ([rf, ob]).toArray) rfl (by kernel_rfl) (by kernel_rfl) (by kernel_rfl) (by kernel_rfl) (fun _ _ _ h => h) (takes_midE 65 (.tmp 32) rfl (by rfl) r 9 (by rfl) ([rf, ob]) _ (fun w' hS => hS.1) (by first | exact Tryz.underlying65 | kernel_rfl) (by rfl) (by kernel_rfl)) HSX.out ?_
     try simp only [Act.put, List.getElem_toArray, List.getElem_cons_zero, List.getElem_cons_succ, List.setIfInBounds_toArray, List.set_cons_zero, List.set_cons_succ]
     refine Upto.take (i := 4) (v := .agg (cs4)) rfl (by kernel_rfl) (by kernel_rfl) (by kernel_rfl) (by kernel_rfl) (fun _ _ _ h => h) (takes_row 32 (.tmp 3) rfl (by rfl) w.heap.size (by rfl) 32 (cs4) _ (fun w' hS => hS.2) (by first | exact Tryz.underlying32 | kernel_rfl) (by rfl) (ent_load H54.out)) HSX.out ?_
     try simp only [Act.put, List.getElem_toArray, List.getElem_cons_zero, List.getElem_cons_succ, List.setIfInBounds_toArray, List.set_cons_zero, List.set_cons_succ]
     have HBD := Lib.hid (below_drewN (Below.refl w5.heap.size w5) 1)
     refine Upto.two (i := 5) (j := 6) (by kernel_rfl) rfl rfl (by rfl) (by rfl) (fun K hK => ?_) (fun K hK => ?_)
     ·go_simp
      refine (HCB.out w5.drew HBD.out).mono ?_
      rintro x w6 ⟨b1, b2, n1, m1, rfl, hm1, hm2, hn1, hn2, hb6⟩
      have hba : Below w6.heap.size w6 (w6.alloc (.cells #[.map none, .map none] 65)) := (Below.refl _ _).alloc (Nat.le_refl _) _
      refine hK _ _ (fun _ _ => ⟨rngP_below HSX.out.1 hb6 HRL.out, HSX.out.2.below hb6 HSX.out.2.lt⟩) ?_
      clear hK
      try simp only [Act.put, List.getElem_toArray, List.getElem_cons_zero, List.getElem_cons_succ, List.setIfInBounds_toArray, List.set_cons_zero, List.set_cons_succ]
      have hnb := Blk.new w6 65 #[.map none, .map none]
      have HFIN : Hid (Blk ((w6.alloc (.cells #[.map none, .map none] 65)).setRow w6.heap.size #[.map (some b1), .map (some b2)]) w6.heap.size 65 #[.map (some b1), .map (some b2)] ∧ w5.heap.size ≤ w6.heap.size ∧ MapS ((w6.alloc (.cells #[.map none, .map none] 65)).setRow w6.heap.size #[.map (some b1), .map (some b2)]) b1 n1 (fun i => (Rp.behindR s.refs e.ups i).map idV) ∧ MapO ((w6.alloc (.cells #[.map none, .map none] 65)).setRow w6.heap.size #[.map (some b1), .map (some b2)]) b2 m1 (fun x => (behindT O ts4 x).map (·.val)) ∧ n1 ≤ N + e.ups.length ∧ m1 ≤ M + e.objs.length ∧ Below w5.heap.size w5 ((w6.alloc (.cells #[.map none, .map none] 65)).setRow w6.heap.size #[.map (some b1), .map (some b2)])) := Lib.hid (by
       have hb7 : Below w6.heap.size w6 ((w6.alloc (.cells #[.map none, .map none] 65)).setRow w6.heap.size #[.map (some b1), .map (some b2)]) := below_row hba (Nat.le_refl _) _
       exact ⟨hnb.row _, (below_next HBD.out hb6).size, hm1.below hb7, hm2.below hb7, hn1, hn2, below_next (below_next HBD.out hb6) hb7⟩)
      refine Upto.one (i := 6) (by kernel_rfl) rfl (by rfl) (fun K hK => ?_)
      go_simp
      refine hK _ _ (fun _ _ => ⟨rngP_below HSX.out.1 (below_next hb6 hba) HRL.out, HSX.out.2.below (below_next hb6 hba) HSX.out.2.lt⟩) ?_
      clear hK
      try simp only [Act.put, List.getElem_toArray, List.getElem_cons_zero, List.getElem_cons_succ, List.setIfInBounds_toArray, List.set_cons_zero, List.set_cons_succ]
      refine Upto.one (i := 7) (by kernel_rfl) rfl (by rfl) (fun K hK => ?_)
      refine wp_store_row 65 (.tmp 7) (.tmp 35) (by rfl) w6.heap.size #[.map (some b1), .map (some b2)] (by rfl) (by rfl) 65 #[.map none, .map none] hnb (by kernel_rfl) (by rfl) (by simp [Value.oneCell']) ?_
      refine hK _ _ (fun h => absurd rfl h) ?_
      try simp only [Act.put, List.getElem_toArray, List.getElem_cons_zero, List.getElem_cons_succ]
      refine Upto.done (by kernel_rfl) ?_ _
      go_wp2
      go_meet
      case rel => exact ⟨_, rfl, b1, b2, n1, m1, HFIN⟩
     ·go_simp
      have hba : Below w5.drew.heap.size w5.drew (w5.drew.alloc (.cells #[.map none, .map none] 65)) := (Below.refl _ _).alloc (Nat.le_refl _) _
      have hnb0 := Blk.new w5.drew 65 #[.map none, .map none]
      have hbd2 : Below w5.heap.size w5 (w5.drew.alloc (.cells #[.map none, .map none] 65)) := below_next HBD.out hba
      refine hK _ _ (fun _ _ => ⟨rngP_below HSX.out.1 hba HRL.out, HSX.out.2.below hba HSX.out.2.lt⟩) ?_
      clear hK
      try simp only [Act.put, List.getElem_toArray, List.getElem_cons_zero, List.getElem_cons_succ, List.setIfInBounds_toArray, List.set_cons_zero, List.set_cons_succ]
      change Upto _ _ _ _ _ _ _ _ _ (w5.drew.alloc (.cells #[.map none, .map none] 65))
      have CB := HCB.out _ hbd2
      have HSX2 : Hid ((w5.drew.alloc (.cells #[.map none, .map none] 65)).rangeAt r 9 [rf, ob] ∧ Blk (w5.drew.alloc (.cells #[.map none, .map none] 65)) w.heap.size 32 cs4) := Lib.hid ⟨rngP_below HSX.out.1 hba HRL.out, HSX.out.2.below hba HSX.out.2.lt⟩
      have HRL2 : Hid (r < (w5.drew.alloc (.cells #[.map none, .map none] 65)).heap.size) := Lib.hid (Nat.lt_of_lt_of_le HRL.out hba.size)
      have hnb0' : Blk (w5.drew.alloc (.cells #[.map none, .map none] 65)) w5.heap.size 65 #[.map none, .map none] := hnb0
      have HB6 := Lib.hid hbd2
      clear hba hbd2 hnb0
      generalize w5.drew.alloc (.cells #[.map none, .map none] 65) = w6 at CB HSX2 HRL2 hnb0' HB6 ⊢
      refine Upto.one (i := 5) (by kernel_rfl) rfl (by rfl) (fun K hK => ?_)
      go_simp
      refine CB.mono ?_
      rintro x w7 ⟨b1, b2, n1, m1, rfl, hm1, hm2, hn1, hn2, hb7⟩
      refine hK _ _ (fun _ _ => ⟨rngP_below HSX2.out.1 hb7 HRL2.out, HSX2.out.2.below hb7 HSX2.out.2.lt⟩) ?_
      clear hK
      try simp only [Act.put, List.getElem_toArray, List.getElem_cons_zero, List.getElem_cons_succ, List.setIfInBounds_toArray, List.set_cons_zero, List.set_cons_succ]
      have hnb := hnb0'.below hb7 hnb0'.lt
      have hg7 : w7.grownBy (w7.setRow w5.heap.size #[.map (some b1), .map (some b2)]) (some w5.heap.size) := only_setRow (World.grownBy.refl w7 _) (Or.inl rfl) _
      have hmb : ∀ b, (∃ es ck, w7.heap[b]? = some (.map es ck)) → some b ≠ some w5.heap.size := fun b hb e => by
       obtain ⟨es, ck, h1⟩ := hb
       injection e with e
       rw [e, hnb] at h1
       cases h1
      have HFIN : Hid (Blk (w7.setRow w5.heap.size #[.map (some b1), .map (some b2)]) w5.heap.size 65 #[.map (some b1), .map (some b2)] ∧ w5.heap.size ≤ w5.heap.size ∧ MapS (w7.setRow w5.heap.size #[.map (some b1), .map (some b2)]) b1 n1 (fun i => (Rp.behindR s.refs e.ups i).map idV) ∧ MapO (w7.setRow w5.heap.size #[.map (some b1), .map (some b2)]) b2 m1 (fun x => (behindT O ts4 x).map (·.val)) ∧ n1 ≤ N + e.ups.length ∧ m1 ≤ M + e.objs.length ∧ Below w5.heap.size w5 (w7.setRow w5.heap.size #[.map (some b1), .map (some b2)])) := Lib.hid ⟨hnb.row _, Nat.le_refl _, hm1.kept hg7 (hmb _ hm1.is), hm2.kept hg7 (hmb _ hm2.is), hn1, hn2, below_of_only (below_next HB6.out hb7) hg7 (Nat.le_refl _)⟩
      clear hg7 hmb
      refine Upto.one (i := 7) (by kernel_rfl) rfl (by rfl) (fun K hK => ?_)
      refine wp_store_row 65 (.tmp 7) (.tmp 35) (by rfl) w5.heap.size #[.map (some b1), .map (some b2)] (by rfl) (by rfl) 65 #[.map none, .map none] hnb (by kernel_rfl) (by rfl) (by simp [Value.oneCell']) ?_
      refine hK _ _ (fun h => absurd rfl h) ?_
      try simp only [Act.put, List.getElem_toArray, List.getElem_cons_zero, List.getElem_cons_succ]
      refine Upto.done (by kernel_rfl) ?_ _
      go_wp2
      go_meet
      case rel => exact ⟨_, rfl, b1, b2, n1, m1, HFIN⟩
    case rest =>
     obtain ⟨gb, rfl, b1, b2, n1, m1, HC⟩ := hcut
     have hbc := HC.out.2.2.2.2.2.2
     have HBC := Lib.hid (below_next HB5.out hbc)
     have HXC := Lib.hid (HX5.out.below hbc HX5.out.lt)
     have HJC := Lib.hid (HJ5.out.below hbc)
     have HRC := Lib.hid (HRX.out.below hbc)
     have HGC := Lib.hid (rngP_below HRG.out hbc HRX.out.rp.lt)
     have HMC := Lib.hid (And.intro HC.out.1 (And.intro HC.out.2.2.1 (And.intro HC.out.2.2.2.1 (And.intro HC.out.2.2.2.2.1 HC.out.2.2.2.2.2.1))))
     clear hbc HC HRX HRG HX5 HJ5 HCB HB5
     clear w5
     have hbd : Below wc.heap.size wc wc.drew := below_drewN (Below.refl _ _) 1
     have hok := behindT_ok (j := ⟨e, cs4, U4, cu4, O4, co4, ts4⟩) HRC.out HJC.out HR.out HFT.out
     have CF := fault_any s O rf ob b1 b2 N M n1 m1 e cs4 U4 O4 cu4 co4 ts4 a wc.drew (HRC.out.refs.below hbd) (HRC.out.objs.below hbd) H.out.oeq (HMC.out.2.1.below hbd) (HMC.out.2.2.1.below hbd) (fun x p hp => ⟨(hok x p hp).1.rd.below hbd (Nat.le_refl _), (hok x p hp).2⟩) (HJC.out.below hbd).ent HR.out H.out.good HFT.out (by have := H.out.lim; have := HJ.out; have := HMC.out.2.2.2.1; have := Rp.right_ups HR.out; omega) (by have := H.out.lim; have := HJ.out; have := HMC.out.2.2.2.2; have := Rp.right_ups HR.out; omega) (by have := H.out.lim; have := HJ.out; omega) (HT.out.below (below_next HBC.out hbd) (Nat.le_refl _)) (HS.out.at_ (below_next HBC.out hbd))
     have HRL : Hid (r < wc.drew.heap.size) := Lib.hid HRC.out.rp.lt
     have HSX : Hid (wc.drew.rangeAt r 9 [rf, ob] ∧ Blk wc.drew w.heap.size 32 cs4 ∧ Blk wc.drew gb 65 #[.map (some b1), .map (some b2)]) := Lib.hid ⟨HGC.out, HXC.out, HMC.out.1⟩
     have HBD := Lib.hid hbd
     clear hok hbd
     go_wp2_with fail
     refine wp_region_upto (S := fun w' => w'.rangeAt r 9 [rf, ob] ∧ Blk w' w.heap.size 32 cs4 ∧ Blk w' gb 65 #[.map (some b1), .map (some b2)]) (b := 7) (by kernel_rfl) ?_
     change Upto _ _ _ _ _ _ _ _ _ wc.drew
     refine Upto.takeY (i := 0) (v := ?_) rfl (by kernel_rfl) (by kernel_rfl) (by kernel_rfl) (by kernel_rfl) (fun _ _ _ h => h) (Or.inl ⟨by rfl, ?_⟩) (fun _ => HSX.out) ?_
     rotate_left
     ·intro w' _; go_simp; with_reducible rfl
     try simp only [Act.put, List.getElem_toArray, List.getElem_cons_zero, List.setIfInBounds_toArray, List.set_cons_zero, List.set_cons_succ]
     refine Upto.takeY (i := 1) (v := ?_) rfl (by kernel_rfl) (by kernel_rfl) (by kernel_rfl) (by kernel_rfl) (fun _ _ _ h => h) (Or.inl ⟨by rfl, ?_⟩) (fun _ => HSX.out) ?_
     rotate_left
     ·intro w' _; go_simp; with_reducible rfl
     try simp only [Act.put, List.getElem_toArray, List.getElem_cons_zero, List.getElem_cons_succ, List.setIfInBounds_toArray, List.set_cons_zero, List.set_cons_succ]
     refine Upto.takeY (i := 2) (v := ?_) rfl (by kernel_rfl) (by kernel_rfl) (by kernel_rfl) (by kernel_rfl) (fun _ _ _ h => h) (Or.inl ⟨by rfl, ?_⟩) (fun _ => HSX.out) ?_
     rotate_left
     ·intro w' _; go_simp; with_reducible rfl
     try simp only [Act.put, List.getElem_toArray, List.getElem_cons_zero, List.getElem_cons_succ, List.setIfInBounds_toArray, List.set_cons_zero, List.set_cons_succ]
     refine Upto.take (i := 3) (v := .agg ([rf, ob]).toArray) rfl (by kernel_rfl) (by kernel_rfl) (by kernel_rfl) (by kernel_rfl) (fun _ _ _ h => h) (takes_midE 65 (.tmp 38) rfl (by rfl) r 9 (by rfl) ([rf, ob]) _ (fun w' hS => hS.1) (by first | exact Tryz.underlying65 | kernel_rfl) (by rfl) (by kernel_rfl)) HSX.out ?_
     try simp only [Act.put, List.getElem_toArray, List.getElem_cons_zero, List.getElem_cons_succ, List.setIfInBounds_toArray, List.set_cons_zero, List.set_cons_succ]
     refine Upto.take (i := 4) (v := .agg (cs4)) rfl (by kernel_rfl) (by kernel_rfl) (by kernel_rfl) (by kernel_rfl) (fun _ _ _ h => h) (takes_row 32 (.tmp 3) rfl (by rfl) w.heap.size (by rfl) 32 (cs4) _ (fun w' hS => hS.2.1) (by first | exact Tryz.underlying32 | kernel_rfl) (by rfl) (ent_load H54.out)) HSX.out ?_
     try simp only [Act.put, List.getElem_toArray, List.getElem_cons_zero, List.getElem_cons_succ, List.setIfInBounds_toArray, List.set_cons_zero, List.set_cons_succ]
     refine Upto.take (i := 5) (v := .agg (#[.map (some b1), .map (some b2)])) rfl (by kernel_rfl) (by kernel_rfl) (by kernel_rfl) (by kernel_rfl) (fun _ _ _ h => h) (takes_row 65 (.tmp 7) rfl (by rfl) gb (by rfl) 65 (#[.map (some b1), .map (some b2)]) _ (fun w' hS => hS.2.2) (by first | exact Tryz.underlying65 | kernel_rfl) (by rfl) (by kernel_rfl)) HSX.out ?_
     try simp only [Act.put, List.getElem_toArray, List.getElem_cons_zero, List.getElem_cons_succ, List.setIfInBounds_toArray, List.set_cons_zero, List.set_cons_succ]
     obtain ⟨q, hq⟩ : ∃ q, q = Rp.fault s e := ⟨_, rfl⟩
     rw [← hq] at CF
     have HQ : Hid (Rp.step s e = q) := Lib.hid (by unfold Rp.step; rw [if_pos HR.out, if_neg (by have := HST.out; omega), if_pos H0.out, hq])
     clear hq
     refine Upto.one (i := 6) (by kernel_rfl) rfl (by rfl) (fun K hK => ?_)
     go_simp
     refine CF.mono ?_
     rintro x w6 ⟨rfl, hb6⟩
     have HB6 := Lib.hid (below_next HBD.out hb6)
     have HS6 : Hid (w6.rangeAt r 9 [rf, ob] ∧ Blk w6 w.heap.size 32 cs4 ∧ Blk w6 gb 65 #[.map (some b1), .map (some b2)]) := Lib.hid ⟨rngP_below HSX.out.1 hb6 HRL.out, HSX.out.2.1.below hb6 HSX.out.2.1.lt, HSX.out.2.2.below hb6 HSX.out.2.2.lt⟩
     clear CF hb6 HSX
     refine hK _ _ (fun _ _ => HS6.out) ?_
     clear hK
     try simp only [Act.put, List.getElem_toArray, List.getElem_cons_zero, List.getElem_cons_succ, List.setIfInBounds_toArray, List.set_cons_zero, List.set_cons_succ]
     refine Upto.one (i := 7) (by kernel_rfl) rfl (by rfl) (fun K hK => ?_)
     go_simp
     refine hK _ _ (fun h => absurd rfl h) ?_
     clear hK
     try simp only [Act.put, List.getElem_toArray, List.getElem_cons_zero, List.getElem_cons_succ, List.setIfInBounds_toArray, List.set_cons_zero, List.set_cons_succ]
     refine Upto.done (by kernel_rfl) ?_ _
     cases q with
     | succ q =>
      have HF := Lib.hid (ApPost.no (a := a) H.out (below_next HBC.out HB6.out) HQ.out)
      have e1 : errV a (q + 1) = ev (a q) := rfl
      rw [e1]
      clear e1
      go_wp2
      go_ret
      exact HF.out
     | zero =>
      have e1 : errV a 0 = .nilIface := rfl
      rw [e1]
      clear e1
      go_wp2_with (with_reducible (show wpList _ _ _ (Oper.mk _ (Op.load 65 _) _ _ _ _ :: _) _ _); refine pause ?_)
      unfold Paused
      refine wpList_row_w (by rfl) 65 (.tmp 7) (by rfl) gb (by rfl) 65 #[.map (some b1), .map (some b2)] _ HS6.out.2.2 Tryz.underlying65 (by rfl) (by kernel_rfl) ?_
      go_wp2_with (with_reducible (show wpList _ _ _ (Oper.mk _ (Op.store 65 _ _) _ _ _ _ :: _) _ _); refine pause ?_)
      unfold Paused
      have hr6 := HRC.out.below (HB6.out)
      refine wpList_store_mid (by rfl) 65 (.tmp 49) (.tmp 47) (by rfl) r 9 #[.map (some b1), .map (some b2)] (by rfl) (by rfl) (fun j hj => by
       have hj2 : j < 2 := hj
       refine ⟨?_, hr6.rp.blk.frozen (9 + j)⟩
       match j, hj2 with
       | 0, _ => rw [show 9 + 0 = 9 from rfl, hr6.rp.refs]; rfl
       | 1, _ => rw [show 9 + 1 = 10 from rfl, hr6.rp.objs]; rfl) (by kernel_rfl) (by simp [Value.oneCell']) ?_
      change wpList _ _ _ _ _ ((w6.setCell ⟨r, 9, none⟩ (.map (some b1))).setCell ⟨r, 10, none⟩ (.map (some b2)))
      have HF : Hid (ApT w ((w6.setCell ⟨r, 9, none⟩ (.map (some b1))).setCell ⟨r, 10, none⟩ (.map (some b2))) r A c (.map (some b1)) (.map (some b2)) n1 m1 js (behindT O ts4) s ⟨e, cs4, U4, cu4, O4, co4, ts4⟩ ∧ Rp.step s e = 0) := Lib.hid ⟨ApT.of0 H.out (below_next HBC.out HB6.out) HS6.out.2.1 (HJC.out.below HB6.out) H0.out HR.out HFT.out (Or.inr ⟨b1, rfl, HMC.out.2.1.below HB6.out⟩) (Or.inr ⟨b2, rfl, HMC.out.2.2.1.below HB6.out⟩) (by have := HMC.out.2.2.2.1; have := Rp.right_ups HR.out; omega) (by have := HMC.out.2.2.2.2; have := Rp.right_ups HR.out; omega), HQ.out⟩
      clear hr6 HS6
      generalize (w6.setCell ⟨r, 9, none⟩ (.map (some b1))).setCell ⟨r, 10, none⟩ (.map (some b2)) = w7 at HF ⊢
      simp only [Act.put]
      go_wp2
      go_meet
      case rel => exact ⟨_, _, _, _, _, HF⟩
   ·have HF : Hid (ApT w w5 r A c rf ob N M js O s ⟨e, cs4, U4, cu4, O4, co4, ts4⟩ ∧ Rp.step s e = 0) := Lib.hid ⟨ApT.of H.out HB5.out HX5.out HJ5.out h0, by unfold Rp.step; rw [if_pos HR.out, if_neg (by have := HST.out; omega), if_neg h0]⟩
    have i0 : (e.answer == 0) = false := by simp [h0]
    go_wp2
    go_meet
    case rel => exact ⟨_, _, _, _, _, HF⟩
  case rest =>
   obtain ⟨rf', ob', N', M', O', HA⟩ := hcut
   clear HX5 HB5 HJ5 p2
   clear w5
   obtain ⟨ip, hip, hpz, hps, hpb⟩ := info_parts ent_info
   have HIP : Hid (_ ∧ _ ∧ _ ∧ _) := Lib.hid ⟨hip, hpz, hps, hpb⟩
   clear hip hpz hps hpb
   have HSX : Hid (wc.drew.cell? ⟨r, 0, none⟩ = some (.slice A js.length c) ∧ Blk wc.drew w.heap.size 32 cs4) := Lib.hid ⟨HA.out.1.rp.at0, HA.out.1.box⟩
   have HB : Hid (Below wc.heap.size wc wc.drew) := Lib.hid (below_drewN (Below.refl _ _) 1)
   obtain ⟨nj, hnj⟩ : ∃ nj, nj = js.length := ⟨_, rfl⟩
   rw [← hnj] at HSX
   have HNJ := Lib.hid hnj
   clear hnj
   go_wp2_with fail
   refine wp_region_upto (S := fun w' => w'.cell? ⟨r, 0, none⟩ = some (.slice A nj c) ∧ Blk w' w.heap.size 32 cs4) (b := 10) (by kernel_rfl) ?_
   change Upto _ _ _ _ _ _ _ _ _ wc.drew
   refine Upto.takeY (i := 0) (v := ?_) rfl (by kernel_rfl) (by kernel_rfl) (by kernel_rfl) (by kernel_rfl) (fun _ _ _ h => h) (Or.inl ⟨by rfl, ?_⟩) (fun _ => HSX.out) ?_
   rotate_left
   ·intro w' _; go_simp; with_reducible rfl
   try simp only [Act.put, List.getElem_toArray, List.getElem_cons_zero, List.setIfInBounds_toArray, List.set_cons_zero, List.set_cons_succ]
   refine Upto.takeY (i := 1) (v := ?_) rfl (by kernel_rfl) (by kernel_rfl) (by kernel_rfl) (by kernel_rfl) (fun _ _ _ h => h) (Or.inl ⟨by rfl, ?_⟩) (fun _ => HSX.out) ?_
   rotate_left
   ·intro w' _; go_simp; with_reducible rfl
   try simp only [Act.put, List.getElem_toArray, List.getElem_cons_zero, List.getElem_cons_succ, List.setIfInBounds_toArray, List.set_cons_zero, List.set_cons_succ]
   refine Upto.takeY (i := 2) (v := ?_) rfl (by kernel_rfl) (by kernel_rfl) (by kernel_rfl) (by kernel_rfl) (fun _ _ _ h => h) (Or.inl ⟨by rfl, ?_⟩) (fun _ => HSX.out) ?_
   rotate_left
   ·intro w' _; go_simp; with_reducible rfl
   try simp only [Act.put, List.getElem_toArray, List.getElem_cons_zero, List.getElem_cons_succ, List.setIfInBounds_toArray, List.set_cons_zero, List.set_cons_succ]
   refine Upto.takeY (i := 3) (v := ?_) rfl (by kernel_rfl) (by kernel_rfl) (by kernel_rfl) (by kernel_rfl) (fun _ _ _ h => h) (Or.inl ⟨by rfl, ?_⟩) (fun _ => HSX.out) ?_
   rotate_left
   ·intro w' _; go_simp; with_reducible rfl
   try simp only [Act.put, List.getElem_toArray, List.getElem_cons_zero, List.getElem_cons_succ, List.setIfInBounds_toArray, List.set_cons_zero, List.set_cons_succ]
   refine Upto.take (i := 4) (v := ?_) rfl (by kernel_rfl) (by kernel_rfl) (by kernel_rfl) (by kernel_rfl) (fun _ _ _ h => h) (Or.inl ⟨by rfl, ?_⟩) HSX.out ?_
   rotate_left
   ·intro w' hS; have h0 := hS.1; go_simp; with_reducible rfl
   try simp only [Act.put, List.getElem_toArray, List.getElem_cons_zero, List.getElem_cons_succ, List.setIfInBounds_toArray, List.set_cons_zero, List.set_cons_succ]
   refine Upto.take (i := 5) (v := .agg (cs4)) rfl (by kernel_rfl) (by kernel_rfl) (by kernel_rfl) (by kernel_rfl) (fun _ _ _ h => h) (takes_row 32 (.tmp 3) rfl (by rfl) w.heap.size (by rfl) 32 (cs4) _ (fun w' hS => hS.2) (by first | exact Tryz.underlying32 | kernel_rfl) (by rfl) (ent_load H54.out)) HSX.out ?_
   try simp only [Act.put, List.getElem_toArray, List.getElem_cons_zero, List.getElem_cons_succ, List.setIfInBounds_toArray, List.set_cons_zero, List.set_cons_succ]
   refine Upto.one (i := 6) (by kernel_rfl) rfl (by rfl) (fun K hK => ?_)
   refine wp_buildSliceK 22 32 1 _ (by rfl) cs4.toList.toArray ip (.agg zJ) Tryz.underlying22 HIP.out.1 HIP.out.2.1 (by rw [HIP.out.2.2.1]; decide) (by rw [HIP.out.2.2.1]; decide) [(0, .agg cs4.toList.toArray)] (by kernel_rfl) (by rw [HIP.out.2.2.1]; exact fill_one 5 (Value.agg zJ).cells cs4.toList (by rw [Array.length_toList]; exact H54.out) (by rfl)) ?_
   have hba : Below wc.drew.heap.size wc.drew (wc.drew.alloc (.cells cs4.toList.toArray 32)) := (Below.refl _ _).alloc (Nat.le_refl _) _
   have HA6 := Lib.hid (And.intro (HA.out.1.below (below_next HB.out hba)) HA.out.2)
   have hx6 : Blk (wc.drew.alloc (.cells cs4.toList.toArray 32)) wc.drew.heap.size 32 cs4.toList.toArray := Blk.new _ _ _
   have HX6 := Lib.hid hx6
   refine hK _ _ (fun _ _ => ⟨by have h := HA6.out.1.rp.at0; rw [← HNJ.out] at h; exact h, HA6.out.1.box⟩) ?_
   clear hK hba hx6 HSX HA
   generalize wc.drew.alloc (.cells cs4.toList.toArray 32) = w6 at HA6 HX6 ⊢
   generalize wc.drew.heap.size = g6 at HX6 ⊢
   try simp only [Act.put, List.getElem_toArray, List.getElem_cons_zero, List.getElem_cons_succ, List.setIfInBounds_toArray, List.set_cons_zero, List.set_cons_succ]
   refine Upto.one (i := 7) (by kernel_rfl) rfl (by rfl) (fun K hK => ?_)
   refine wp_append_own w6 (.tmp 54) (.tmp 56) 22 (by rfl) (r + 1) 32 ip (.agg zJ) 5 72 Tryz.underlying22 HIP.out.1 HIP.out.2.1 HIP.out.2.2.1 HIP.out.2.2.2 (by rfl) (by decide) (.slice A nj c) nj (cellsJ js) (by rfl) (by have h := HA6.out.1.own; rw [← HNJ.out] at h; exact h) ⟨g6, 0, none⟩ 1 1 cs4.toList (by rfl) (by rw [Array.length_toList]; exact H54.out) (fun j u hj => by rw [Addr.add_mid, Nat.zero_add, HX6.out.cell j]; simpa using hj) (fun v hv => by
    have h1 := HA6.out.1.jk.ent.oneJ
    rw [Array.all_eq_true_iff_forall_mem] at h1
    exact h1 v (by simpa using hv)) (by have := HJ.out; have := HNJ.out; unfold maxLen; omega) (by have := HJ.out; have := HNJ.out; omega) (by have := HA6.out.1.rp.lt; omega) ?_
   intro v7 w7 ho hg _
   obtain ⟨A7, c7, rfl⟩ := own_slice ho
   have HU : Hid (ApU w (w7.setCell ⟨r, 0, none⟩ (.slice A7 (nj + 1) c7)) r A c (.slice A7 (nj + 1) c7) rf' ob' N' M' js O' s ⟨e, cs4, U4, cu4, O4, co4, ts4⟩) := Lib.hid (HA6.out.1.app (by rw [← HNJ.out]; exact ho) (by rw [← HNJ.out]; exact hg))
   have hz : some w.heap.size ≠ (Value.slice A nj c).ownBlock := fun e => by
    have := HA6.out.1.jlt.2 w.heap.size (by rw [← HNJ.out]; exact e.symm)
    omega
   have hr1 : some r ≠ (Value.slice A nj c).ownBlock := fun e => by
    have h := HA6.out.1.own.lt r (by rw [← HNJ.out]; exact e.symm)
    omega
   have HS7 : Hid (w7.cell? ⟨r, 0, none⟩ = some (.slice A nj c) ∧ Blk w7 w.heap.size 32 cs4 ∧ w7.frozen? ⟨r, 0, none⟩ = false) := Lib.hid ⟨by
    have h := (HA6.out.1.rp.blk.grown hg hr1).cell 0
    rw [← HNJ.out] at h
    exact h, HA6.out.1.box.grown hg hz, (HA6.out.1.rp.blk.grown hg hr1).frozen 0⟩
   have HST0 := Lib.hid HA6.out.2
   clear ho hg hz hr1 HA6 HX6
   refine hK _ _ (fun _ _ => ⟨HS7.out.1, HS7.out.2.1⟩) ?_
   clear hK
   try simp only [Act.put, List.getElem_toArray, List.getElem_cons_zero, List.getElem_cons_succ, List.setIfInBounds_toArray, List.set_cons_zero, List.set_cons_succ]
   have HSX : Hid (w7.cell? ⟨r, 0, none⟩ = some (.slice A nj c) ∧ Blk w7 w.heap.size 32 cs4) := Lib.hid ⟨HS7.out.1, HS7.out.2.1⟩
   refine Upto.takeY (i := 8) (v := ?_) rfl (by kernel_rfl) (by kernel_rfl) (by kernel_rfl) (by kernel_rfl) (fun _ _ _ h => h) (Or.inl ⟨by rfl, ?_⟩) (fun _ => HSX.out) ?_
   rotate_left
   ·intro w' _; go_simp; with_reducible rfl
   try simp only [Act.put, List.getElem_toArray, List.getElem_cons_zero, List.getElem_cons_succ, List.setIfInBounds_toArray, List.set_cons_zero, List.set_cons_succ]
   refine Upto.takeY (i := 9) (v := ?_) rfl (by kernel_rfl) (by kernel_rfl) (by kernel_rfl) (by kernel_rfl) (fun _ _ _ h => h) (Or.inl ⟨by rfl, ?_⟩) (fun _ => HSX.out) ?_
   rotate_left
   ·intro w' _; go_simp; with_reducible rfl
   try simp only [Act.put, List.getElem_toArray, List.getElem_cons_zero, List.getElem_cons_succ, List.setIfInBounds_toArray, List.set_cons_zero, List.set_cons_succ]
   clear HSX
   have q7 := HS7.out.1
   have f7 := HS7.out.2.2
   refine Upto.one (i := 10) (by kernel_rfl) rfl (by rfl) (fun K hK => ?_)
   go_simp
   refine hK _ _ (fun h => absurd rfl h) ?_
   clear hK q7 f7 HS7
   generalize w7.setCell ⟨r, 0, none⟩ (.slice A7 (nj + 1) c7) = w8 at HU ⊢
   clear w7
   try simp only [Act.put, List.getElem_toArray, List.getElem_cons_zero, List.getElem_cons_succ, List.setIfInBounds_toArray, List.set_cons_zero, List.set_cons_succ]
   refine Upto.done (by kernel_rfl) ?_ _
   go_wp2_with fail
   have HSX : Hid (w8.drew.cell? ⟨r, 0, none⟩ = some (.slice A7 (nj + 1) c7) ∧ w8.drew.cell? ⟨w.heap.size, 0, none⟩ = some (.int .i64 (k : Nat))) := Lib.hid ⟨HU.out.rp.at0, by
    have h := HU.out.box.cell 0
    rw [show w8.drew.cell? ⟨w.heap.size, 0, none⟩ = w8.cell? ⟨w.heap.size, 0, none⟩ from rfl, h]
    have h2 := HU.out.jk.ent.cells
    dsimp only at h2
    rw [h2, HK.out.1]
    rfl⟩
   refine wp_region_upto (S := fun w' => w'.cell? ⟨r, 0, none⟩ = some (.slice A7 (nj + 1) c7) ∧ w'.cell? ⟨w.heap.size, 0, none⟩ = some (.int .i64 (k : Nat))) (b := 11) (by kernel_rfl) ?_
   change Upto _ _ _ _ _ _ _ _ _ w8.drew
   have k1 : (0 : Int) ≤ ((k : Nat) : Int) := by omega
   have k2 : ((k : Nat) : Int) < 8 := by have := HK.out.2; omega
   refine Upto.takeY (i := 0) (v := ?_) rfl (by kernel_rfl) (by kernel_rfl) (by kernel_rfl) (by kernel_rfl) (fun _ _ _ h => h) (Or.inl ⟨by rfl, ?_⟩) (fun _ => HSX.out) ?_
   rotate_left
   ·intro w' _; go_simp; with_reducible rfl
   try simp only [Act.put, List.getElem_toArray, List.getElem_cons_zero, List.setIfInBounds_toArray, List.set_cons_zero, List.set_cons_succ]
   refine Upto.takeY (i := 1) (v := ?_) rfl (by kernel_rfl) (by kernel_rfl) (by kernel_rfl) (by kernel_rfl) (fun _ _ _ h => h) (Or.inl ⟨by rfl, ?_⟩) (fun _ => HSX.out) ?_
   rotate_left
   ·intro w' _; go_simp; with_reducible rfl
   try simp only [Act.put, List.getElem_toArray, List.getElem_cons_zero, List.getElem_cons_succ, List.setIfInBounds_toArray, List.set_cons_zero, List.set_cons_succ]
   refine Upto.take (i := 2) (v := ?_) rfl (by kernel_rfl) (by kernel_rfl) (by kernel_rfl) (by kernel_rfl) (fun _ _ _ h => h) (Or.inl ⟨by rfl, ?_⟩) HSX.out ?_
   rotate_left
   ·intro w' hS; have h0 := hS.2; go_simp; with_reducible rfl
   try simp only [Act.put, List.getElem_toArray, List.getElem_cons_zero, List.getElem_cons_succ, List.setIfInBounds_toArray, List.set_cons_zero, List.set_cons_succ]
   refine Upto.takeY (i := 3) (v := ?_) rfl (by kernel_rfl) (by kernel_rfl) (by kernel_rfl) (by kernel_rfl) (fun _ _ _ h => h) (Or.inl ⟨by rfl, ?_⟩) (fun _ => HSX.out) ?_
   rotate_left
   ·intro w' _; go_simp; with_reducible rfl
   try simp only [Act.put, List.getElem_toArray, List.getElem_cons_zero, List.getElem_cons_succ, List.setIfInBounds_toArray, List.set_cons_zero, List.set_cons_succ]
   refine Upto.takeY (i := 4) (v := ?_) rfl (by kernel_rfl) (by kernel_rfl) (by kernel_rfl) (by kernel_rfl) (fun _ _ _ h => h) (Or.inl ⟨by rfl, ?_⟩) (fun _ => HSX.out) ?_
   rotate_left
   ·intro w' _; go_simp; with_reducible rfl
   try simp only [Act.put, List.getElem_toArray, List.getElem_cons_zero, List.getElem_cons_succ, List.setIfInBounds_toArray, List.set_cons_zero, List.set_cons_succ]
   refine Upto.takeY (i := 5) (v := ?_) rfl (by kernel_rfl) (by kernel_rfl) (by kernel_rfl) (by kernel_rfl) (fun _ _ _ h => h) (Or.inl ⟨by rfl, ?_⟩) (fun _ => HSX.out) ?_
   rotate_left
   ·intro w' _; go_simp; with_reducible rfl
   try simp only [Act.put, List.getElem_toArray, List.getElem_cons_zero, List.getElem_cons_succ, List.setIfInBounds_toArray, List.set_cons_zero, List.set_cons_succ]
   refine Upto.take (i := 6) (v := ?_) rfl (by kernel_rfl) (by kernel_rfl) (by kernel_rfl) (by kernel_rfl) (fun _ _ _ h => h) (Or.inl ⟨by rfl, ?_⟩) HSX.out ?_
   rotate_left
   ·intro w' hS; have h0 := hS.1; go_simp; with_reducible rfl
   try simp only [Act.put, List.getElem_toArray, List.getElem_cons_zero, List.getElem_cons_succ, List.setIfInBounds_toArray, List.set_cons_zero, List.set_cons_succ]
   refine Upto.takeY (i := 7) (v := ?_) rfl (by kernel_rfl) (by kernel_rfl) (by kernel_rfl) (by kernel_rfl) (fun _ _ _ h => h) (Or.inl ⟨by rfl, ?_⟩) (fun _ => HSX.out) ?_
   rotate_left
   ·intro w' _; go_simp; with_reducible rfl
   try simp only [Act.put, List.getElem_toArray, List.getElem_cons_zero, List.getElem_cons_succ, List.setIfInBounds_toArray, List.set_cons_zero, List.set_cons_succ]
   refine Upto.takeY (i := 8) (v := ?_) rfl (by kernel_rfl) (by kernel_rfl) (by kernel_rfl) (by kernel_rfl) (fun _ _ _ h => h) (Or.inl ⟨by rfl, ?_⟩) (fun _ => HSX.out) ?_
   rotate_left
   ·intro w' _; go_simp; with_reducible rfl
   try simp only [Act.put, List.getElem_toArray, List.getElem_cons_zero, List.getElem_cons_succ, List.setIfInBounds_toArray, List.set_cons_zero, List.set_cons_succ]
   refine Upto.takeY (i := 9) (v := ?_) rfl (by kernel_rfl) (by kernel_rfl) (by kernel_rfl) (by kernel_rfl) (fun _ _ _ h => h) (Or.inl ⟨by rfl, ?_⟩) (fun _ => HSX.out) ?_
   rotate_left
   ·intro w' _; go_simp; with_reducible rfl
   try simp only [Act.put, List.getElem_toArray, List.getElem_cons_zero, List.getElem_cons_succ, List.setIfInBounds_toArray, List.set_cons_zero, List.set_cons_succ]
   refine Upto.take (i := 10) (v := .pointer (some ⟨r, 1 + k, none⟩)) rfl (by kernel_rfl) (by kernel_rfl) (by kernel_rfl) (by kernel_rfl) (fun _ _ _ h => h) (Or.inl ⟨by rfl, ?_⟩) HSX.out ?_
   ·intro w' hS; first | (go_simp; done) | (go_simp; with_reducible rfl)
   try simp only [Act.put, List.getElem_toArray, List.getElem_cons_zero, List.getElem_cons_succ, List.setIfInBounds_toArray, List.set_cons_zero, List.set_cons_succ]
   have q8 : w8.drew.cell? ⟨r, 1 + k, none⟩ = some (.int .i64 (((Rp.lastsOf s.js).getD k 0 : Nat) : Int)) := HU.out.rp.at_ HK.out.2
   have f8 : w8.drew.frozen? ⟨r, 1 + k, none⟩ = false := HU.out.rp.blk.frozen (1 + k)
   have HFIN : Hid (ApPost w r A js.length c s e a (.returned .nilIface) (w8.drew.setCell ⟨r, 1 + k, none⟩ (.int .i64 ((nj + 1 : Nat) : Int)))) := Lib.hid (by
    have hd := ApU.done (by have h := HU.out.below (below_drewN (Below.refl w8.heap.size w8) 1); rw [HNJ.out] at h; exact h : ApU w w8.drew r A c (.slice A7 (js.length + 1) c7) rf' ob' N' M' js O' s ⟨e, cs4, U4, cu4, O4, co4, ts4⟩) H.out.es H.out.good HST0.out HFT.out HK.out.1 HK.out.2
    rw [HNJ.out]
    refine ⟨by rw [HST0.out]; rfl, ⟨A7, c7, rf', ob', N', M', js ++ [⟨e, cs4, U4, cu4, O4, co4, ts4⟩], O', ?_⟩, hd.2⟩
    have h1 : Rp.next s e = Rp.put s e := by unfold Rp.next; rw [if_pos HST0.out]
    rw [h1]
    exact hd.1)
   refine Upto.one (i := 11) (by kernel_rfl) rfl (by rfl) (fun K hK => ?_)
   go_simp
   refine hK _ _ (fun h => absurd rfl h) ?_
   clear hK q8 f8 HSX
   try simp only [Act.put, List.getElem_toArray, List.getElem_cons_zero, List.getElem_cons_succ, List.setIfInBounds_toArray, List.set_cons_zero, List.set_cons_succ]
   refine Upto.done (by kernel_rfl) ?_ _
   go_wp2
   go_ret
   exact HFIN.out
end Go.Proofs.YtgcgomdhdgjpdaaGreatDoor
