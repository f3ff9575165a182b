/- An entry's bytes: entry.written. -/
import Derived.Test.YtgcgomdhdgjpdaaGreatDoorMEn12s
import Derived.Test.YtgcgomdhdgjpdaaGreatDoorMOb28
namespace Go.Proofs.YtgcgomdhdgjpdaaGreatDoor
open Go Go.RowKit
structure WrE (w wr : World) (e : En.E) (ca : Array Value) (U : Option Addr) (cu : Nat) (O : Option Addr) (co : Nat) (ts : List En.Bt) (v : Value) (fs : List Fld) : Prop where
 fw : FW w wr v fs
 en : EnB w wr e ca U cu O co ts
section
variable {w wr w' : World} {e : En.E} {ca : Array Value} {U O : Option Addr} {cu co : Nat} {ts : List En.Bt} {v v2 : Value} {fs gs : List Fld}
theorem WrE.below (h : WrE w wr e ca U cu O co ts v fs) (hb : Below wr.heap.size wr w') : WrE w w' e ca U cu O co ts v fs := ⟨h.fw.below hb, h.en.below hb⟩
theorem FW.off (h : FW w wr v fs) {g t : Nat} {cs : Array Value} (hb : Blk wr g t cs) (ht : t ≠ 151) : some g ≠ v.ownBlock := fun e => by
 rcases h.own.2 with ⟨hv, _⟩ | ⟨g2, cap, cur, hv, _, hh, _⟩
 ·rw [hv] at e; simp [Value.ownBlock] at e
 ·rw [hv] at e
  obtain rfl : g = g2 := by simpa [Value.ownBlock] using e
  have h1 : wr.heap[g]? = some (.cells cs t (0, 0)) := hb
  rw [hh] at h1
  injection h1 with h1
  injection h1 with _ h3 _
  exact ht h3.symm
theorem WrE.put (h : WrE w wr e ca U cu O co ts v fs) (h0 : EnC w e ca U cu O co ts) (ho : w'.ownsRow w.heap.size 151 2 v2 (fs.length + gs.length) (cellsFd fs ++ cellsFd gs)) (hg : wr.grownBy w' v.ownBlock) (ht : ∀ f ∈ gs, TxtF wr f) : WrE w w' e ca U cu O co ts v2 (fs ++ gs) :=
 have h1 := h.fw.put ho hg ht
 ⟨h1, h1.bel, h.en.box.grown hg (h.fw.off h.en.box (by decide)), h0.below h1.bel⟩
end
theorem pad_low {w w6 w' : World} {v : Value} {ys : List Nat} (h : Pad w6.heap.size w6 v ys w') (hb : Below w.heap.size w w6) : Pad w.heap.size w v ys w' :=
 ⟨own_low h.own hb.size, below_next hb h.bel⟩
theorem En.fields_few {e : En.E} (h : En.Frm e) (hf : ∀ u ∈ e.ups, u.Fit) : ∀ p ∈ En.fields e, p.2.length ≤ 1000 := by
 intro p hp
 unfold En.fields at hp
 simp only [List.cons_append, List.nil_append, List.mem_cons, List.mem_append, List.mem_flatMap, List.mem_map] at hp
 rcases hp with rfl | rfl | rfl | rfl | ⟨u, hu, hp⟩ | rfl | ⟨x, hx, rfl⟩
 ·simp
 ·simp
 ·simp
 ·simp
 ·have h1 := hf u hu
  have h2 := h.refs u hu
  simp only [En.upF, List.mem_cons, List.not_mem_nil, or_false] at hp
  rcases hp with rfl | rfl | rfl
  ·show (strB u.ref).length ≤ 1000
   rw [strB_len]; omega
  ·show u.old.length ≤ 1000
   rw [h1.1.1]; omega
  ·show u.new.length ≤ 1000
   rw [h1.2.1]; omega
 ·simp
 ·have := h.objs x hx
  show x.length ≤ 1000
  omega
theorem FW.new {w w3 : World} {a b c : Int} (hb : Below w.heap.size w w3) : FW w (w3.alloc (.cells #[.int .i64 a, .slice none 0 0, .int .i64 b, .slice none 0 0, .int .i64 c, .slice none 0 0] 151)) (.slice (some ⟨w3.heap.size, 0, none⟩) 3 3) [fldN a, fldN b, fldN c] :=
 ⟨⟨rfl, .inr ⟨w3.heap.size, 3, _, rfl, hb.size, heap_alloc_new w3 _, Nat.le_refl _, by unfold maxLen; omega, rfl, rfl⟩⟩, fun f hf => by
  rcases List.mem_cons.1 hf with rfl | hf
  ·exact TxtF.num _ _
  ·rcases List.mem_cons.1 hf with rfl | hf
   ·exact TxtF.num _ _
   ·rw [List.mem_singleton.1 hf]; exact TxtF.num _ _, hb.alloc hb.size _⟩
set_option maxRecDepth 100000 in
set_option maxHeartbeats 8000000 in
theorem written_any (e : En.E) (ca : Array Value) (U O : Option Addr) (cu co : Nat) (ts : List En.Bt) (a : Nat → Addr) (w : World) (h : EnC w e ca U cu O co ts) (hF : En.Frm e) (hS : ESents w a) :
  Calls Tryz.prog 59 #[.agg ca] w fun r w' => ∃ v, r = .returned v ∧ Pad w.heap.size w v (En.laid e) w' := by
 obtain ⟨w1, hw1⟩ : ∃ w1, w1 = w.alloc (.cells ca 32) := ⟨_, rfl⟩
 have hb : EnB w w1 e ca U cu O co ts := hw1 ▸ EnB.of h
 have HS1 : Hid (EnB w w1.drew e ca U cu O co ts) := Lib.hid (hb.below (below_drewN (Below.refl _ _) 1))
 have HF := Lib.hid hF
 have H0 := Lib.hid h
 have HSE := Lib.hid hS
 have e1 := hw1.symm
 obtain ⟨ip, hip, hpz, hps, hpb⟩ := info_parts fldE_info
 have HIP : Hid (_ ∧ _ ∧ _ ∧ _) := Lib.hid ⟨hip, hpz, hps, hpb⟩
 clear hip hpz hps hpb h hb hw1 hF hS
 go_enter Tryz.func59, Tryz.ntmps59
 go_wp2_with fail
 refine wp_region_held (S := (fun w' => EnB w w' e ca U cu O co ts)) (by kernel_rfl) ?_
 change wpAnyH _ _ _ _ _ _ _ _ w1.drew
 refine wpAnyH_take (i := 0) (v := ?_) rfl (by kernel_rfl) (by kernel_rfl) (by kernel_rfl) (fun _ _ _ h => h) (Or.inl ⟨by rfl, ?_⟩) HS1.out ?_
 rotate_left
 ·intro w' hS; go_simp; with_reducible rfl
 try simp only [Act.put, List.getElem_toArray, List.getElem_cons_zero, List.setIfInBounds_toArray, List.set_cons_zero, List.set_cons_succ]
 refine wpAnyH_take (i := 1) (v := ?_) rfl (by kernel_rfl) (by kernel_rfl) (by kernel_rfl) (fun _ _ _ h => h) (Or.inl ⟨by rfl, ?_⟩) HS1.out ?_
 rotate_left
 ·intro w' hS; have h0 := hS.c0; go_simp; with_reducible rfl
 try simp only [Act.put, List.getElem_toArray, List.getElem_cons_zero, List.getElem_cons_succ, List.setIfInBounds_toArray, List.set_cons_zero, List.set_cons_succ]
 refine wpAnyH_take (i := 3) (v := ?_) rfl (by kernel_rfl) (by kernel_rfl) (by kernel_rfl) (fun _ _ _ h => h) (Or.inl ⟨by rfl, ?_⟩) HS1.out ?_
 rotate_left
 ·intro w' hS; go_simp; with_reducible rfl
 try simp only [Act.put, List.getElem_toArray, List.getElem_cons_zero, List.getElem_cons_succ, List.setIfInBounds_toArray, List.set_cons_zero, List.set_cons_succ]
 refine wpAnyH_take (i := 4) (v := ?_) rfl (by kernel_rfl) (by kernel_rfl) (by kernel_rfl) (fun _ _ _ h => h) (Or.inl ⟨by rfl, ?_⟩) HS1.out ?_
 rotate_left
 ·intro w' hS; have h0 := hS.c1; go_simp; with_reducible rfl
 try simp only [Act.put, List.getElem_toArray, List.getElem_cons_zero, List.getElem_cons_succ, List.setIfInBounds_toArray, List.set_cons_zero, List.set_cons_succ]
 refine wpAnyH_take (i := 6) (v := ?_) rfl (by kernel_rfl) (by kernel_rfl) (by kernel_rfl) (fun _ _ _ h => h) (Or.inl ⟨by rfl, ?_⟩) HS1.out ?_
 rotate_left
 ·intro w' hS; go_simp; with_reducible rfl
 try simp only [Act.put, List.getElem_toArray, List.getElem_cons_zero, List.getElem_cons_succ, List.setIfInBounds_toArray, List.set_cons_zero, List.set_cons_succ]
 refine wpAnyH_take (i := 7) (v := ?_) rfl (by kernel_rfl) (by kernel_rfl) (by kernel_rfl) (fun _ _ _ h => h) (Or.inl ⟨by rfl, ?_⟩) HS1.out ?_
 rotate_left
 ·intro w' hS; have h0 := hS.c2; go_simp; with_reducible rfl
 try simp only [Act.put, List.getElem_toArray, List.getElem_cons_zero, List.getElem_cons_succ, List.setIfInBounds_toArray, List.set_cons_zero, List.set_cons_succ]
 refine all_one (i := 2) (by kernel_rfl) rfl (by rfl) (fun K hK => ?_)
 go_simp
 refine (fnum_any e.client _).mono ?_
 rintro r w2 ⟨rfl, hb2⟩
 have HS2 := Lib.hid (HS1.out.below hb2)
 clear hb2
 dsimp only
 refine hK _ _ HS2.out ?_; clear hK K
 try simp only [Act.put, List.getElem_toArray, List.getElem_cons_zero, List.getElem_cons_succ, List.setIfInBounds_toArray, List.set_cons_zero, List.set_cons_succ]
 refine all_one (i := 5) (by kernel_rfl) rfl (by rfl) (fun K hK => ?_)
 go_simp
 refine (fnum_any e.number _).mono ?_
 rintro r w3 ⟨rfl, hb3⟩
 have HS3 := Lib.hid (HS2.out.below hb3)
 clear hb3
 dsimp only
 refine hK _ _ HS3.out ?_; clear hK K
 try simp only [Act.put, List.getElem_toArray, List.getElem_cons_zero, List.getElem_cons_succ, List.setIfInBounds_toArray, List.set_cons_zero, List.set_cons_succ]
 refine all_one (i := 8) (by kernel_rfl) rfl (by rfl) (fun K hK => ?_)
 go_simp
 refine (fnum_any e.answer _).mono ?_
 rintro r w4 ⟨rfl, hb4⟩
 have HS4 := Lib.hid (HS3.out.below hb4)
 clear hb4
 dsimp only
 refine hK _ _ HS4.out ?_; clear hK K
 try simp only [Act.put, List.getElem_toArray, List.getElem_cons_zero, List.getElem_cons_succ, List.setIfInBounds_toArray, List.set_cons_zero, List.set_cons_succ]
 have HW := Lib.hid (FW.new (a := e.client) (b := e.number) (c := e.answer) HS4.out.bel)
 have HS5 := Lib.hid (HS4.out.below ((Below.refl _ _).alloc (Nat.le_refl _) (.cells #[.int .i64 e.client, .slice none 0 0, .int .i64 e.number, .slice none 0 0, .int .i64 e.answer, .slice none 0 0] 151)))
 refine all_one (i := 9) (by kernel_rfl) rfl (by rfl) (fun K hK => ?_)
 refine wp_buildSliceK 153 151 3 _ (by rfl) #[.int .i64 e.client, .slice none 0 0, .int .i64 e.number, .slice none 0 0, .int .i64 e.answer, .slice none 0 0] ip (.agg #[.int .i64 0, .slice none 0 0]) Tryz.underlying153 HIP.out.1 HIP.out.2.1 (by rw [HIP.out.2.2.1]; decide) (by rw [HIP.out.2.2.1]; decide) _ (by kernel_rfl) (by rw [HIP.out.2.2.1]; exact fill_threeE _ _ _ _ _ _ _) ?_
 refine hK _ _ HS5.out ?_; clear hK K
 have HW0 : Hid (WrE w _ e ca U cu O co ts _ _) := Lib.hid ⟨HW.out, HS5.out⟩
 clear HW HS5
 generalize w4.alloc (.cells #[.int .i64 e.client, .slice none 0 0, .int .i64 e.number, .slice none 0 0, .int .i64 e.answer, .slice none 0 0] 151) = w5 at HW0 ⊢
 generalize (Value.slice (some ⟨w4.heap.size, 0, none⟩) 3 3) = v0 at HW0 ⊢
 try simp only [Act.put, List.getElem_toArray, List.getElem_cons_zero, List.getElem_cons_succ, List.setIfInBounds_toArray, List.set_cons_zero, List.set_cons_succ]
 refine wpAnyH_take (i := 10) (v := ?_) rfl (by kernel_rfl) (by kernel_rfl) (by kernel_rfl) (fun _ _ _ h => h) (Or.inl ⟨by rfl, ?_⟩) HW0.out.en ?_
 rotate_left
 ·intro w' hS; go_simp; with_reducible rfl
 try simp only [Act.put, List.getElem_toArray, List.getElem_cons_zero, List.getElem_cons_succ, List.setIfInBounds_toArray, List.set_cons_zero, List.set_cons_succ]
 refine wpAnyH_done (by kernel_rfl) ?_ _
 have p3 := HW0.out.en.c3
 obtain ⟨nu, hnu⟩ : ∃ n, n = e.ups.length := ⟨_, rfl⟩
 rw [← hnu] at p3
 have HNU := Lib.hid hnu
 clear hnu HS1 HS2 HS3 HS4
 obtain ⟨fs, hfs⟩ : ∃ fs, fs = [fldN e.client, fldN e.number, fldN e.answer] := ⟨_, rfl⟩
 rw [← hfs] at HW0
 have HLN : Hid (fs.length ≤ 200) := Lib.hid (by rw [hfs]; show 3 ≤ 200; omega)
 have HFS := Lib.hid hfs
 clear hfs
 go_wp2_with (go_at_call 76; refine pause ?_)
 unfold Paused
 refine (fnum_any (nu : Int) w5).mono ?_
 rintro r w6 ⟨rfl, hb6⟩
 have HW := Lib.hid (HW0.out.below hb6)
 have HT := Lib.hid (TxtF.num w6 (nu : Int))
 clear hb6 HW0 p3
 go_wp2_with (with_reducible (show wpList _ _ _ (Oper.mk _ (Op.buildSlice _ _ _) _ _ _ _ :: _) _ _); refine pause ?_)
 unfold Paused
 refine wpList_buildSliceK (by rfl) 153 151 1 _ (by rfl) (fldC (fldN (nu : Int))).toArray ip (.agg #[.int .i64 0, .slice none 0 0]) Tryz.underlying153 HIP.out.1 HIP.out.2.1 (by rw [HIP.out.2.2.1]; decide) (by rw [HIP.out.2.2.1]; decide) _ (by kernel_rfl) (by rw [HIP.out.2.2.1]; exact fill_oneE _ _ _) ?_
 have HW7 := Lib.hid (HW.out.below ((Below.refl _ _).alloc (Nat.le_refl _) (.cells (fldC (fldN (nu : Int))).toArray 151)))
 have HT7 := Lib.hid ((HT.out).below ((Below.refl _ _).alloc (Nat.le_refl _) (.cells (fldC (fldN (nu : Int))).toArray 151)))
 have HB7 := Lib.hid (Blk.new w6 151 (fldC (fldN (nu : Int))).toArray)
 generalize (w6).alloc (.cells (fldC (fldN (nu : Int))).toArray 151) = wb at HW7 HT7 HB7 ⊢
 generalize (w6).heap.size = gb at HB7 ⊢
 clear HW HT
 go_wp2_with (with_reducible (show wpList _ _ _ (Oper.mk _ (Op.call (Call.mk (Callee.builtin Builtin.append) _ _)) _ _ _ _ :: _) _ _); refine pause ?_)
 unfold Paused
 refine wpList_append_own wb (by rfl) (.tmp 20) (.tmp 25) 153 (by rfl) w.heap.size 151 ip (.agg #[.int .i64 0, .slice none 0 0]) 2 32 Tryz.underlying153 HIP.out.1 HIP.out.2.1 HIP.out.2.2.1 HIP.out.2.2.2 (by rfl) (by decide) _ fs.length (cellsFd fs) (by rfl) HW7.out.fw.own ⟨gb, 0, none⟩ 1 1 (fldC (fldN (nu : Int))) (by rfl) (by rfl) (fun j u hj => by rw [Addr.add_mid, Nat.zero_add, HB7.out.cell j]; simpa using hj) (fun u hu => cellsFd_one [(fldN (nu : Int))] u (by rw [cellsFd, List.flatMap_cons, List.flatMap_nil, List.append_nil]; exact hu)) (by have := HLN.out; unfold maxLen; omega) (by have := HLN.out; omega) HW7.out.fw.bel.size ?_
 intro v2 w9 ho9 hg9 _
 have HW9 := Lib.hid (HW7.out.put H0.out (gs := [(fldN (nu : Int))]) ho9 hg9 (fun y hy => by rw [List.mem_singleton.1 hy]; exact HT7.out))
 clear ho9 hg9 HT7 HB7 HW7
 simp only [Act.put]
 obtain ⟨fs1, hfs1⟩ : ∃ fs1, fs1 = fs ++ [fldN (nu : Int)] := ⟨_, rfl⟩
 rw [← hfs1] at HW9
 have HK1 : Hid (fs1.map Oc.fkey = [(e.client, []), (e.number, []), (e.answer, [])] ++ [((nu : Int), [])]) := Lib.hid (by rw [hfs1, HFS.out]; rfl)
 have p3 := HW9.out.en.c3
 rw [← HNU.out] at p3
 clear hfs1 HFS HLN
 clear fs
 go_wp2
 go_loopw [3, 30] (fun v i wr => ∃ k : Nat, k ≤ nu ∧ i = .int .i64 k ∧ ∃ fs, Hid (fs.map Oc.fkey = [(e.client, []), (e.number, []), (e.answer, [])] ++ [((nu : Int), [])] ++ (e.ups.take k).flatMap En.upF) ∧ Hid (WrE w wr e ca U cu O co ts v fs)) (fun _ i _ => nu - (intOf i).toNat)
 case atStart => exact ⟨0, Nat.zero_le _, rfl, fs1, by rw [List.take_zero, List.flatMap_nil, List.append_nil]; exact HK1, HW9⟩
 case round =>
  obtain ⟨k, hk, rfl, fs, HKF, HW⟩ := hrel
  by_cases hlt : k < nu
  ·have hki : k < e.ups.length := by rw [← HNU.out]; exact hlt
   obtain ⟨b, o, rfl, hbl, hrg⟩ := H0.out.ups.up rfl H0.out.fit hki
   have hft := H0.out.fit _ (List.getElem_mem hki)
   have HTK := Lib.hid (List.take_succ_eq_append_getElem hki)
   have hrs := HF.out.refs _ (List.getElem_mem hki)
   have HLN : Hid (fs.length ≤ 200) := Lib.hid (by
    have h1 := congrArg List.length HKF.out
    have h2 := HF.out.nu
    have h3 : ∀ us : List En.Up, (us.flatMap En.upF).length = 3 * us.length := fun us => by
     induction us with
     | nil => rfl
     | cons u us ih => rw [List.flatMap_cons, List.length_append, ih]; simp [En.upF]; omega
    rw [List.length_map, List.length_append, List.length_append, h3, List.length_take] at h1
    simp at h1
    omega)
   generalize e.ups[k] = u at hrg hft HTK hrs
   have HFU := Lib.hid hft
   have HRS := Lib.hid hrs
   have i1 : ((k : Nat) : Int) < nu := by omega
   have i2 : (0 : Int) ≤ ((k : Nat) : Int) := by omega
   have i3 : ((nu : Nat) : Int) ≤ 8 := by have := HF.out.nu; have := HNU.out; omega
   have HRG : Hid (wr.rangeAt b (o + k * 65) (cellsU1 u)) := Lib.hid (fun j v hj => (HW.out.fw.bel.cell (p := ⟨b, o + k * 65 + j, none⟩) hbl).trans (hrg j v hj))
   have HLT : Hid (k + 1 ≤ nu) := Lib.hid hlt
   clear hki hbl hrg hft hrs hk hlt
   go_wp2_with (with_reducible (show wpList _ _ _ (Oper.mk _ (Op.load 89 _) _ _ _ _ :: _) _ _); refine pause ?_)
   unfold Paused
   refine wpList_mid_w (by rfl) 89 (.tmp 32) (by rfl) b (o + k * 65) (by rfl) (cellsU1 u) _ HRG.out Tryz.underlying89 (by rfl) (upd_load HFU.out) ?_
   go_wp2_with (with_reducible (show wpList _ _ _ (Oper.mk _ (Op.store 89 _ _) _ _ _ _ :: _) _ _); refine pause ?_)
   unfold Paused
   change wpList _ _ _ _ _ (wr.alloc (.cells zU 89))
   refine wpList_store_row (by rfl) 89 (.tmp 5) (.tmp 33) (by rfl) wr.heap.size (cellsU1 u).toArray (by rfl) (by rfl) 89 zU (Blk.new wr _ _) (upd_load2 HFU.out) (by rw [zU_size, List.size_toArray, cellsU1_len HFU.out]) (cellsU1_one u) ?_
   have b6 : Below wr.heap.size wr ((wr.alloc (.cells zU 89)).setRow wr.heap.size (cellsU1 u).toArray) := below_row ((Below.refl _ _).alloc (Nat.le_refl _) _) (Nat.le_refl _) _
   have HW6 := Lib.hid (HW.out.below b6)
   have HI6 : Hid (Blk ((wr.alloc (.cells zU 89)).setRow wr.heap.size (cellsU1 u).toArray) wr.heap.size 89 (cellsU1 u).toArray) := Lib.hid ((Blk.new wr _ _).row _)
   clear b6 HRG HW
   generalize (wr.alloc (.cells zU 89)).setRow wr.heap.size (cellsU1 u).toArray = w6 at HW6 HI6 ⊢
   generalize wr.heap.size = g6 at HI6 ⊢
   simp only [Act.put]
   go_wp2_with fail
   have HW7 := Lib.hid (HW6.out.below (below_drewN (Below.refl _ w6) 1))
   have HI7 : Hid (Blk w6.drew g6 89 (cellsU1 u).toArray) := HI6
   clear HW6 HI6
   refine wp_region_held (S := (fun w' => Blk w' g6 89 (cellsU1 u).toArray)) (by kernel_rfl) ?_
   change wpAnyH _ _ _ _ _ _ _ _ w6.drew
   refine wpAnyH_take (i := 0) (v := ?_) rfl (by kernel_rfl) (by kernel_rfl) (by kernel_rfl) (fun _ _ _ h => h) (Or.inl ⟨by rfl, ?_⟩) HI7.out ?_
   rotate_left
   ·intro w' hS; go_simp; with_reducible rfl
   try simp only [Act.put, List.getElem_toArray, List.getElem_cons_zero, List.setIfInBounds_toArray, List.set_cons_zero, List.set_cons_succ]
   refine wpAnyH_take (i := 1) (v := ?_) rfl (by kernel_rfl) (by kernel_rfl) (by kernel_rfl) (fun _ _ _ h => h) (Or.inl ⟨by rfl, ?_⟩) HI7.out ?_
   rotate_left
   ·intro w' hS; go_simp; with_reducible rfl
   try simp only [Act.put, List.getElem_toArray, List.getElem_cons_zero, List.getElem_cons_succ, List.setIfInBounds_toArray, List.set_cons_zero, List.set_cons_succ]
   refine wpAnyH_take (i := 2) (v := ?_) rfl (by kernel_rfl) (by kernel_rfl) (by kernel_rfl) (fun _ _ _ h => h) (Or.inl ⟨by rfl, ?_⟩) HI7.out ?_
   rotate_left
   ·intro w' hS; have h0 := (Blk.cell hS 0).trans (show (cellsU1 u).toArray[0]? = some (.string u.ref) from rfl); go_simp; with_reducible rfl
   try simp only [Act.put, List.getElem_toArray, List.getElem_cons_zero, List.getElem_cons_succ, List.setIfInBounds_toArray, List.set_cons_zero, List.set_cons_succ]
   refine wpAnyH_take (i := 4) (v := ?_) rfl (by kernel_rfl) (by kernel_rfl) (by kernel_rfl) (fun _ _ _ h => h) (Or.inl ⟨by rfl, ?_⟩) HI7.out ?_
   rotate_left
   ·intro w' hS; go_simp; with_reducible rfl
   try simp only [Act.put, List.getElem_toArray, List.getElem_cons_zero, List.getElem_cons_succ, List.setIfInBounds_toArray, List.set_cons_zero, List.set_cons_succ]
   refine wpAnyH_take (i := 5) (v := ?_) rfl (by kernel_rfl) (by kernel_rfl) (by kernel_rfl) (fun _ _ _ h => h) (Or.inl ⟨by rfl, ?_⟩) HI7.out ?_
   rotate_left
   ·intro w' hS; go_simp; with_reducible rfl
   try simp only [Act.put, List.getElem_toArray, List.getElem_cons_zero, List.getElem_cons_succ, List.setIfInBounds_toArray, List.set_cons_zero, List.set_cons_succ]
   refine wpAnyH_take (i := 7) (v := ?_) rfl (by kernel_rfl) (by kernel_rfl) (by kernel_rfl) (fun _ _ _ h => h) (Or.inl ⟨by rfl, ?_⟩) HI7.out ?_
   rotate_left
   ·intro w' hS; go_simp; with_reducible rfl
   try simp only [Act.put, List.getElem_toArray, List.getElem_cons_zero, List.getElem_cons_succ, List.setIfInBounds_toArray, List.set_cons_zero, List.set_cons_succ]
   refine wpAnyH_take (i := 8) (v := ?_) rfl (by kernel_rfl) (by kernel_rfl) (by kernel_rfl) (fun _ _ _ h => h) (Or.inl ⟨by rfl, ?_⟩) HI7.out ?_
   rotate_left
   ·intro w' hS; go_simp; with_reducible rfl
   try simp only [Act.put, List.getElem_toArray, List.getElem_cons_zero, List.getElem_cons_succ, List.setIfInBounds_toArray, List.set_cons_zero, List.set_cons_succ]
   refine all_one (i := 3) (by kernel_rfl) rfl (by rfl) (fun K hK => ?_)
   go_simp
   refine (ftext_any u.ref _).mono ?_
   rintro r w8 ⟨A1, c1, rfl, ht1, hb8⟩
   have HT1 := Lib.hid ht1
   have HI8 := Lib.hid (HI7.out.below hb8 HI7.out.lt)
   have HW8 := Lib.hid (HW7.out.below hb8)
   clear ht1 hb8 HI7 HW7
   dsimp only
   refine hK _ _ HI8.out ?_; clear hK K
   try simp only [Act.put, List.getElem_toArray, List.getElem_cons_zero, List.getElem_cons_succ, List.setIfInBounds_toArray, List.set_cons_zero, List.set_cons_succ]
   refine all_one (i := 6) (by kernel_rfl) rfl (by rfl) (fun K hK => ?_)
   go_simp
   refine (fbytes_any (some ⟨g6, 1, none⟩) 32 32 u.old _ ⟨_, 32, by rw [HFU.out.1.1], by rw [HFU.out.1.1]; exact Nat.le_refl _, fun _ => ⟨g6, 1, rfl, HI8.out.lt, fun i hi => up_rng_old HFU.out HI8.out i _ (cellsB_get hi)⟩⟩ (by rw [HFU.out.1.1]; omega)).mono ?_
   rintro r w9 ⟨A2, c2, rfl, ht2, hb9⟩
   have HT1b := Lib.hid (HT1.out.below hb9)
   have HT2 := Lib.hid ht2
   have HI9 := Lib.hid (HI8.out.below hb9 HI8.out.lt)
   have HW9 := Lib.hid (HW8.out.below hb9)
   clear ht2 hb9 HI8 HW8 HT1
   dsimp only
   refine hK _ _ HI9.out ?_; clear hK K
   try simp only [Act.put, List.getElem_toArray, List.getElem_cons_zero, List.getElem_cons_succ, List.setIfInBounds_toArray, List.set_cons_zero, List.set_cons_succ]
   refine all_one (i := 9) (by kernel_rfl) rfl (by rfl) (fun K hK => ?_)
   go_simp
   refine (fbytes_any (some ⟨g6, 33, none⟩) 32 32 u.new _ ⟨_, 32, by rw [HFU.out.2.1], by rw [HFU.out.2.1]; exact Nat.le_refl _, fun _ => ⟨g6, 33, rfl, HI9.out.lt, fun i hi => up_rng_new HFU.out HI9.out i _ (cellsB_get hi)⟩⟩ (by rw [HFU.out.2.1]; omega)).mono ?_
   rintro r wa ⟨A3, c3, rfl, ht3, hba⟩
   have HT1c := Lib.hid (HT1b.out.below hba)
   have HT2b := Lib.hid (HT2.out.below hba)
   have HT3 := Lib.hid ht3
   have HIa := Lib.hid (HI9.out.below hba HI9.out.lt)
   have HWa := Lib.hid (HW9.out.below hba)
   clear ht3 hba HI9 HW9 HT1b HT2
   dsimp only
   refine hK _ _ HIa.out ?_; clear hK K
   try simp only [Act.put, List.getElem_toArray, List.getElem_cons_zero, List.getElem_cons_succ, List.setIfInBounds_toArray, List.set_cons_zero, List.set_cons_succ]
   obtain ⟨f1, hf1⟩ : ∃ f : Fld, f = ⟨0, A1, u.ref.size, c1, strB u.ref⟩ := ⟨_, rfl⟩
   obtain ⟨f2, hf2⟩ : ∃ f : Fld, f = ⟨0, A2, u.old.length, c2, u.old⟩ := ⟨_, rfl⟩
   obtain ⟨f3, hf3⟩ : ∃ f : Fld, f = ⟨0, A3, u.new.length, c3, u.new⟩ := ⟨_, rfl⟩
   rw [← hf1] at HT1c ⊢
   rw [← hf2] at HT2b ⊢
   rw [← hf3] at HT3 ⊢
   have HKE : Hid ([f1, f2, f3].map Oc.fkey = En.upF u) := Lib.hid (by subst hf1 hf2 hf3; rfl)
   clear hf1 hf2 hf3
   have bb : Below wa.heap.size wa (wa.alloc (.cells (cellsFd [f1, f2, f3]).toArray 151)) := (Below.refl _ _).alloc (Nat.le_refl _) _
   have HWb := Lib.hid (HWa.out.below bb)
   have HIb := Lib.hid (HIa.out.below bb HIa.out.lt)
   have HTb : Hid (∀ f ∈ [f1, f2, f3], TxtF (wa.alloc (.cells (cellsFd [f1, f2, f3]).toArray 151)) f) := Lib.hid (fun f hf => by
    rcases List.mem_cons.1 hf with rfl | hf
    ·exact HT1c.out.below bb
    ·rcases List.mem_cons.1 hf with rfl | hf
     ·exact HT2b.out.below bb
     ·rw [List.mem_singleton.1 hf]; exact HT3.out.below bb)
   have HBb := Lib.hid (Blk.new wa 151 (cellsFd [f1, f2, f3]).toArray)
   clear bb
   refine all_one (i := 10) (by kernel_rfl) rfl (by rfl) (fun K hK => ?_)
   refine wp_buildSliceK 153 151 3 _ (by rfl) (cellsFd [f1, f2, f3]).toArray ip (.agg #[.int .i64 0, .slice none 0 0]) Tryz.underlying153 HIP.out.1 HIP.out.2.1 (by rw [HIP.out.2.2.1]; decide) (by rw [HIP.out.2.2.1]; decide) _ (by kernel_rfl) (by rw [HIP.out.2.2.1]; exact fill_threeE _ _ _ _ _ _ _) ?_
   refine hK _ _ HIb.out ?_; clear hK K
   generalize wa.alloc (.cells (cellsFd [f1, f2, f3]).toArray 151) = wb at HWb HIb HTb HBb ⊢
   generalize wa.heap.size = gb at HBb ⊢
   clear HWa HIa HT1c HT2b HT3
   try simp only [Act.put, List.getElem_toArray, List.getElem_cons_zero, List.getElem_cons_succ, List.setIfInBounds_toArray, List.set_cons_zero, List.set_cons_succ]
   refine all_one (i := 11) (by kernel_rfl) rfl (by rfl) (fun K hK => ?_)
   refine wp_append_own wb (.tmp 34) (.tmp 44) 153 (by rfl) w.heap.size 151 ip (.agg #[.int .i64 0, .slice none 0 0]) 2 32 Tryz.underlying153 HIP.out.1 HIP.out.2.1 HIP.out.2.2.1 HIP.out.2.2.2 (by rfl) (by decide) _ fs.length (cellsFd fs) (by rfl) HWb.out.fw.own ⟨gb, 0, none⟩ 3 3 (cellsFd [f1, f2, f3]) (by rfl) (by rfl) (fun j u hj => by rw [Addr.add_mid, Nat.zero_add, HBb.out.cell j]; simpa using hj) (cellsFd_one _) (by have := HLN.out; unfold maxLen; omega) (by have := HLN.out; omega) HWb.out.fw.bel.size ?_
   intro v2 wc hoc hgc _
   have HWc := Lib.hid (HWb.out.put H0.out (gs := [f1, f2, f3]) hoc hgc HTb.out)
   have HIc := Lib.hid (HIb.out.grown hgc (HWb.out.fw.off HIb.out (by decide)))
   clear hoc hgc HTb HBb HWb HIb
   refine hK _ _ HIc.out ?_; clear hK K
   try simp only [Act.put, List.getElem_toArray, List.getElem_cons_zero, List.getElem_cons_succ, List.setIfInBounds_toArray, List.set_cons_zero, List.set_cons_succ]
   refine wpAnyH_take (i := 12) (v := ?_) rfl (by kernel_rfl) (by kernel_rfl) (by kernel_rfl) (fun _ _ _ h => h) (Or.inl ⟨by rfl, ?_⟩) HIc.out ?_
   rotate_left
   ·intro w' hS; go_simp; with_reducible rfl
   try simp only [Act.put, List.getElem_toArray, List.getElem_cons_zero, List.getElem_cons_succ, List.setIfInBounds_toArray, List.set_cons_zero, List.set_cons_succ]
   refine wpAnyH_done (by kernel_rfl) ?_ _
   have HKN : Hid ((fs ++ [f1, f2, f3]).map Oc.fkey = [(e.client, []), (e.number, []), (e.answer, [])] ++ [((nu : Int), [])] ++ (e.ups.take (k + 1)).flatMap En.upF) := Lib.hid (by
    rw [List.map_append, HKF.out, HKE.out, HTK.out, List.flatMap_append]
    simp)
   clear HKF HKE HTK
   generalize fs ++ [f1, f2, f3] = fs3 at HKN HWc
   go_wp2
   go_roundw
   case rel => exact ⟨k + 1, HLT.out, by go_num, fs3, HKN, HWc⟩
   case measure => have h5 := HLT.out; simp [intOf]; omega
  ·obtain rfl : k = nu := by omega
   have HK2 : Hid (fs.map Oc.fkey = [(e.client, []), (e.number, []), (e.answer, [])] ++ [((e.ups.length : Int), [])] ++ e.ups.flatMap En.upF) := Lib.hid (by
    have h1 := HKF.out
    rw [HNU.out, List.take_length] at h1
    exact h1)
   have ik : ¬ ((k : Nat) : Int) < k := by omega
   have p4 := HW.out.en.c4
   obtain ⟨no, hno⟩ : ∃ n, n = e.objs.length := ⟨_, rfl⟩
   rw [← hno] at p4
   have HNO := Lib.hid hno
   have HLN : Hid (fs.length ≤ 200) := Lib.hid (by
    have h1 := congrArg List.length HK2.out
    have h2 := HF.out.nu
    have h3 : ∀ us : List En.Up, (us.flatMap En.upF).length = 3 * us.length := fun us => by
     induction us with
     | nil => rfl
     | cons u us ih => rw [List.flatMap_cons, List.length_append, ih]; simp [En.upF]; omega
    rw [List.length_map, List.length_append, List.length_append, h3] at h1
    simp at h1
    omega)
   have HWz := HW
   clear hno HKF hk hlt HW
   go_wp2_with (go_at_call 76; refine pause ?_)
   unfold Paused
   refine (fnum_any (no : Int) wr).mono ?_
   rintro r w6 ⟨rfl, hb6⟩
   have HW := Lib.hid (HWz.out.below hb6)
   have HT := Lib.hid (TxtF.num w6 (no : Int))
   clear hb6 p4 HWz
   go_wp2_with (with_reducible (show wpList _ _ _ (Oper.mk _ (Op.buildSlice _ _ _) _ _ _ _ :: _) _ _); refine pause ?_)
   unfold Paused
   refine wpList_buildSliceK (by rfl) 153 151 1 _ (by rfl) (fldC (fldN (no : Int))).toArray ip (.agg #[.int .i64 0, .slice none 0 0]) Tryz.underlying153 HIP.out.1 HIP.out.2.1 (by rw [HIP.out.2.2.1]; decide) (by rw [HIP.out.2.2.1]; decide) _ (by kernel_rfl) (by rw [HIP.out.2.2.1]; exact fill_oneE _ _ _) ?_
   have HW7 := Lib.hid (HW.out.below ((Below.refl _ _).alloc (Nat.le_refl _) (.cells (fldC (fldN (no : Int))).toArray 151)))
   have HT7 := Lib.hid ((HT.out).below ((Below.refl _ _).alloc (Nat.le_refl _) (.cells (fldC (fldN (no : Int))).toArray 151)))
   have HB7 := Lib.hid (Blk.new w6 151 (fldC (fldN (no : Int))).toArray)
   generalize (w6).alloc (.cells (fldC (fldN (no : Int))).toArray 151) = wb at HW7 HT7 HB7 ⊢
   generalize (w6).heap.size = gb at HB7 ⊢
   clear HW HT
   go_wp2_with (with_reducible (show wpList _ _ _ (Oper.mk _ (Op.call (Call.mk (Callee.builtin Builtin.append) _ _)) _ _ _ _ :: _) _ _); refine pause ?_)
   unfold Paused
   refine wpList_append_own wb (by rfl) (.tmp 47) (.tmp 52) 153 (by rfl) w.heap.size 151 ip (.agg #[.int .i64 0, .slice none 0 0]) 2 32 Tryz.underlying153 HIP.out.1 HIP.out.2.1 HIP.out.2.2.1 HIP.out.2.2.2 (by rfl) (by decide) _ fs.length (cellsFd fs) (by rfl) HW7.out.fw.own ⟨gb, 0, none⟩ 1 1 (fldC (fldN (no : Int))) (by rfl) (by rfl) (fun j u hj => by rw [Addr.add_mid, Nat.zero_add, HB7.out.cell j]; simpa using hj) (fun u hu => cellsFd_one [(fldN (no : Int))] u (by rw [cellsFd, List.flatMap_cons, List.flatMap_nil, List.append_nil]; exact hu)) (by have := HLN.out; unfold maxLen; omega) (by have := HLN.out; omega) HW7.out.fw.bel.size ?_
   intro v2 w9 ho9 hg9 _
   have HW9 := Lib.hid (HW7.out.put H0.out (gs := [(fldN (no : Int))]) ho9 hg9 (fun y hy => by rw [List.mem_singleton.1 hy]; exact HT7.out))
   clear ho9 hg9 HT7 HB7 HW7
   simp only [Act.put]
   obtain ⟨fs1, hfs1⟩ : ∃ fs1, fs1 = fs ++ [fldN (no : Int)] := ⟨_, rfl⟩
   rw [← hfs1] at HW9
   have HK3 : Hid (fs1.map Oc.fkey = ([(e.client, []), (e.number, []), (e.answer, [])] ++ [((e.ups.length : Int), [])] ++ e.ups.flatMap En.upF) ++ [((no : Int), [])]) := Lib.hid (by rw [hfs1, List.map_append, HK2.out]; rfl)
   have p4 := HW9.out.en.c4
   rw [← HNO.out] at p4
   obtain ⟨pre, hpre⟩ : ∃ pre, pre = ([(e.client, []), (e.number, []), (e.answer, [])] ++ [((e.ups.length : Int), [])] ++ e.ups.flatMap En.upF) ++ [((no : Int), ([] : List Nat))] := ⟨_, rfl⟩
   rw [← hpre] at HK3
   have HPRE := Lib.hid hpre
   have HPL : Hid (pre.length ≤ 120) := Lib.hid (by
    have h1 := congrArg List.length HK2.out
    rw [hpre, List.length_append, ← h1, List.length_map]
    have h2 := HF.out.nu
    have h3 : ∀ us : List En.Up, (us.flatMap En.upF).length = 3 * us.length := fun us => by
     induction us with
     | nil => rfl
     | cons u us ih => rw [List.flatMap_cons, List.length_append, ih]; simp [En.upF]; omega
    rw [List.length_map, List.length_append, List.length_append, h3] at h1
    simp at h1 ⊢
    omega)
   clear hfs1 HLN HK2 ik hpre
   clear fs
   go_wp2
   go_loopw [3, 57] (fun v i wr => ∃ k : Nat, k ≤ no ∧ i = .int .i64 k ∧ ∃ fs, Hid (fs.map Oc.fkey = pre ++ (e.objs.take k).map En.obF) ∧ Hid (WrE w wr e ca U cu O co ts v fs)) (fun _ i _ => no - (intOf i).toNat)
   case atStart => exact ⟨0, Nat.zero_le _, rfl, fs1, by rw [List.take_zero, List.map_nil, List.append_nil]; exact HK3, HW9⟩
   case round =>
    obtain ⟨k2, hk, rfl, fs, HKF, HW⟩ := hrel
    by_cases hlt : k2 < no
    ·have hki : k2 < ts.length := by rw [← H0.out.nobj, ← HNO.out]; exact hlt
     have HLN : Hid (fs.length ≤ 200) := Lib.hid (by
      have h1 := congrArg List.length HKF.out
      have h2 := HF.out.no
      have h3 := HPL.out
      rw [List.length_map, List.length_append, List.length_map, List.length_take] at h1
      omega)
     obtain ⟨b, o, rfl, hbl, hcell⟩ := H0.out.objs.row (by rw [← HNO.out]; omega)
     have pc := (HW.out.fw.bel.cell (p := ⟨b, o + k2, none⟩) hbl).trans (hcell k2 _ (List.getElem?_eq_getElem hki))
     obtain ⟨hrd, hby⟩ := H0.out.objs.rd _ (List.getElem_mem hki)
     have HTK : Hid ((e.objs.take (k2 + 1)).map En.obF = (e.objs.take k2).map En.obF ++ [En.obF ts[k2].text]) := Lib.hid (by
      rw [← H0.out.txt, List.take_succ_eq_append_getElem (by rw [List.length_map]; exact hki), List.map_append]
      simp)
     have hsm := HF.out.objs ts[k2].text (by rw [← H0.out.txt]; exact List.mem_map.2 ⟨_, List.getElem_mem hki, rfl⟩)
     generalize ts[k2] = t at pc hrd hby HTK hsm
     obtain ⟨A1, c1, hval⟩ : ∃ A1 c1, t.val = .slice A1 t.text.length c1 := by obtain ⟨A1, c1, h, _⟩ := hrd; exact ⟨A1, c1, h⟩
     rw [hval] at pc hrd
     have CB := fbytes_any A1 t.text.length c1 t.text wr (hrd.below HW.out.fw.bel (Nat.le_refl _)) (by omega)
     have i1 : ((k2 : Nat) : Int) < no := by omega
     have i2 : (0 : Int) ≤ ((k2 : Nat) : Int) := by omega
     have i3 : ((no : Nat) : Int) ≤ 64 := by have := HF.out.no; have := HNO.out; omega
     have HLT : Hid (k2 + 1 ≤ no) := Lib.hid hlt
     obtain ⟨tx, htx⟩ : ∃ tx, tx = t.text := ⟨_, rfl⟩
     rw [← htx] at pc CB HTK
     have HWz := HW
     clear hki hbl hcell hrd hby hsm hval hk hlt HW htx
     obtain ⟨nt, hnt⟩ : ∃ n, n = tx.length := ⟨_, rfl⟩
     rw [← hnt] at pc CB
     have HNT := Lib.hid hnt
     clear hnt
     go_wp2_with (go_at_call 78; refine pause ?_)
     unfold Paused
     refine CB.mono ?_
     rintro r w6 ⟨A2, c2, rfl, ht2, hb6⟩
     have HW := Lib.hid (HWz.out.below hb6)
     have HT := Lib.hid ht2
     clear hb6 ht2 CB pc HWz
     obtain ⟨f1, hf1⟩ : ∃ f : Fld, f = ⟨0, A2, nt, c2, tx⟩ := ⟨_, rfl⟩
     rw [← hf1] at HT ⊢
     have HKE : Hid (Oc.fkey f1 = En.obF tx) := Lib.hid (by subst hf1; rfl)
     clear hf1
     go_wp2_with (with_reducible (show wpList _ _ _ (Oper.mk _ (Op.buildSlice _ _ _) _ _ _ _ :: _) _ _); refine pause ?_)
     unfold Paused
     refine wpList_buildSliceK (by rfl) 153 151 1 _ (by rfl) (fldC f1).toArray ip (.agg #[.int .i64 0, .slice none 0 0]) Tryz.underlying153 HIP.out.1 HIP.out.2.1 (by rw [HIP.out.2.2.1]; decide) (by rw [HIP.out.2.2.1]; decide) _ (by kernel_rfl) (by rw [HIP.out.2.2.1]; exact fill_oneE _ _ _) ?_
     have HW7 := Lib.hid (HW.out.below ((Below.refl _ _).alloc (Nat.le_refl _) (.cells (fldC f1).toArray 151)))
     have HT7 := Lib.hid ((HT.out).below ((Below.refl _ _).alloc (Nat.le_refl _) (.cells (fldC f1).toArray 151)))
     have HB7 := Lib.hid (Blk.new w6 151 (fldC f1).toArray)
     generalize (w6).alloc (.cells (fldC f1).toArray 151) = wb at HW7 HT7 HB7 ⊢
     generalize (w6).heap.size = gb at HB7 ⊢
     clear HW HT
     go_wp2_with (with_reducible (show wpList _ _ _ (Oper.mk _ (Op.call (Call.mk (Callee.builtin Builtin.append) _ _)) _ _ _ _ :: _) _ _); refine pause ?_)
     unfold Paused
     refine wpList_append_own wb (by rfl) (.tmp 61) (.tmp 64) 153 (by rfl) w.heap.size 151 ip (.agg #[.int .i64 0, .slice none 0 0]) 2 32 Tryz.underlying153 HIP.out.1 HIP.out.2.1 HIP.out.2.2.1 HIP.out.2.2.2 (by rfl) (by decide) _ fs.length (cellsFd fs) (by rfl) HW7.out.fw.own ⟨gb, 0, none⟩ 1 1 (fldC f1) (by rfl) (by rfl) (fun j u hj => by rw [Addr.add_mid, Nat.zero_add, HB7.out.cell j]; simpa using hj) (fun u hu => cellsFd_one [f1] u (by rw [cellsFd, List.flatMap_cons, List.flatMap_nil, List.append_nil]; exact hu)) (by have := HLN.out; unfold maxLen; omega) (by have := HLN.out; omega) HW7.out.fw.bel.size ?_
     intro v2 w9 ho9 hg9 _
     have HW9 := Lib.hid (HW7.out.put H0.out (gs := [f1]) ho9 hg9 (fun y hy => by rw [List.mem_singleton.1 hy]; exact HT7.out))
     clear ho9 hg9 HT7 HB7 HW7
     simp only [Act.put]
     have HKN : Hid ((fs ++ [f1]).map Oc.fkey = pre ++ (e.objs.take (k2 + 1)).map En.obF) := Lib.hid (by
      rw [List.map_append, HKF.out, HTK.out, List.map_cons, List.map_nil, HKE.out, List.append_assoc])
     clear HKF HKE HTK HLN
     generalize fs ++ [f1] = fs3 at HKN HW9
     go_wp2
     go_roundw
     case rel => exact ⟨k2 + 1, HLT.out, by go_num, fs3, HKN, HW9⟩
     case measure => have h5 := HLT.out; simp [intOf]; omega
    ·obtain rfl : k2 = no := by omega
     have ik : ¬ ((k2 : Nat) : Int) < k2 := by omega
     have HKA : Hid (fs.map Oc.fkey = En.fields e) := Lib.hid (by
      rw [HKF.out, HPRE.out, HNO.out, List.take_length]
      unfold En.fields
      simp)
     obtain ⟨g, cv, rfl, hrow⟩ := HW.out.fw.row (by
      have h1 := congrArg List.length HKA.out
      rw [List.length_map] at h1
      rw [h1]
      unfold En.fields
      simp)
     have HROW := Lib.hid hrow
     have CS := shape_any e ca U O cu co ts wr HW.out.en.ent HF.out.nu HF.out.no
     clear hrow hk hlt HKF
     go_wp2_with (with_reducible (show wpList _ _ _ (Oper.mk _ (Op.load 32 _) _ _ _ _ :: _) _ _); refine pause ?_)
     unfold Paused
     refine wpList_row_w (by rfl) 32 (.tmp 1) (by rfl) w.heap.size (by rfl) 32 ca _ HW.out.en.box (by first | exact Tryz.underlying32 | kernel_rfl) (by rfl) (ent_load H0.out.size) ?_
     go_wp2_with (go_at_call 80; refine pause ?_)
     unfold Paused
     refine CS.mono ?_
     rintro r w6 ⟨rfl, hb6⟩
     have HR6 : Hid (FRow w6 g 0 fs) := Lib.hid (HROW.out.below hb6 (Nat.le_refl _))
     have HW6 := Lib.hid (HW.out.below hb6)
     have HSZ := Lib.hid (shape_size e.ups.length e.objs.length)
     have HSL : Hid ((En.shape e.ups.length e.objs.length).data.toList = En.shapeL e.ups.length e.objs.length) := Lib.hid rfl
     have HLL : Hid (fs.length = (En.shape e.ups.length e.objs.length).size) := Lib.hid (by
      have h1 := congrArg List.length HKA.out
      rw [List.length_map, ← En.fields_len] at h1
      rw [h1, ← HSL.out]
      simp)
     have CW := write_any (En.shape e.ups.length e.objs.length) (some ⟨g, 0, none⟩) g 0 cv fs (a 6) (a 0) w6 (by rw [HSZ.out]; have := HF.out.nu; have := HF.out.no; omega) (fun _ => rfl) HR6.out (by rw [HLL.out, HSZ.out]; have := HF.out.nu; have := HF.out.no; omega) (fun f hf => by
      have h1 : Oc.fkey f ∈ En.fields e := by rw [← HKA.out]; exact List.mem_map.2 ⟨f, hf, rfl⟩
      rw [← (HR6.out.r f hf).2]
      exact En.fields_few HF.out H0.out.fit _ h1) ((HSE.out.at_ HW6.out.fw.bel).p.2.2) ((HSE.out.at_ HW6.out.fw.bel).r)
     have HWP := Lib.hid (fun (r : Ending) (w' : World) (hp : WritePost (En.shape e.ups.length e.objs.length) fs (a 6) (a 0) w6 r w') => show ∃ v, r = .returned (.tuple #[v, .nilIface]) ∧ Pad w.heap.size w v (En.laid e) w' from by
      obtain ⟨v, h1, h2⟩ := hp.2.2.2 (by rw [HSL.out]; exact En.known_shape _ _) HLL.out (Oc.okTo_P _ _ (fun f hf => (HR6.out.r f hf).2) (by rw [HKA.out, HSL.out]; exact En.fit_all HF.out H0.out.fit) _)
      rw [Oc.encs_P, HKA.out, HSL.out, En.enc_all] at h2
      exact ⟨v, h1, pad_low h2 HW6.out.fw.bel⟩)
     clear hb6 CS HSZ HSL
     generalize En.shape e.ups.length e.objs.length = sh at CW HWP HLL ⊢
     generalize fs.length = nf at CW ⊢
     go_wp2_with (go_at_call 79; refine pause ?_)
     unfold Paused
     refine CW.mono ?_
     rintro r w7 hp
     obtain ⟨v, rfl, hp2⟩ := HWP.out r w7 hp
     have HP := Lib.hid hp2
     clear hp hp2 CW HWP
     go_wp2
     go_ret
     exact ⟨v, rfl, HP.out⟩
end Go.Proofs.YtgcgomdhdgjpdaaGreatDoor
