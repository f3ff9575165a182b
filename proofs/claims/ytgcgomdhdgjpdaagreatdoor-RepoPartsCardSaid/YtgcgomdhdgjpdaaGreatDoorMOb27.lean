/- object.read: no bytes, letters of no kind, blobs, tags. -/
import Derived.Test.YtgcgomdhdgjpdaaGreatDoorMOb26
namespace Go.Proofs.YtgcgomdhdgjpdaaGreatDoor
open Go Go.RowKit
theorem InAt.all {w0 w : World} {i r : Nat} {xs : List Nat} (h : InAt w0 w i r xs) : r < w.heap.size ∧ i < w.heap.size ∧ w0.heap.size ≤ w.heap.size := by
 obtain ⟨v, k, hr, hw, h1, h3⟩ := h
 exact ⟨k.r_.lt, k.i_.lt, hw.size⟩
theorem Rst.start {w0 w w3 : World} {i r : Nat} {xs ys : List Nat} {cs : Array Value} (h : InAt w0 w i r xs) (hg : (w.alloc (.cells zOc 183)).grownBy w3 (some r)) (hi : InAt w0 w3 i r ys) {w4 : World} (h4 : w4 = (w3.alloc (.cells zOc 183)).setRow w3.heap.size cs) : Rst w0 w w4 i r w3.heap.size cs ys := by
 have hb : Below w3.heap.size w3 w4 := h4 ▸ below_row ((Below.refl _ _).alloc (Nat.le_refl _) _) (Nat.le_refl _) _
 have ha := h.all
 have hsz : w.heap.size + 1 ≤ w3.heap.size := by have := hg.size; simpa using this
 have hres : Blk w3 w.heap.size 183 zOc := (Blk.new w 183 zOc).grown hg (fun e => by injection e with e; omega)
 refine ⟨hi.below hb, h4 ▸ (Blk.new w3 183 zOc).row cs, hres.below hb hres.lt, ?_, ⟨ha.1, ha.2.1⟩, by omega⟩
 exact (Kpt.of_below ((Below.refl _ _).alloc (Nat.le_refl _) _)).trans ((Kpt.of_grown (S := fun b => b = r) hg rfl).trans (Kpt.of_below hb))
theorem Rst.done {w0 w w' w'' : World} {i r g : Nat} {cs : Array Value} {ys : List Nat} (h : Rst w0 w w' i r g cs ys) (hg : w'.grownBy w'' (some w.heap.size)) : InAt w0 w'' i r ys ∧ Kpt (fun b => b = r) w w'' := by
 obtain ⟨v, k, hr, hw, h1, h2⟩ := h.at_
 have := h.old.1
 have := h.old.2
 refine ⟨⟨v, ⟨k.i_.grown hg (fun e => by injection e with e; omega), k.r_.grown hg (fun e => by injection e with e; omega), k.ne⟩, hr, below_of_only hw hg (by omega), h1, h2⟩, ?_⟩
 exact ⟨hg.os.trans h.kpt.os, hg.tape.trans h.kpt.tape, hg.output.trans h.kpt.output, Nat.le_trans h.kpt.size hg.size, fun b hb hs => (hg.block b (Nat.lt_of_lt_of_le hb h.kpt.size) (fun e => by injection e with e; omega)).trans (h.kpt.block b hb hs)⟩
theorem ObO.below {m : Nat} {w w' : World} {o : Ob} {cs : Array Value} {T E P : Option Addr} {tc ec pc : Nat} (h : ObO m w o cs T tc E ec P pc) (hb : Below w.heap.size w w') : ObO m w' o cs T tc E ec P pc :=
 h.kept (Kpt.of_below hb)
theorem ObO.store {m g : Nat} {w w' : World} {o : Ob} {cs : Array Value} {T E P : Option Addr} {tc ec pc : Nat} (h : ObO (g + 1) w o cs T tc E ec P pc) (hm : m < g) (hg : w.grownBy w' (some m)) : ObO m w' o cs T tc E ec P pc :=
 ⟨h.cells, own_low (h.text.kept hg (own_far h.text (by omega))) (by omega), own_low (h.ents.kept hg (own_far h.ents (by omega))) (by omega), own_low (h.pars.kept hg (own_far h.pars (by omega))) (by omega)⟩
theorem ObO.one {m : Nat} {w : World} {o : Ob} {cs : Array Value} {T E P : Option Addr} {tc ec pc : Nat} (h : ObO m w o cs T tc E ec P pc) : cs.all (·.oneCell') = true := by
 rw [h.cells]
 refine arr_one fun v hv => ?_
 unfold cellsOb at hv
 rcases List.mem_cons.1 hv with rfl | hv; · rfl
 rcases List.mem_cons.1 hv with rfl | hv; · rfl
 rcases List.mem_cons.1 hv with rfl | hv; · rfl
 rcases List.mem_append.1 hv with hv | hv
 ·exact cellsB_one _ v hv
 ·rw [List.mem_singleton.1 hv]; rfl
abbrev kindS : ByteArray := ⟨#[98, 116, 99, 103]⟩
theorem kind_not : ∀ c : Fin 256, c.val ≠ 98 → c.val ≠ 116 → c.val ≠ 99 → c.val ≠ 103 → Lib.indexByte kindS.data.toList (((c.val : Nat) : Int).toNat.toUInt8) = -1 := by decide +kernel
theorem kind_at (c : Nat) (k : Int) (hk : Lib.indexByte kindS.data.toList (((c : Nat) : Int).toNat.toUInt8) = k) (w : World) : Calls Tryz.prog 137 #[.string kindS, .int .u8 (c : Int)] w fun e w' => e = .returned (.int .i64 k) ∧ w = w' :=
 (Any.strings_IndexByte ixb_lays kindS (c : Int) w).mono fun e w' h => by rw [hk] at h; exact ⟨h.1, h.2.symm⟩
theorem byte_of {xs : List Nat} (h : Oc.bytes xs) : Sha.Byte xs := fun i => by
 rcases Nat.lt_or_ge i xs.length with h1 | h1
 ·rw [List.getD, List.getElem?_eq_getElem h1]
  exact h _ (List.getElem_mem h1)
 ·rw [List.getD, List.getElem?_eq_none h1]; show 0 < 256; omega
theorem bytes_tail {c : Nat} {ys : List Nat} (h : Oc.bytes (c :: ys)) : Oc.bytes ys := fun x hx => h x (List.mem_cons_of_mem _ hx)
theorem id_take {ys : List Nat} (h : Oc.bytes ys) (hl : 32 ≤ ys.length) : Id32 (ys.take 32) := ⟨by rw [List.length_take]; omega, byte_of (Oc.bytes_take h 32)⟩
set_option maxRecDepth 100000 in
theorem oread_nil (i r : Nat) (a : Nat → Addr) (w0 w : World) (h : InAt w0 w i r []) (hS : PSents w0 a) :
  Calls Tryz.prog 136 #[.pointer (some ⟨i, 0, none⟩)] w fun e w' => ReadPost [] a w0 w i r e w' := by
 have hb : Below w.heap.size w (w.alloc (.cells zOc 183)) := (Below.refl _ _).alloc (Nat.le_refl _) _
 have CN := ibyte_short i r (a 1) w0 (w.alloc (.cells zOc 183)) (h.below hb) hS.1
 have HB := Lib.hid hb
 clear h hS hb
 go_enter Tryz.func136, Tryz.ntmps136
 go_wp2_with (go_at_call 161; refine pause ?_)
 unfold Paused
 change Calls _ _ _ (w.alloc (.cells zOc 183)) _
 refine CN.mono ?_
 rintro e w3 ⟨rfl, hd, hg⟩
 exact ⟨rfl, post_bad (c := 2) rfl ⟨rfl, hd, (Kpt.of_below HB.out).trans (Kpt.of_grown (S := fun b => b = r) hg rfl)⟩⟩
set_option maxRecDepth 100000 in
set_option maxHeartbeats 2000000 in
theorem oread_kind (i r : Nat) (c : Nat) (ys : List Nat) (a : Nat → Addr) (w0 w : World) (h : InAt w0 w i r (c :: ys)) (hb : Oc.bytes (c :: ys)) (hz : (c :: ys).length ≤ 300) (hS : PSents w0 a) (n1 : c ≠ 98) (n2 : c ≠ 116) (n3 : c ≠ 99) (n4 : c ≠ 103) :
  Calls Tryz.prog 136 #[.pointer (some ⟨i, 0, none⟩)] w fun e w' => ReadPost (c :: ys) a w0 w i r e w' := by
 have hc := hb c (List.mem_cons_self ..)
 have CI : ∀ w, Calls Tryz.prog 137 #[.string kindS, .int .u8 (c : Int)] w _ := fun w => kind_at c (-1) (kind_not ⟨c, hc⟩ n1 n2 n3 n4) w
 have q1 := small_conv c hc
 have HP := Lib.hid (show Ob.parse (c :: ys) = .bad 7 by simp only [Ob.parse, if_neg n1, if_neg n2, if_neg n3, if_neg n4])
 clear n1 n2 n3 n4
 have CN := ibyte_ok i r c ys w0 (w.alloc (.cells zOc 183)) (h.below ((Below.refl _ _).alloc (Nat.le_refl _) _)) hb
 have HB := Lib.hid hb
 have HZ := Lib.hid hz
 have HS := Lib.hid hS
 have HIN := Lib.hid h
 clear h hb hz hS
 go_enter Tryz.func136, Tryz.ntmps136
 go_wp2_with (go_at_call 161; refine pause ?_)
 unfold Paused
 change Calls _ _ _ (w.alloc (.cells zOc 183)) _
 refine CN.mono ?_
 rintro e w3 ⟨rfl, hi, hg⟩
 have HI3 := Lib.hid hi
 have HG3 := Lib.hid hg
 clear hi hg CN
 go_wp2_with (first
  | (go_at_call 137; refine (CI _).mono ?_; rintro e w' ⟨rfl, rfl⟩)
  | (with_reducible (show wpList _ _ _ (Oper.mk _ (Op.build _ _) _ _ _ _ :: _) _ _); refine pause ?_))
 unfold Paused
 refine wpList_buildK (by rfl) 183 _ (by rfl) _ (by kernel_rfl) _ (obj_built 0) ?_
 go_wp2_with (with_reducible (show wpList _ _ _ (Oper.mk _ (Op.store 183 _ _) _ _ _ _ :: _) _ _); refine pause ?_)
 unfold Paused
 change wpList _ _ _ _ _ (w3.alloc (.cells zOc 183))
 refine wpList_store_row (by rfl) 183 (.tmp 3) (.tmp 10) (by rfl) w3.heap.size (cellsOb 0 nilV nilV nilV zid).toArray (by rfl) (by rfl) 183 zOc (Blk.new w3 _ _) (by kernel_rfl) (by kernel_rfl) (by kernel_rfl) ?_
 have HRS := Lib.hid (Rst.start HIN.out HG3.out HI3.out (cs := (cellsOb 0 nilV nilV nilV zid).toArray) rfl)
 generalize World.setRow _ w3.heap.size (cellsOb 0 nilV nilV nilV zid).toArray = w4 at HRS ⊢
 generalize w3.heap.size = g at HRS ⊢
 have a0 : w4.cell? ⟨g, 0, none⟩ = some (.int .i64 0) := HRS.out.ob.cell 0
 clear CI
 obtain ⟨vq, kq, hrq, hwq, _, _⟩ := HRS.out.at_
 have pK := (HS.out.at_ hwq).2.2
 have CF := fail_any i r vq (a 6) w4 kq
 clear kq hrq hwq q1
 go_wp2_with (go_at_call 165; refine CF.mono ?_; rintro e w9 ⟨rfl, hd, hg⟩)
 exact ⟨rfl, post_bad HP.out (HRS.out.fails ⟨rfl, hd, hg⟩)⟩
set_option maxRecDepth 100000 in
set_option maxHeartbeats 2000000 in
theorem oread_blob (i r : Nat) (ys : List Nat) (a : Nat → Addr) (w0 w : World) (h : InAt w0 w i r (98 :: ys)) (hb : Oc.bytes (98 :: ys)) (hz : (98 :: ys).length ≤ 300) (hS : PSents w0 a) :
  Calls Tryz.prog 136 #[.pointer (some ⟨i, 0, none⟩)] w fun e w' => ReadPost (98 :: ys) a w0 w i r e w' := by
 have CI : ∀ w, Calls Tryz.prog 137 #[.string kindS, .int .u8 98] w _ := fun w => kind_at 98 0 (by decide +kernel) w
 have CN := ibyte_ok i r 98 ys w0 (w.alloc (.cells zOc 183)) (h.below ((Below.refl _ _).alloc (Nat.le_refl _) _)) hb
 have HB := Lib.hid hb
 have HZ := Lib.hid hz
 have HS := Lib.hid hS
 have HIN := Lib.hid h
 clear h hb hz hS
 go_enter Tryz.func136, Tryz.ntmps136
 go_wp2_with (go_at_call 161; refine pause ?_)
 unfold Paused
 change Calls _ _ _ (w.alloc (.cells zOc 183)) _
 refine CN.mono ?_
 rintro e w3 ⟨rfl, hi, hg⟩
 have HI3 := Lib.hid hi
 have HG3 := Lib.hid hg
 clear hi hg CN
 go_wp2_with (first
  | (go_at_call 137; refine (CI _).mono ?_; rintro e w' ⟨rfl, rfl⟩)
  | (with_reducible (show wpList _ _ _ (Oper.mk _ (Op.build _ _) _ _ _ _ :: _) _ _); refine pause ?_))
 unfold Paused
 refine wpList_buildK (by rfl) 183 _ (by rfl) _ (by kernel_rfl) _ (obj_built 1) ?_
 go_wp2_with (with_reducible (show wpList _ _ _ (Oper.mk _ (Op.store 183 _ _) _ _ _ _ :: _) _ _); refine pause ?_)
 unfold Paused
 change wpList _ _ _ _ _ (w3.alloc (.cells zOc 183))
 refine wpList_store_row (by rfl) 183 (.tmp 3) (.tmp 10) (by rfl) w3.heap.size (cellsOb 1 nilV nilV nilV zid).toArray (by rfl) (by rfl) 183 zOc (Blk.new w3 _ _) (by kernel_rfl) (by kernel_rfl) (by kernel_rfl) ?_
 have HRS := Lib.hid (Rst.start HIN.out HG3.out HI3.out (cs := (cellsOb 1 nilV nilV nilV zid).toArray) rfl)
 generalize World.setRow _ w3.heap.size (cellsOb 1 nilV nilV nilV zid).toArray = w4 at HRS ⊢
 generalize w3.heap.size = g at HRS ⊢
 have a0 : w4.cell? ⟨g, 0, none⟩ = some (.int .i64 1) := HRS.out.ob.cell 0
 clear CI
 have HYB := Lib.hid (bytes_tail HB.out)
 have HYL : Hid (ys.length ≤ 1000000) := Lib.hid (by have := HZ.out; simp only [List.length_cons] at this; omega)
 have CL := left_any i r ys w0 w4 HRS.out.at_
 have CX := onext_ok i r ys.length ys w0 w4 HRS.out.at_ HYB.out (Nat.le_refl _) HYL.out
 rw [List.take_of_length_le (Nat.le_refl _), List.drop_of_length_le (Nat.le_refl _)] at CX
 go_wp2_with (first
  | (go_at_call 163; refine CL.mono ?_; rintro e w' ⟨rfl, rfl⟩)
  | (go_at_call 162; refine pause ?_))
 unfold Paused
 refine CX.mono ?_
 rintro e w6 ⟨v, rfl, hv, hi, hg⟩
 obtain ⟨T, tc, rfl⟩ := own_slice hv
 have HV := Lib.hid (own_low hv (m' := g + 1) HRS.out.ob.lt)
 have HR6 := Lib.hid (HRS.out.read hg hi)
 have q1 : w6.cell? ⟨g, 1, none⟩ = some nilV := HR6.out.ob.cell 1
 have z1 : w6.frozen? ⟨g, 1, none⟩ = false := HR6.out.ob.frozen 1
 have HR7 : Hid (Rst w0 w (w6.setCell ⟨g, 1, none⟩ (.slice T ys.length tc)) i r g (cellsOb 1 (.slice T ys.length tc) nilV nilV zid).toArray []) := Lib.hid (HR6.out.put (grown_cell _ _ _ _) (by have := HR6.out.ob.set_ 1 (.slice T ys.length tc); rwa [cellsOb_k1] at this))
 have HO7 : Hid (ObO (g + 1) (w6.setCell ⟨g, 1, none⟩ (.slice T ys.length tc)) ⟨1, ys, [], zid, []⟩ (cellsOb 1 (.slice T ys.length tc) nilV nilV zid).toArray T tc none 0 none 0) := Lib.hid ⟨rfl, HV.out.kept (grown_cell _ _ _ _) (own_far HV.out (Nat.lt_succ_self g)), World.ownsRow_nil _ _ _ _, World.ownsRow_nil _ _ _ _⟩
 have HFT : Hid (Ob.Fit ⟨1, ys, [], zid, []⟩) := Lib.hid ⟨byte_of HYB.out, fun _ h => (by cases h), zid_id, fun _ h => (by cases h)⟩
 have HHD : Hid (Ob.Held ⟨1, ys, [], zid, []⟩) := Lib.hid ⟨fun _ h => (by cases h), by have := HYL.out; show ys.length ≤ _; omega⟩
 have HPR : Hid (Ob.parse (98 :: ys) = Prs.fin ⟨1, ys, [], zid, []⟩) := Lib.hid rfl
 clear hv hi hg CL CX
 go_wp2_with (with_reducible (show wpList _ _ _ (Oper.mk _ (Op.load 183 _) _ _ _ _ :: _) _ _); refine pause ?_)
 unfold Paused
 generalize w6.setCell ⟨g, 1, none⟩ (.slice T ys.length tc) = w7 at HR7 HO7 ⊢
 have CR := right_any _ _ _ _ _ _ _ _ w7 HO7.out.obc HFT.out HHD.out
 obtain ⟨br, hbr⟩ : ∃ br, br = Ob.right ⟨1, ys, [], zid, []⟩ := ⟨_, rfl⟩
 rw [← hbr] at CR
 have HBR := Lib.hid hbr
 clear hbr
 refine wpList_row_w (by rfl) 183 (.tmp 3) (by rfl) g (by rfl) 183 _ _ HR7.out.ob Tryz.underlying183 (by rfl) (by rw [cellsOb_size _ _ _ _ _ HFT.out.target.1]; kernel_rfl) ?_
 go_wp2_with (go_at_call 166; refine pause ?_)
 unfold Paused
 refine CR.mono ?_
 rintro e w8 ⟨rfl, hb8⟩
 have HRS8 := Lib.hid (HR7.out.below hb8)
 have HOO8 := Lib.hid (HO7.out.below hb8)
 clear hb8 CR
 cases br
 ·obtain ⟨vq, kq, hrq, hwq, _, _⟩ := HRS8.out.at_
  have pF := (HS.out.at_ hwq).2.1
  have CF := fail_any i r vq (a 3) w8 kq
  have HPX := Lib.hid (HPR.out.trans (show Prs.fin ⟨1, ys, [], zid, []⟩ = .bad 4 by unfold Prs.fin; rw [← HBR.out]; rfl))
  clear kq hrq hwq
  go_wp2_with (go_at_call 165; refine CF.mono ?_; rintro e w9 ⟨rfl, hd, hg⟩)
  exact ⟨rfl, post_bad HPX.out (HRS8.out.fails ⟨rfl, hd, hg⟩)⟩
 ·have HPX := Lib.hid (HPR.out.trans (show Prs.fin ⟨1, ys, [], zid, []⟩ = .ok ⟨1, ys, [], zid, []⟩ by unfold Prs.fin; rw [← HBR.out]; rfl))
  go_wp2_with (with_reducible (show wpList _ _ _ (Oper.mk _ (Op.load 183 _) _ _ _ _ :: _) _ _); refine pause ?_)
  unfold Paused
  refine wpList_row_w (by rfl) 183 (.tmp 3) (by rfl) g (by rfl) 183 _ _ HRS8.out.ob Tryz.underlying183 (by rfl) (by rw [cellsOb_size _ _ _ _ _ HFT.out.target.1]; kernel_rfl) ?_
  refine wpList_store_row (by rfl) 183 (.tmp 2) (.tmp 80) (by rfl) w.heap.size _ (by rfl) (by rfl) 183 zOc HRS8.out.res (by rw [cellsOb_size _ _ _ _ _ HFT.out.target.1]; kernel_rfl) (by rw [cellsOb_size _ _ _ _ _ HFT.out.target.1]; rfl) (ObO.one HOO8.out) ?_
  have HB9 := Lib.hid (HRS8.out.res.row (cellsOb 1 (.slice T ys.length tc) nilV nilV zid).toArray)
  have HG9 := Lib.hid (show w8.grownBy (w8.setRow w.heap.size (cellsOb 1 (.slice T ys.length tc) nilV nilV zid).toArray) (some w.heap.size) from only_setRow (World.grownBy.refl w8 _) (Or.inl rfl) _)
  generalize World.setRow _ w.heap.size (cellsOb 1 (.slice T ys.length tc) nilV nilV zid).toArray = w9 at HB9 HG9 ⊢
  go_wp2
  exact bodyPost_ret (v := .agg (cellsOb 1 (.slice T ys.length tc) nilV nilV zid).toArray) (resultsO (t := 2) rfl (by rfl) HB9.out (cellsOb_size _ _ _ _ _ HFT.out.target.1)) rfl (post_ok HPX.out rfl HFT.out HHD.out (HOO8.out.store HRS8.out.gt HG9.out) (HRS8.out.done HG9.out).1 (HRS8.out.done HG9.out).2)
set_option maxRecDepth 100000 in
set_option maxHeartbeats 2000000 in
theorem oread_tag0 (i r : Nat) (ys : List Nat) (a : Nat → Addr) (w0 w : World) (h : InAt w0 w i r (103 :: ys)) (hb : Oc.bytes (103 :: ys)) (hz : (103 :: ys).length ≤ 300) (hS : PSents w0 a) (hs : ys.length < 32) :
  Calls Tryz.prog 136 #[.pointer (some ⟨i, 0, none⟩)] w fun e w' => ReadPost (103 :: ys) a w0 w i r e w' := by
 have CI : ∀ w, Calls Tryz.prog 137 #[.string kindS, .int .u8 103] w _ := fun w => kind_at 103 3 (by decide +kernel) w
 have HSH := Lib.hid hs
 clear hs
 have CN := ibyte_ok i r 103 ys w0 (w.alloc (.cells zOc 183)) (h.below ((Below.refl _ _).alloc (Nat.le_refl _) _)) hb
 have HB := Lib.hid hb
 have HZ := Lib.hid hz
 have HS := Lib.hid hS
 have HIN := Lib.hid h
 clear h hb hz hS
 go_enter Tryz.func136, Tryz.ntmps136
 go_wp2_with (go_at_call 161; refine pause ?_)
 unfold Paused
 change Calls _ _ _ (w.alloc (.cells zOc 183)) _
 refine CN.mono ?_
 rintro e w3 ⟨rfl, hi, hg⟩
 have HI3 := Lib.hid hi
 have HG3 := Lib.hid hg
 clear hi hg CN
 go_wp2_with (first
  | (go_at_call 137; refine (CI _).mono ?_; rintro e w' ⟨rfl, rfl⟩)
  | (with_reducible (show wpList _ _ _ (Oper.mk _ (Op.build _ _) _ _ _ _ :: _) _ _); refine pause ?_))
 unfold Paused
 refine wpList_buildK (by rfl) 183 _ (by rfl) _ (by kernel_rfl) _ (obj_built 4) ?_
 go_wp2_with (with_reducible (show wpList _ _ _ (Oper.mk _ (Op.store 183 _ _) _ _ _ _ :: _) _ _); refine pause ?_)
 unfold Paused
 change wpList _ _ _ _ _ (w3.alloc (.cells zOc 183))
 refine wpList_store_row (by rfl) 183 (.tmp 3) (.tmp 10) (by rfl) w3.heap.size (cellsOb 4 nilV nilV nilV zid).toArray (by rfl) (by rfl) 183 zOc (Blk.new w3 _ _) (by kernel_rfl) (by kernel_rfl) (by kernel_rfl) ?_
 have HRS := Lib.hid (Rst.start HIN.out HG3.out HI3.out (cs := (cellsOb 4 nilV nilV nilV zid).toArray) rfl)
 generalize World.setRow _ w3.heap.size (cellsOb 4 nilV nilV nilV zid).toArray = w4 at HRS ⊢
 generalize w3.heap.size = g at HRS ⊢
 have a0 : w4.cell? ⟨g, 0, none⟩ = some (.int .i64 4) := HRS.out.ob.cell 0
 clear CI
 have HPR := Lib.hid (show Ob.parse (103 :: ys) = .bad 2 from (show (if ys.length < 32 then Prs.bad 2 else Prs.fin ⟨4, ys.drop 32, [], ys.take 32, []⟩) = _ from if_pos HSH.out))
 have pS := (HS.out.at_ HRS.out.at_.bel.1).1
 have CO := oid_short i r (a 1) ys w0 w4 HRS.out.at_ HSH.out pS
 go_wp2_with (go_at_call 164; refine CO.mono ?_; rintro e w9 ⟨rfl, hd, hg⟩)
 exact ⟨rfl, post_bad HPR.out (HRS.out.fails ⟨rfl, hd, hg⟩)⟩
set_option maxRecDepth 100000 in
set_option maxHeartbeats 2000000 in
theorem oread_tag (i r : Nat) (ys : List Nat) (a : Nat → Addr) (w0 w : World) (h : InAt w0 w i r (103 :: ys)) (hb : Oc.bytes (103 :: ys)) (hz : (103 :: ys).length ≤ 300) (hS : PSents w0 a) (hs : 32 ≤ ys.length) :
  Calls Tryz.prog 136 #[.pointer (some ⟨i, 0, none⟩)] w fun e w' => ReadPost (103 :: ys) a w0 w i r e w' := by
 have CI : ∀ w, Calls Tryz.prog 137 #[.string kindS, .int .u8 103] w _ := fun w => kind_at 103 3 (by decide +kernel) w
 have HSH := Lib.hid hs
 clear hs
 have CN := ibyte_ok i r 103 ys w0 (w.alloc (.cells zOc 183)) (h.below ((Below.refl _ _).alloc (Nat.le_refl _) _)) hb
 have HB := Lib.hid hb
 have HZ := Lib.hid hz
 have HS := Lib.hid hS
 have HIN := Lib.hid h
 clear h hb hz hS
 go_enter Tryz.func136, Tryz.ntmps136
 go_wp2_with (go_at_call 161; refine pause ?_)
 unfold Paused
 change Calls _ _ _ (w.alloc (.cells zOc 183)) _
 refine CN.mono ?_
 rintro e w3 ⟨rfl, hi, hg⟩
 have HI3 := Lib.hid hi
 have HG3 := Lib.hid hg
 clear hi hg CN
 go_wp2_with (first
  | (go_at_call 137; refine (CI _).mono ?_; rintro e w' ⟨rfl, rfl⟩)
  | (with_reducible (show wpList _ _ _ (Oper.mk _ (Op.build _ _) _ _ _ _ :: _) _ _); refine pause ?_))
 unfold Paused
 refine wpList_buildK (by rfl) 183 _ (by rfl) _ (by kernel_rfl) _ (obj_built 4) ?_
 go_wp2_with (with_reducible (show wpList _ _ _ (Oper.mk _ (Op.store 183 _ _) _ _ _ _ :: _) _ _); refine pause ?_)
 unfold Paused
 change wpList _ _ _ _ _ (w3.alloc (.cells zOc 183))
 refine wpList_store_row (by rfl) 183 (.tmp 3) (.tmp 10) (by rfl) w3.heap.size (cellsOb 4 nilV nilV nilV zid).toArray (by rfl) (by rfl) 183 zOc (Blk.new w3 _ _) (by kernel_rfl) (by kernel_rfl) (by kernel_rfl) ?_
 have HRS := Lib.hid (Rst.start HIN.out HG3.out HI3.out (cs := (cellsOb 4 nilV nilV nilV zid).toArray) rfl)
 generalize World.setRow _ w3.heap.size (cellsOb 4 nilV nilV nilV zid).toArray = w4 at HRS ⊢
 generalize w3.heap.size = g at HRS ⊢
 have a0 : w4.cell? ⟨g, 0, none⟩ = some (.int .i64 4) := HRS.out.ob.cell 0
 clear CI
 have HYB := Lib.hid (bytes_tail HB.out)
 have HPR := Lib.hid (show Ob.parse (103 :: ys) = Prs.fin ⟨4, ys.drop 32, [], ys.take 32, []⟩ from (show (if ys.length < 32 then Prs.bad 2 else Prs.fin ⟨4, ys.drop 32, [], ys.take 32, []⟩) = _ from if_neg (Nat.not_lt.2 HSH.out)))
 have HTI := Lib.hid (id_take HYB.out HSH.out)
 have CO := oid_ok i r ys w0 w4 HRS.out.at_ HSH.out
 have HDB := Lib.hid (Oc.bytes_drop HYB.out 32)
 have HYL : Hid ((ys.drop 32).length ≤ 1000000) := Lib.hid (by have := HZ.out; rw [List.length_drop]; simp only [List.length_cons] at this; omega)
 generalize ys.take 32 = tg at HPR HTI CO
 generalize ys.drop 32 = us at HPR HDB HYL CO
 go_wp2_with (go_at_call 164; refine pause ?_)
 unfold Paused
 refine CO.mono ?_
 rintro e w5 ⟨rfl, hi, hg⟩
 have HR5 := Lib.hid (HRS.out.read hg hi)
 clear hi hg CO
 go_wp2_with (with_reducible (show wpList _ _ _ (Oper.mk _ (Op.store 41 _ _) _ _ _ _ :: _) _ _); refine pause ?_)
 unfold Paused
 refine wpList_store_mid (by rfl) 41 (.tmp 68) (.tmp 67) (by rfl) g 3 (u8s tg) (by rfl) (by rfl) (there_of HR5.out.ob (by rw [cellsOb_size _ _ _ _ _ zid_id.1, u8s_size, HTI.out.1]; omega)) (by rw [u8s_size, HTI.out.1]; exact oid_size) (u8s_one _) ?_
 have HR6 : Hid (Rst w0 w (w5.setCells g 3 (u8s tg).toList) i r g (cellsOb 4 nilV nilV nilV tg).toArray us) := Lib.hid (HR5.out.put (grown_cells g _ 3 w5 w5 (World.grownBy.refl _ _)) (blk_cells (t := 183) [nilV] (u8s tg).toList (cellsB zid) [.int .i64 4, nilV, nilV] 3 w5 (by rw [cellsB_len, zid_id.1, Array.length_toList, u8s_size, HTI.out.1]) rfl HR5.out.ob))
 generalize w5.setCells g 3 (u8s tg).toList = w6 at HR6 ⊢
 have CL := left_any i r us w0 w6 HR6.out.at_
 have CX := onext_ok i r us.length us w0 w6 HR6.out.at_ HDB.out (Nat.le_refl _) HYL.out
 rw [List.take_of_length_le (Nat.le_refl _), List.drop_of_length_le (Nat.le_refl _)] at CX
 go_wp2_with (first
  | (go_at_call 163; refine CL.mono ?_; rintro e w' ⟨rfl, rfl⟩)
  | (go_at_call 162; refine pause ?_))
 unfold Paused
 refine CX.mono ?_
 rintro e w7 ⟨v, rfl, hv, hi, hg⟩
 obtain ⟨T, tc, rfl⟩ := own_slice hv
 have HV := Lib.hid (own_low hv (m' := g + 1) HR6.out.ob.lt)
 have HR7 := Lib.hid (HR6.out.read hg hi)
 have q1 : w7.cell? ⟨g, 1, none⟩ = some nilV := HR7.out.ob.cell 1
 have z1 : w7.frozen? ⟨g, 1, none⟩ = false := HR7.out.ob.frozen 1
 have HR9 : Hid (Rst w0 w (w7.setCell ⟨g, 1, none⟩ (.slice T us.length tc)) i r g (cellsOb 4 (.slice T us.length tc) nilV nilV tg).toArray []) := Lib.hid (HR7.out.put (grown_cell _ _ _ _) (by have := HR7.out.ob.set_ 1 (.slice T us.length tc); rwa [cellsOb_k1] at this))
 have HO9 : Hid (ObO (g + 1) (w7.setCell ⟨g, 1, none⟩ (.slice T us.length tc)) ⟨4, us, [], tg, []⟩ (cellsOb 4 (.slice T us.length tc) nilV nilV tg).toArray T tc none 0 none 0) := Lib.hid ⟨rfl, HV.out.kept (grown_cell _ _ _ _) (own_far HV.out (Nat.lt_succ_self g)), World.ownsRow_nil _ _ _ _, World.ownsRow_nil _ _ _ _⟩
 have HFT : Hid (Ob.Fit ⟨4, us, [], tg, []⟩) := Lib.hid ⟨byte_of HDB.out, fun _ h => (by cases h), HTI.out, fun _ h => (by cases h)⟩
 have HHD : Hid (Ob.Held ⟨4, us, [], tg, []⟩) := Lib.hid ⟨fun _ h => (by cases h), by have := HYL.out; show us.length ≤ _; omega⟩
 clear hv hi hg CL CX
 go_wp2_with (with_reducible (show wpList _ _ _ (Oper.mk _ (Op.load 183 _) _ _ _ _ :: _) _ _); refine pause ?_)
 unfold Paused
 generalize w7.setCell ⟨g, 1, none⟩ (.slice T us.length tc) = wt at HR9 HO9 ⊢
 have CR := right_any _ _ _ _ _ _ _ _ wt HO9.out.obc HFT.out HHD.out
 obtain ⟨br, hbr⟩ : ∃ br, br = Ob.right ⟨4, us, [], tg, []⟩ := ⟨_, rfl⟩
 rw [← hbr] at CR
 have HBR := Lib.hid hbr
 clear hbr
 refine wpList_row_w (by rfl) 183 (.tmp 3) (by rfl) g (by rfl) 183 _ _ HR9.out.ob Tryz.underlying183 (by rfl) (by rw [cellsOb_size _ _ _ _ _ HFT.out.target.1]; kernel_rfl) ?_
 go_wp2_with (go_at_call 166; refine pause ?_)
 unfold Paused
 refine CR.mono ?_
 rintro e w8 ⟨rfl, hb8⟩
 have HRS8 := Lib.hid (HR9.out.below hb8)
 have HOO8 := Lib.hid (HO9.out.below hb8)
 clear hb8 CR
 cases br
 ·obtain ⟨vq, kq, hrq, hwq, _, _⟩ := HRS8.out.at_
  have pF := (HS.out.at_ hwq).2.1
  have CF := fail_any i r vq (a 3) w8 kq
  have HPX := Lib.hid (HPR.out.trans (show Prs.fin ⟨4, us, [], tg, []⟩ = .bad 4 by unfold Prs.fin; rw [← HBR.out]; rfl))
  clear kq hrq hwq
  go_wp2_with (go_at_call 165; refine CF.mono ?_; rintro e w9 ⟨rfl, hd, hg⟩)
  exact ⟨rfl, post_bad HPX.out (HRS8.out.fails ⟨rfl, hd, hg⟩)⟩
 ·have HPX := Lib.hid (HPR.out.trans (show Prs.fin ⟨4, us, [], tg, []⟩ = .ok ⟨4, us, [], tg, []⟩ by unfold Prs.fin; rw [← HBR.out]; rfl))
  go_wp2_with (with_reducible (show wpList _ _ _ (Oper.mk _ (Op.load 183 _) _ _ _ _ :: _) _ _); refine pause ?_)
  unfold Paused
  refine wpList_row_w (by rfl) 183 (.tmp 3) (by rfl) g (by rfl) 183 _ _ HRS8.out.ob Tryz.underlying183 (by rfl) (by rw [cellsOb_size _ _ _ _ _ HFT.out.target.1]; kernel_rfl) ?_
  refine wpList_store_row (by rfl) 183 (.tmp 2) (.tmp 80) (by rfl) w.heap.size _ (by rfl) (by rfl) 183 zOc HRS8.out.res (by rw [cellsOb_size _ _ _ _ _ HFT.out.target.1]; kernel_rfl) (by rw [cellsOb_size _ _ _ _ _ HFT.out.target.1]; rfl) (ObO.one HOO8.out) ?_
  have HB9 := Lib.hid (HRS8.out.res.row (cellsOb 4 (.slice T us.length tc) nilV nilV tg).toArray)
  have HG9 := Lib.hid (show w8.grownBy (w8.setRow w.heap.size (cellsOb 4 (.slice T us.length tc) nilV nilV tg).toArray) (some w.heap.size) from only_setRow (World.grownBy.refl w8 _) (Or.inl rfl) _)
  generalize World.setRow _ w.heap.size (cellsOb 4 (.slice T us.length tc) nilV nilV tg).toArray = w9 at HB9 HG9 ⊢
  go_wp2
  exact bodyPost_ret (v := .agg (cellsOb 4 (.slice T us.length tc) nilV nilV tg).toArray) (resultsO (t := 2) rfl (by rfl) HB9.out (cellsOb_size _ _ _ _ _ HFT.out.target.1)) rfl (post_ok HPX.out rfl HFT.out HHD.out (HOO8.out.store HRS8.out.gt HG9.out) (HRS8.out.done HG9.out).1 (HRS8.out.done HG9.out).2)
end Go.Proofs.YtgcgomdhdgjpdaaGreatDoor
