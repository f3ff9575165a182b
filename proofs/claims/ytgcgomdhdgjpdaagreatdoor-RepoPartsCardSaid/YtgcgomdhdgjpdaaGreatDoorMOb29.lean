/- object.read: trees. -/
import Derived.Test.YtgcgomdhdgjpdaaGreatDoorMOb28
namespace Go.Proofs.YtgcgomdhdgjpdaaGreatDoor
open Go Go.RowKit
theorem oent_info : (Tryz.prog.info? 245).map (fun i => (i.zero, i.size, i.bytes)) = some (some (.agg (cellsE1 ⟨⟨#[]⟩, List.replicate 32 0⟩).toArray), 33, 48) := by kernel_rfl
theorem oent_places : (Tryz.prog.fieldsOf 245).toList.mapM (fun f => (Tryz.prog.info? f.type).map fun i => (f.offset, i.size)) = some [(0, 1), (1, 32)] := by kernel_rfl
theorem oent_zero : ((Tryz.prog.info? 245).bind (·.zero)).map (·.cells) = some (cellsE1 ⟨⟨#[]⟩, List.replicate 32 0⟩).toArray := by kernel_rfl
theorem ient_under : Tryz.prog.underlying 245 = some (.struct (Tryz.prog.fieldsOf 245)) := by kernel_rfl
theorem oent_built (e : Ent) (h : Id32 e.id) : Tryz.prog.built 245 [(0, .string e.name), (1, .agg (cellsB e.id).toArray)] = some (cellsE1 e).toArray := by
 rw [built_of ient_under oent_zero oent_places]
 have e1 := fill_part (fun i => ([(0, 1), (1, 32)] : List (Nat × Nat)).toArray[i]?) 0 0 1 (.string e.name) [(1, .agg (cellsB e.id).toArray)] [.string e.name] [.string ⟨#[]⟩] [] (cellsB (List.replicate 32 0)) rfl rfl rfl rfl rfl
 have e2 := fill_part (fun i => ([(0, 1), (1, 32)] : List (Nat × Nat)).toArray[i]?) 1 1 32 (.agg (cellsB e.id).toArray) [] (cellsB e.id) (cellsB (List.replicate 32 0)) [.string e.name] [] rfl rfl (by rw [cellsB_len, h.1]) (by rw [cellsB_len]; rfl) rfl
 rw [List.append_nil, List.append_nil] at e2
 exact e1.trans e2
theorem wp_buildK {P : Program} {o : Oper} {a : Act} {w : World} {K : Act → World → Prop} {Q : Exit → Act → World → Prop} (t : TypeId) (parts : Array (Nat × Operand)) (ho : o.op = .build t parts) (vals : List (Nat × Value))
  (hv : (parts.map fun (i, x) => (i, a.eval x)).toList = vals) (cells : Array Value) (h : P.built t vals = some cells) (hk : K (a.put o.dst (.agg cells)) w) : o.wp P a w K Q := by
 refine wp_build t parts ho (by rw [hv, h]; rfl) ?_
 rw [hv, h]
 exact hk
theorem cellsE_add (l : List Ent) (x : Ent) : cellsE (l ++ [x]) = cellsE l ++ cellsE1 x := by simp [cellsE]
def leftAt (r : Nat) (w : World) : Nat := match w.cell? ⟨r, 0, none⟩ with
 | some (.slice _ n _) => n
 | _ => 0
theorem InAt.left {w0 w : World} {i r : Nat} {xs : List Nat} (h : InAt w0 w i r xs) : leftAt r w = xs.length := by
 obtain ⟨v, k, hr, _⟩ := h
 obtain ⟨A, c, rfl, _⟩ := hr
 have h1 : w.cell? ⟨r, 0, none⟩ = some (.slice A xs.length c) := k.r_.cell 0
 unfold leftAt
 rw [h1]
theorem textOf_size (l : List Nat) : (textOf l).size = l.length := by simp [textOf, ByteArray.size]
noncomputable def trPrs (q : Option (List Ent)) : Prs := match q with | none => .bad 2 | some es => Prs.fin ⟨2, [], es, zid, []⟩
theorem tr_parse (ys : List Nat) : Ob.parse (116 :: ys) = trPrs (entsOf [] ys) := rfl
structure TrW (w0 w wr : World) (i r g : Nat) (u v : Value) (es : List Ent) (n : Nat) (zs : List Nat) : Prop where
 rst : Rst w0 w wr i r g (cellsOb 2 nilV u nilV zid).toArray zs
 row : wr.ownsRow (g + 1) 245 33 v n (cellsE es)
section
variable {w0 w wr w' : World} {i r g n : Nat} {zs us : List Nat} {u v : Value} {es fs : List Ent}
theorem TrW.below (h : TrW w0 w wr i r g u v es n zs) (hb : Below wr.heap.size wr w') : TrW w0 w w' i r g u v es n zs :=
 ⟨h.rst.below hb, own_kpt h.row (Kpt.of_below hb)⟩
theorem TrW.read (h : TrW w0 w wr i r g u v es n zs) (hg : wr.grownBy w' (some r)) (hi : InAt w0 w' i r us) : TrW w0 w w' i r g u v es n us :=
 ⟨h.rst.read hg hi, h.row.kept hg (own_far h.row (by have := h.rst.gt; have := h.rst.old.1; omega))⟩
theorem TrW.app (h : TrW w0 w wr i r g u v es n zs) {v2 : Value} {m : Nat} (ho : w'.ownsRow (g + 1) 245 33 v2 m (cellsE fs)) (hg : wr.grownBy w' v.ownBlock) : TrW w0 w w' i r g u v2 fs m zs :=
 ⟨h.rst.own h.row (Nat.lt_succ_self g) hg, ho⟩
theorem TrW.put (h : TrW w0 w wr i r g u v es n zs) (x : Value) : TrW w0 w (wr.setCell ⟨g, 2, none⟩ x) i r g x v es n zs :=
 ⟨h.rst.put (grown_cell _ _ _ _) (by have := h.rst.ob.set_ 2 x; rwa [cellsOb_k2] at this), h.row.kept (grown_cell _ _ _ _) (own_far h.row (Nat.lt_succ_self g))⟩
theorem TrW.cell (h : TrW w0 w wr i r g u v es n zs) : wr.cell? ⟨g, 2, none⟩ = some u := h.rst.ob.cell 2
end
set_option maxRecDepth 100000 in
set_option maxHeartbeats 2000000 in
theorem oread_tree (i r : Nat) (ys : List Nat) (a : Nat → Addr) (w0 w : World) (h : InAt w0 w i r (116 :: ys)) (hb : Oc.bytes (116 :: ys)) (hz : (116 :: ys).length ≤ 300) (hS : PSents w0 a) :
  Calls Tryz.prog 136 #[.pointer (some ⟨i, 0, none⟩)] w fun e w' => ReadPost (116 :: ys) a w0 w i r e w' := by
 have CI : ∀ w, Calls Tryz.prog 137 #[.string kindS, .int .u8 116] w _ := fun w => kind_at 116 1 (by decide +kernel) w
 have CN := ibyte_ok i r 116 ys w0 (w.alloc (.cells zOc 183)) (h.below ((Below.refl _ _).alloc (Nat.le_refl _) _)) hb
 have HB := Lib.hid hb
 have HZ := Lib.hid hz
 have HS := Lib.hid hS
 have HIN := Lib.hid h
 clear h hb hz hS
 go_enter Tryz.func136, Tryz.ntmps136
 go_wp2_with (go_at_call 161; refine pause ?_)
 unfold Paused
 change Calls _ _ _ (w.alloc (.cells zOc 183)) _
 refine CN.mono ?_
 rintro e w3 ⟨rfl, hi, hg⟩
 have HI3 := Lib.hid hi
 have HG3 := Lib.hid hg
 clear hi hg CN
 go_wp2_with (first
  | (go_at_call 137; refine (CI _).mono ?_; rintro e w' ⟨rfl, rfl⟩)
  | (with_reducible (show wpList _ _ _ (Oper.mk _ (Op.build _ _) _ _ _ _ :: _) _ _); refine pause ?_))
 unfold Paused
 refine wpList_buildK (by rfl) 183 _ (by rfl) _ (by kernel_rfl) _ (obj_built 2) ?_
 go_wp2_with (with_reducible (show wpList _ _ _ (Oper.mk _ (Op.store 183 _ _) _ _ _ _ :: _) _ _); refine pause ?_)
 unfold Paused
 change wpList _ _ _ _ _ (w3.alloc (.cells zOc 183))
 refine wpList_store_row (by rfl) 183 (.tmp 3) (.tmp 10) (by rfl) w3.heap.size (cellsOb 2 nilV nilV nilV zid).toArray (by rfl) (by rfl) 183 zOc (Blk.new w3 _ _) (by kernel_rfl) (by kernel_rfl) (by kernel_rfl) ?_
 have HRS := Lib.hid (Rst.start HIN.out HG3.out HI3.out (cs := (cellsOb 2 nilV nilV nilV zid).toArray) rfl)
 generalize World.setRow _ w3.heap.size (cellsOb 2 nilV nilV nilV zid).toArray = w4 at HRS ⊢
 generalize w3.heap.size = g at HRS ⊢
 have a0 : w4.cell? ⟨g, 0, none⟩ = some (.int .i64 2) := HRS.out.ob.cell 0
 clear CI
 have HYB := Lib.hid (bytes_tail HB.out)
 have HPR := Lib.hid (tr_parse ys)
 have HW7 : Hid (TrW w0 w w4 i r g nilV nilV [] 0 ys) := Lib.hid ⟨HRS.out, World.ownsRow_nil _ _ _ _⟩
 go_wp2
 have HF7 : Hid (entsOf [] ys = entsOf [] ys ∧ (∀ e ∈ ([] : List Ent), Id32 e.id ∧ e.name.size ≤ 300) ∧ Oc.bytes ys ∧ ([] : List Ent).length + ys.length ≤ 300) := Lib.hid ⟨rfl, fun _ h => (by cases h), HYB.out, by have := HZ.out; simp only [List.length_cons] at this; simp only [List.length_nil]; omega⟩
 go_loopw [4] (fun nv wr => ∃ (v : Value) (es : List Ent) (zs : List Nat), Hid (TrW w0 w wr i r g v v es es.length zs) ∧ Hid (entsOf es zs = entsOf [] ys ∧ (∀ e ∈ es, Id32 e.id ∧ e.name.size ≤ 300) ∧ Oc.bytes zs ∧ es.length + zs.length ≤ 300)) (fun _ w => leftAt r w)
 case atStart => exact ⟨nilV, [], ys, HW7, HF7⟩
 case round =>
  obtain ⟨v, es, zs, HW, HF⟩ := hrel
  have CL := left_any i r zs w0 wr HW.out.rst.at_
  obtain _ | ⟨m, yt⟩ := zs
  ·have HEND := Lib.hid (HPR.out.trans (by rw [← HF.out.1, entsOf_nil]; rfl : _ = Prs.fin ⟨2, [], es, zid, []⟩))
   obtain ⟨E, ec, hv⟩ := own_slice HW.out.row
   subst hv
   have HR9 := Lib.hid HW.out.rst
   have HO9 : Hid (ObO (g + 1) wr ⟨2, [], es, zid, []⟩ (cellsOb 2 nilV (.slice E es.length ec) nilV zid).toArray none 0 E ec none 0) := Lib.hid ⟨rfl, World.ownsRow_nil _ _ _ _, HW.out.row, World.ownsRow_nil _ _ _ _⟩
   have HFT : Hid (Ob.Fit ⟨2, [], es, zid, []⟩) := Lib.hid ⟨byte_of (fun _ h => (by cases h)), fun e h => (HF.out.2.1 e h).1, zid_id, fun _ h => (by cases h)⟩
   have HHD : Hid (Ob.Held ⟨2, [], es, zid, []⟩) := Lib.hid ⟨fun e h => by have := (HF.out.2.1 e h).2; omega, by show (0 : Nat) ≤ _; omega⟩
   have i1 : ¬ ((([] : List Nat).length : Int) > 0) := by simp
   clear HW
   go_wp2_with (first
    | (go_at_call 163; refine CL.mono ?_; rintro e w' ⟨rfl, rfl⟩)
    | (with_reducible (show wpList _ _ _ (Oper.mk _ (Op.load 183 _) _ _ _ _ :: _) _ _); refine pause ?_))
   unfold Paused
   clear CL i1
   have CR := right_any _ _ _ _ _ _ _ _ wr HO9.out.obc HFT.out HHD.out
   obtain ⟨br, hbr⟩ : ∃ br, br = Ob.right ⟨2, [], es, zid, []⟩ := ⟨_, rfl⟩
   rw [← hbr] at CR
   have HBR := Lib.hid hbr
   clear hbr
   refine wpList_row_w (by rfl) 183 (.tmp 3) (by rfl) g (by rfl) 183 _ _ HR9.out.ob Tryz.underlying183 (by rfl) (by rw [cellsOb_size _ _ _ _ _ HFT.out.target.1]; kernel_rfl) ?_
   go_wp2_with (go_at_call 166; refine pause ?_)
   unfold Paused
   refine CR.mono ?_
   rintro e w8 ⟨rfl, hb8⟩
   have HRS8 := Lib.hid (HR9.out.below hb8)
   have HOO8 := Lib.hid (HO9.out.below hb8)
   clear hb8 CR
   cases br
   ·obtain ⟨vq, kq, hrq, hwq, _, _⟩ := HRS8.out.at_
    have pF := (HS.out.at_ hwq).2.1
    have CF := fail_any i r vq (a 3) w8 kq
    have HPX := Lib.hid (HEND.out.trans (show Prs.fin ⟨2, [], es, zid, []⟩ = .bad 4 by unfold Prs.fin; rw [← HBR.out]; rfl))
    clear kq hrq hwq
    go_wp2_with (go_at_call 165; refine CF.mono ?_; rintro e w9 ⟨rfl, hd, hg⟩)
    exact ⟨rfl, post_bad HPX.out (HRS8.out.fails ⟨rfl, hd, hg⟩)⟩
   ·have HPX := Lib.hid (HEND.out.trans (show Prs.fin ⟨2, [], es, zid, []⟩ = .ok ⟨2, [], es, zid, []⟩ by unfold Prs.fin; rw [← HBR.out]; rfl))
    go_wp2_with (with_reducible (show wpList _ _ _ (Oper.mk _ (Op.load 183 _) _ _ _ _ :: _) _ _); refine pause ?_)
    unfold Paused
    refine wpList_row_w (by rfl) 183 (.tmp 3) (by rfl) g (by rfl) 183 _ _ HRS8.out.ob Tryz.underlying183 (by rfl) (by rw [cellsOb_size _ _ _ _ _ HFT.out.target.1]; kernel_rfl) ?_
    refine wpList_store_row (by rfl) 183 (.tmp 2) (.tmp 80) (by rfl) w.heap.size _ (by rfl) (by rfl) 183 zOc HRS8.out.res (by rw [cellsOb_size _ _ _ _ _ HFT.out.target.1]; kernel_rfl) (by rw [cellsOb_size _ _ _ _ _ HFT.out.target.1]; rfl) (ObO.one HOO8.out) ?_
    have HB9 := Lib.hid (HRS8.out.res.row (cellsOb 2 nilV (.slice E es.length ec) nilV zid).toArray)
    have HG9 := Lib.hid (show w8.grownBy (w8.setRow w.heap.size (cellsOb 2 nilV (.slice E es.length ec) nilV zid).toArray) (some w.heap.size) from only_setRow (World.grownBy.refl w8 _) (Or.inl rfl) _)
    generalize World.setRow _ w.heap.size (cellsOb 2 nilV (.slice E es.length ec) nilV zid).toArray = w9 at HB9 HG9 ⊢
    go_wp2
    exact bodyPost_ret (v := .agg (cellsOb 2 nilV (.slice E es.length ec) nilV zid).toArray) (resultsO (t := 2) rfl (by rfl) HB9.out (cellsOb_size _ _ _ _ _ HFT.out.target.1)) rfl (post_ok HPX.out rfl HFT.out HHD.out (HOO8.out.store HRS8.out.gt HG9.out) (HRS8.out.done HG9.out).1 (HRS8.out.done HG9.out).2)
  ·have hm : m < 256 := HF.out.2.2.1 m (List.mem_cons_self ..)
   have i1 : (((m :: yt).length : Nat) : Int) > 0 := by simp only [List.length_cons]; omega
   have CN := ibyte_ok i r m yt w0 wr HW.out.rst.at_ HF.out.2.2.1
   have HYT := Lib.hid (bytes_tail HF.out.2.2.1)
   have HYL : Hid (es.length + yt.length < 300) := Lib.hid (by have := HF.out.2.2.2; simp only [List.length_cons] at this; omega)
   have HLW := Lib.hid HW.out.rst.at_.left
   go_wp2_with (first
    | (go_at_call 163; refine CL.mono ?_; rintro e w' ⟨rfl, rfl⟩)
    | (go_at_call 161; refine CN.mono ?_; rintro e w1 ⟨rfl, hi, hg⟩; have HW1 := Lib.hid (HW.out.read hg hi); clear hi hg)
    | (go_at_call 162; refine pause ?_))
   unfold Paused
   clear CL CN i1 HW
   by_cases hs1 : yt.length < m
   ·have pS := HS.out.1
    have CX := onext_short i r m (a 1) yt w0 w1 HW1.out.rst.at_ HYT.out hs1 (by omega) pS
    have HPX := Lib.hid (HPR.out.trans (by rw [← HF.out.1, entsOf_short (by omega)]; rfl : _ = Prs.bad 2))
    refine CX.mono ?_
    rintro e w8 ⟨rfl, hd, hg⟩
    exact ⟨rfl, post_bad HPX.out (HW1.out.rst.fails ⟨rfl, hd, hg⟩)⟩
   ·have CX := onext_ok i r m yt w0 w1 HW1.out.rst.at_ HYT.out (by omega) (by omega)
    have HML := Lib.hid (show (yt.take m).length = m by rw [List.length_take]; omega)
    have HDL := Lib.hid (show (yt.drop m).length = yt.length - m by rw [List.length_drop])
    have HDB := Lib.hid (Oc.bytes_drop HYT.out m)
    have HEN : Hid (entOf m yt = ⟨textOf (yt.take m), (yt.drop m).take 32⟩) := Lib.hid rfl
    have HDR := Lib.hid (show yt.drop (m + 32) = (yt.drop m).drop 32 by rw [List.drop_drop])
    generalize yt.take m = nm at CX HML HEN
    generalize yt.drop m = yy at CX HDL HDB HEN HDR
    refine CX.mono ?_
    rintro e w2 ⟨vn, rfl, hv, hi, hg⟩
    obtain ⟨T, tc, rfl⟩ := own_slice hv
    have HW2 := Lib.hid (HW1.out.read hg hi)
    have HWd := Lib.hid (HW2.out.below (below_drewN (Below.refl _ w2) 1))
    have HNM : Hid (w2.drew.ownsRow w1.heap.size 5 1 (.slice T m tc) m (cellsB nm)) := Lib.hid (own_kpt hv (Kpt.of_below (below_drewN (Below.refl _ w2) 1)))
    have HVB : Hid (∀ b, v.ownBlock = some b → b < w1.heap.size) := Lib.hid (fun b hb => (HW1.out.row.lt b hb).2)
    have HRB : Hid (r < w1.heap.size) := Lib.hid (by have := HW1.out.rst.gt; have := HW1.out.rst.old.1; have := HW1.out.rst.ob.lt; omega)
    have HRDd : Hid (Rd w2.drew (.slice T m tc) nm) := Lib.hid (rd_own (m := w1.heap.size) (by rw [HML.out]; exact HNM.out))
    have HSS := Lib.hid (And.intro HWd.out.cell HRDd.out)
    clear hv hi hg CX HW1 HW2
    generalize w1.heap.size = N at HNM HVB HRB
    by_cases hs2 : yy.length < 32
    ·have pS := (HS.out.at_ HWd.out.rst.at_.bel.1).1
     have CO := oid_short i r (a 1) yy w0 w2.drew HWd.out.rst.at_ hs2 pS
     have HPX := Lib.hid (HPR.out.trans (by rw [← HF.out.1, entsOf_short (by have := HDL.out; omega)]; rfl : _ = Prs.bad 2))
     clear pS hs2 hs1
     go_wp2_with fail
     refine wp_region_upto (S := (fun w' => w'.cell? ⟨g, 2, none⟩ = some v ∧ Rd w' (.slice T m tc) nm)) (b := 10) (by kernel_rfl) ?_
     change Upto _ _ _ _ _ _ _ _ _ w2.drew
     refine Upto.takeY (i := 0) (v := ?_) rfl (by kernel_rfl) (by kernel_rfl) (by kernel_rfl) (by kernel_rfl) (fun _ _ _ h => h) (Or.inl ⟨by rfl, ?_⟩) (fun _ => HSS.out) ?_
     rotate_left
     ·intro w _; go_simp; with_reducible rfl
     try simp only [Act.put, List.getElem_toArray, List.getElem_cons_zero, List.setIfInBounds_toArray, List.set_cons_zero, List.set_cons_succ]
     refine Upto.take (i := 1) (v := ?_) rfl (by kernel_rfl) (by kernel_rfl) (by kernel_rfl) (by kernel_rfl) (fun _ _ _ h => h) (Or.inl ⟨by rfl, ?_⟩) HSS.out ?_
     rotate_left
     ·intro w' hS; have q0 := hS.1; go_simp; with_reducible rfl
     try simp only [Act.put, List.getElem_toArray, List.getElem_cons_zero, List.getElem_cons_succ, List.setIfInBounds_toArray, List.set_cons_zero, List.set_cons_succ]
     refine Upto.takeY (i := 2) (v := ?_) rfl (by kernel_rfl) (by kernel_rfl) (by kernel_rfl) (by kernel_rfl) (fun _ _ _ h => h) (Or.inl ⟨by rfl, ?_⟩) (fun _ => HSS.out) ?_
     rotate_left
     ·intro w _; go_simp; with_reducible rfl
     try simp only [Act.put, List.getElem_toArray, List.getElem_cons_zero, List.getElem_cons_succ, List.setIfInBounds_toArray, List.set_cons_zero, List.set_cons_succ]
     refine Upto.take (i := 3) (v := ?_) rfl (by kernel_rfl) (by kernel_rfl) (by kernel_rfl) (by kernel_rfl) (fun _ _ _ h => h) (Or.inl ⟨by rfl, ?_⟩) HSS.out ?_
     rotate_left
     ·intro w' hS; have q0 := conv_rd hS.2; go_simp; with_reducible rfl
     try simp only [Act.put, List.getElem_toArray, List.getElem_cons_zero, List.getElem_cons_succ, List.setIfInBounds_toArray, List.set_cons_zero, List.set_cons_succ]
     refine Upto.takeY (i := 4) (v := ?_) rfl (by kernel_rfl) (by kernel_rfl) (by kernel_rfl) (by kernel_rfl) (fun _ _ _ h => h) (Or.inl ⟨by rfl, ?_⟩) (fun _ => HSS.out) ?_
     rotate_left
     ·intro w _; go_simp; with_reducible rfl
     try simp only [Act.put, List.getElem_toArray, List.getElem_cons_zero, List.getElem_cons_succ, List.setIfInBounds_toArray, List.set_cons_zero, List.set_cons_succ]
     refine Upto.one (i := 5) (by kernel_rfl) rfl (by rfl) (fun K hK => ?_)
     go_simp
     refine CO.mono ?_
     rintro e w8 ⟨rfl, hd, hg⟩
     exact ⟨rfl, post_bad HPX.out (HWd.out.rst.fails ⟨rfl, hd, hg⟩)⟩
    ·have CO := oid_ok i r yy w0 w2.drew HWd.out.rst.at_ (by omega)
     have HTX := Lib.hid (id_take HDB.out (show 32 ≤ yy.length by omega))
     have HFX : Hid (entsOf (es ++ [⟨textOf nm, yy.take 32⟩]) (yy.drop 32) = entsOf [] ys ∧ (∀ e ∈ es ++ [⟨textOf nm, yy.take 32⟩], Id32 e.id ∧ e.name.size ≤ 300) ∧ Oc.bytes (yy.drop 32) ∧ (es ++ [(⟨textOf nm, yy.take 32⟩ : Ent)]).length + (yy.drop 32).length ≤ 300) := Lib.hid ⟨by rw [← HF.out.1, entsOf_next (by have := HDL.out; omega), HEN.out, HDR.out], fun e he => by
      rcases List.mem_append.1 he with he | he
      ·exact HF.out.2.1 e he
      ·rw [List.mem_singleton.1 he]; exact ⟨HTX.out, by show (textOf nm).size ≤ 300; rw [textOf_size, HML.out]; omega⟩, Oc.bytes_drop HDB.out 32, by have := HYL.out; have := HDL.out; rw [List.length_append, List.length_singleton, List.length_drop]; omega⟩
     have HLX : Hid ((yy.drop 32).length < (m :: yt).length) := Lib.hid (by have := HDL.out; rw [List.length_drop, List.length_cons]; omega)
     clear hs2 hs1 HF HEN HDR HDL HDB
     generalize yy.take 32 = id at CO HTX HFX
     generalize yy.drop 32 = zz at CO HFX HLX
     obtain ⟨ie, hie, hez, hes, heb⟩ := info_parts oent_info
     have HIE := Lib.hid (And.intro hie (And.intro hez (And.intro hes heb)))
     clear hie hez hes heb
     obtain ⟨en, hen⟩ : ∃ en : Ent, en = ⟨textOf nm, id⟩ := ⟨_, rfl⟩
     rw [← hen] at HFX
     have HID : Hid (Id32 en.id) := Lib.hid (by rw [hen]; exact HTX.out)
     have HEB := Lib.hid (oent_built en HID.out)
     have HEN : Hid (en.name = textOf nm ∧ en.id = id) := Lib.hid (by rw [hen]; exact ⟨rfl, rfl⟩)
     rw [HEN.out.1, HEN.out.2] at HEB
     clear hen
     go_wp2_with fail
     refine wp_region_upto (S := (fun w' => w'.cell? ⟨g, 2, none⟩ = some v ∧ Rd w' (.slice T m tc) nm)) (b := 10) (by kernel_rfl) ?_
     change Upto _ _ _ _ _ _ _ _ _ w2.drew
     refine Upto.takeY (i := 0) (v := ?_) rfl (by kernel_rfl) (by kernel_rfl) (by kernel_rfl) (by kernel_rfl) (fun _ _ _ h => h) (Or.inl ⟨by rfl, ?_⟩) (fun _ => HSS.out) ?_
     rotate_left
     ·intro w _; go_simp; with_reducible rfl
     try simp only [Act.put, List.getElem_toArray, List.getElem_cons_zero, List.setIfInBounds_toArray, List.set_cons_zero, List.set_cons_succ]
     refine Upto.take (i := 1) (v := ?_) rfl (by kernel_rfl) (by kernel_rfl) (by kernel_rfl) (by kernel_rfl) (fun _ _ _ h => h) (Or.inl ⟨by rfl, ?_⟩) HSS.out ?_
     rotate_left
     ·intro w' hS; have q0 := hS.1; go_simp; with_reducible rfl
     try simp only [Act.put, List.getElem_toArray, List.getElem_cons_zero, List.getElem_cons_succ, List.setIfInBounds_toArray, List.set_cons_zero, List.set_cons_succ]
     refine Upto.takeY (i := 2) (v := ?_) rfl (by kernel_rfl) (by kernel_rfl) (by kernel_rfl) (by kernel_rfl) (fun _ _ _ h => h) (Or.inl ⟨by rfl, ?_⟩) (fun _ => HSS.out) ?_
     rotate_left
     ·intro w _; go_simp; with_reducible rfl
     try simp only [Act.put, List.getElem_toArray, List.getElem_cons_zero, List.getElem_cons_succ, List.setIfInBounds_toArray, List.set_cons_zero, List.set_cons_succ]
     refine Upto.take (i := 3) (v := ?_) rfl (by kernel_rfl) (by kernel_rfl) (by kernel_rfl) (by kernel_rfl) (fun _ _ _ h => h) (Or.inl ⟨by rfl, ?_⟩) HSS.out ?_
     rotate_left
     ·intro w' hS; have q0 := conv_rd hS.2; go_simp; with_reducible rfl
     try simp only [Act.put, List.getElem_toArray, List.getElem_cons_zero, List.getElem_cons_succ, List.setIfInBounds_toArray, List.set_cons_zero, List.set_cons_succ]
     refine Upto.takeY (i := 4) (v := ?_) rfl (by kernel_rfl) (by kernel_rfl) (by kernel_rfl) (by kernel_rfl) (fun _ _ _ h => h) (Or.inl ⟨by rfl, ?_⟩) (fun _ => HSS.out) ?_
     rotate_left
     ·intro w _; go_simp; with_reducible rfl
     try simp only [Act.put, List.getElem_toArray, List.getElem_cons_zero, List.getElem_cons_succ, List.setIfInBounds_toArray, List.set_cons_zero, List.set_cons_succ]
     refine Upto.one (i := 5) (by kernel_rfl) rfl (by rfl) (fun K hK => ?_)
     go_simp
     refine CO.mono ?_
     rintro e w8 ⟨rfl, hi, hg⟩
     have HW8 := Lib.hid (HWd.out.read hg hi)
     have HN8 := Lib.hid (HNM.out.kept hg (own_far HNM.out HRB.out))
     have HS8 := Lib.hid (And.intro HW8.out.cell (show Rd w8 (.slice T m tc) nm from rd_own (m := N) (by rw [HML.out]; exact HN8.out)))
     dsimp only
     refine hK _ _ (fun _ _ => HS8.out) ?_; clear hK K CO hi hg
     try simp only [Act.put, List.getElem_toArray, List.getElem_cons_zero, List.getElem_cons_succ, List.setIfInBounds_toArray, List.set_cons_zero, List.set_cons_succ]
     refine Upto.one (i := 6) (by kernel_rfl) rfl (by rfl) (fun K hK => ?_)
     refine wp_buildK 245 _ (by rfl) [(0, .string (textOf nm)), (1, .agg (cellsB id).toArray)] (by go_simp; rfl) (cellsE1 en).toArray HEB.out ?_
     refine hK _ _ (fun _ _ => HS8.out) ?_; clear hK K
     try simp only [Act.put, List.getElem_toArray, List.getElem_cons_zero, List.getElem_cons_succ, List.setIfInBounds_toArray, List.set_cons_zero, List.set_cons_succ]
     refine Upto.one (i := 7) (by kernel_rfl) rfl (by rfl) (fun K hK => ?_)
     refine wp_buildSliceK 181 245 1 _ (by rfl) (cellsE1 en).toArray ie (.agg (cellsE1 ⟨⟨#[]⟩, List.replicate 32 0⟩).toArray) Tryz.underlying181 HIE.out.1 HIE.out.2.1 (by rw [HIE.out.2.2.1]; decide) (by rw [HIE.out.2.2.1]; decide) [(0, .agg (cellsE1 en).toArray)] (by go_simp) (by rw [HIE.out.2.2.1]; exact fill_one 33 _ (cellsE1 en) (cellsE1_len HID.out) (by kernel_rfl)) ?_
     have hbb : Below w8.heap.size w8 (w8.alloc (.cells (cellsE1 en).toArray 245)) := (Below.refl _ _).alloc (Nat.le_refl _) _
     have HW9 := Lib.hid (HW8.out.below hbb)
     have HN9 := Lib.hid (Blk.new w8 245 (cellsE1 en).toArray)
     have HM9 := Lib.hid (own_kpt HN8.out (Kpt.of_below hbb))
     have HS9 := Lib.hid (And.intro HW9.out.cell (show Rd _ (.slice T m tc) nm from rd_own (m := N) (by rw [HML.out]; exact HM9.out)))
     clear hbb
     refine hK _ _ (fun _ _ => HS9.out) ?_; clear hK K HS8 HN8
     generalize w8.alloc (.cells (cellsE1 en).toArray 245) = w9 at HW9 HN9 HS9 HM9 ⊢
     generalize w8.heap.size = gx at HN9 ⊢
     try simp only [Act.put, List.getElem_toArray, List.getElem_cons_zero, List.getElem_cons_succ, List.setIfInBounds_toArray, List.set_cons_zero, List.set_cons_succ]
     refine Upto.one (i := 8) (by kernel_rfl) rfl (by rfl) (fun K hK => ?_)
     refine wp_append_own (w := w9) (.tmp 33) (.tmp 39) 181 rfl (g + 1) 245 ie (.agg (cellsE1 ⟨⟨#[]⟩, List.replicate 32 0⟩).toArray) 33 48 Tryz.underlying181 HIE.out.1 HIE.out.2.1 HIE.out.2.2.1 HIE.out.2.2.2 (by rfl) (by decide) v es.length (cellsE es) rfl HW9.out.row ⟨gx, 0, none⟩ 1 1 (cellsE1 en) rfl (by rw [cellsE1_len HID.out]) (fun j u hj => by rw [Addr.add_mid, Nat.zero_add]; exact (HN9.out.cell j).trans (by rw [List.getElem?_toArray]; exact hj)) (cellsE1_one en) (by have := HYL.out; unfold maxLen; omega) (by have := HYL.out; omega) HW9.out.rst.ob.lt ?_
     intro v2 w10 ho hg _
     obtain ⟨P2, c2, rfl⟩ := own_slice ho
     have HW10 : Hid (TrW w0 w w10 i r g v (.slice P2 (es.length + 1) c2) (es ++ [en]) (es ++ [en]).length zz) := Lib.hid (HW9.out.app (by rw [cellsE_add, List.length_append, List.length_singleton]; exact ho) hg)
     have HM10 := HM9.out.kept hg (by
      rcases hvb : (Value.slice T m tc).ownBlock with _ | b
      ·exact Or.inl rfl
      ·exact Or.inr fun e => by
        have h1 := HVB.out b e.symm
        have h2 := (HM9.out.lt b hvb).1
        omega)
     have HS10 := Lib.hid (And.intro HW10.out.cell (show Rd _ (.slice T m tc) nm from rd_own (m := N) (by rw [HML.out]; exact HM10)))
     clear HM10
     clear ho hg
     refine hK _ _ (fun _ _ => HS10.out) ?_; clear hK K
     try simp only [Act.put, List.getElem_toArray, List.getElem_cons_zero, List.getElem_cons_succ, List.setIfInBounds_toArray, List.set_cons_zero, List.set_cons_succ]
     refine Upto.takeY (i := 9) (v := ?_) rfl (by kernel_rfl) (by kernel_rfl) (by kernel_rfl) (by kernel_rfl) (fun _ _ _ h => h) (Or.inl ⟨by rfl, ?_⟩) (fun _ => HS10.out) ?_
     rotate_left
     ·intro w _; go_simp; with_reducible rfl
     try simp only [Act.put, List.getElem_toArray, List.getElem_cons_zero, List.getElem_cons_succ, List.setIfInBounds_toArray, List.set_cons_zero, List.set_cons_succ]
     have q8 : w10.cell? ⟨g, 2, none⟩ = some v := HW10.out.cell
     have z8 : w10.frozen? ⟨g, 2, none⟩ = false := HW10.out.rst.ob.frozen 2
     have HW11 := Lib.hid (HW10.out.put (.slice P2 (es.length + 1) c2))
     refine Upto.one (i := 10) (by kernel_rfl) rfl (by rfl) (fun K hK => ?_)
     go_simp
     refine hK _ _ (fun h _ => absurd rfl h) ?_; clear hK K q8 z8
     generalize w10.setCell ⟨g, 2, none⟩ (.slice P2 (es.length + 1) c2) = w11 at HW11 ⊢
     try simp only [Act.put, List.getElem_toArray, List.getElem_cons_zero, List.getElem_cons_succ, List.setIfInBounds_toArray, List.set_cons_zero, List.set_cons_succ]
     refine Upto.done (by kernel_rfl) ?_ _
     go_wp2
     go_roundw
     case rel => exact ⟨(.slice P2 (es.length + 1) c2), es ++ [en], zz, HW11, HFX⟩
     case measure => rw [HW11.out.rst.at_.left, HLW.out]; exact HLX.out
end Go.Proofs.YtgcgomdhdgjpdaaGreatDoor
