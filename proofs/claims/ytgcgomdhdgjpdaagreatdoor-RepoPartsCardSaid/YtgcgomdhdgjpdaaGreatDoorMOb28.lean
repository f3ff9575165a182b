/- object.read: commits. -/
import Derived.Test.YtgcgomdhdgjpdaaGreatDoorMOb27
import Derived.Test.YtgcgomdhdgjpdaaGreatDoorMUpto
namespace Go.Proofs.YtgcgomdhdgjpdaaGreatDoor
open Go Go.RowKit
theorem wp_buildSliceK {P : Program} {o : Oper} {a : Act} {w : World} {K : Act → World → Prop} {Q : Exit → Act → World → Prop} (t e : TypeId) (len : Nat) (parts : Array (Nat × Operand)) (ho : o.op = .buildSlice t len parts)
  (cells : Array Value) (ie : TypeInfo) (z : Value) (hu : P.underlying t = some (.slice e)) (hie : P.info? e = some ie) (hz : ie.zero = some z) (hsmall : ¬ len * ie.size > 2 ^ 24) (hpos : ¬ len * ie.size = 0)
  (vals : List (Nat × Value)) (hv : (parts.map fun (i, x) => (i, a.eval x)).toList = vals)
  (hf : Instr.fill (fun i => some (i * ie.size, ie.size)) ((Array.range (len * ie.size)).map (z.cells[· % z.cells.size]!)) vals = some cells)
  (h : K (a.put o.dst (.slice (some ⟨w.heap.size, 0, none⟩) len len)) (w.alloc (.cells cells e))) : o.wp P a w K Q :=
 wp_buildSlice t e len parts ho cells ie z hu hie hz hsmall hpos (by rw [hv]; exact hf) h
theorem parsGo_end (n : Nat) (ps : List (List Nat)) (zs : List Nat) (h : ps.length = n) : parsGo (n - ps.length) ps zs = some (ps, zs) := by
 rw [show n - ps.length = 0 by omega]; rfl
theorem parsGo_short {n : Nat} {ps : List (List Nat)} {zs : List Nat} (h : ps.length < n) (h2 : zs.length < 32) : parsGo (n - ps.length) ps zs = none := by
 obtain ⟨m, hm⟩ : ∃ m, n - ps.length = m + 1 := ⟨n - ps.length - 1, by omega⟩
 rw [hm, parsGo, if_pos h2]
theorem parsGo_next {n : Nat} {ps : List (List Nat)} {zs : List Nat} (h : ps.length < n) (h2 : 32 ≤ zs.length) : parsGo (n - ps.length) ps zs = parsGo (n - (ps ++ [zs.take 32]).length) (ps ++ [zs.take 32]) (zs.drop 32) := by
 obtain ⟨m, hm⟩ : ∃ m, n - ps.length = m + 1 := ⟨n - ps.length - 1, by omega⟩
 rw [hm, parsGo, if_neg (by omega), show n - (ps ++ [zs.take 32]).length = m by rw [List.length_append, List.length_singleton]; omega]
noncomputable def cmPrs (tg : List Nat) (q : Option (List (List Nat) × List Nat)) : Prs := match q with | none => .bad 2 | some q => Prs.fin ⟨3, q.2, [], tg, q.1⟩
theorem cm_parse (ys : List Nat) (h : 33 ≤ ys.length) : Ob.parse (99 :: ys) = cmPrs (ys.take 32) (parsGo (ys.getD 32 0) [] (ys.drop 33)) := by
 show (if ys.length < 33 then Prs.bad 2 else match parsGo (ys.getD 32 0) [] (ys.drop 33) with | none => Prs.bad 2 | some q => Prs.fin ⟨3, q.2, [], ys.take 32, q.1⟩) = _
 rw [if_neg (by omega)]
 rfl
theorem cm_bad (ys : List Nat) (h : ys.length < 33) : Ob.parse (99 :: ys) = .bad 2 :=
 (show (if ys.length < 33 then Prs.bad 2 else match parsGo (ys.getD 32 0) [] (ys.drop 33) with | none => Prs.bad 2 | some q => Prs.fin ⟨3, q.2, [], ys.take 32, q.1⟩) = _ from if_pos h)
structure CmW (w0 w wr : World) (i r g : Nat) (tg : List Nat) (u v : Value) (ps : List (List Nat)) (n : Nat) (zs : List Nat) : Prop where
 rst : Rst w0 w wr i r g (cellsOb 3 nilV nilV u tg).toArray zs
 row : wr.ownsRow (g + 1) 41 32 v n (cellsP ps)
section
variable {w0 w wr w' : World} {i r g n : Nat} {tg zs us : List Nat} {u v : Value} {ps qs : List (List Nat)}
theorem CmW.below (h : CmW w0 w wr i r g tg u v ps n zs) (hb : Below wr.heap.size wr w') : CmW w0 w w' i r g tg u v ps n zs :=
 ⟨h.rst.below hb, own_kpt h.row (Kpt.of_below hb)⟩
theorem CmW.read (h : CmW w0 w wr i r g tg u v ps n zs) (hg : wr.grownBy w' (some r)) (hi : InAt w0 w' i r us) : CmW w0 w w' i r g tg u v ps n us :=
 ⟨h.rst.read hg hi, h.row.kept hg (own_far h.row (by have := h.rst.gt; have := h.rst.old.1; omega))⟩
theorem CmW.app (h : CmW w0 w wr i r g tg u v ps n zs) {v2 : Value} {m : Nat} (ho : w'.ownsRow (g + 1) 41 32 v2 m (cellsP qs)) (hg : wr.grownBy w' v.ownBlock) : CmW w0 w w' i r g tg u v2 qs m zs :=
 ⟨h.rst.own h.row (Nat.lt_succ_self g) hg, ho⟩
theorem CmW.put (h : CmW w0 w wr i r g tg u v ps n zs) (ht : tg.length = 32) (x : Value) : CmW w0 w (wr.setCell ⟨g, 35, none⟩ x) i r g tg x v ps n zs :=
 ⟨h.rst.put (grown_cell _ _ _ _) (by have := h.rst.ob.set_ 35 x; rwa [cellsOb_k35 _ _ _ _ _ _ ht] at this), h.row.kept (grown_cell _ _ _ _) (own_far h.row (Nat.lt_succ_self g))⟩
theorem CmW.cell (h : CmW w0 w wr i r g tg u v ps n zs) (ht : tg.length = 32) : wr.cell? ⟨g, 35, none⟩ = some u := (h.rst.ob.cell 35).trans (cellsOb_get35 _ _ _ _ _ ht)
theorem CmW.text (h : CmW w0 w wr i r g tg u v ps n zs) (x : Value) : CmW w0 w wr i r g tg u v ps n zs ∧ Rst w0 w (wr.setCell ⟨g, 1, none⟩ x) i r g (cellsOb 3 x nilV u tg).toArray zs ∧ (wr.setCell ⟨g, 1, none⟩ x).ownsRow (g + 1) 41 32 v n (cellsP ps) :=
 ⟨h, h.rst.put (grown_cell _ _ _ _) (by have := h.rst.ob.set_ 1 x; rwa [cellsOb_k1] at this), h.row.kept (grown_cell _ _ _ _) (own_far h.row (Nat.lt_succ_self g))⟩
end
set_option maxRecDepth 100000 in
set_option maxHeartbeats 2000000 in
theorem oread_commit0 (i r : Nat) (ys : List Nat) (a : Nat → Addr) (w0 w : World) (h : InAt w0 w i r (99 :: ys)) (hb : Oc.bytes (99 :: ys)) (hz : (99 :: ys).length ≤ 300) (hS : PSents w0 a) (hs : ys.length < 32) :
  Calls Tryz.prog 136 #[.pointer (some ⟨i, 0, none⟩)] w fun e w' => ReadPost (99 :: ys) a w0 w i r e w' := by
 have CI : ∀ w, Calls Tryz.prog 137 #[.string kindS, .int .u8 99] w _ := fun w => kind_at 99 2 (by decide +kernel) w
 have HSH := Lib.hid hs
 clear hs
 have CN := ibyte_ok i r 99 ys w0 (w.alloc (.cells zOc 183)) (h.below ((Below.refl _ _).alloc (Nat.le_refl _) _)) hb
 have HB := Lib.hid hb
 have HZ := Lib.hid hz
 have HS := Lib.hid hS
 have HIN := Lib.hid h
 clear h hb hz hS
 go_enter Tryz.func136, Tryz.ntmps136
 go_wp2_with (go_at_call 161; refine pause ?_)
 unfold Paused
 change Calls _ _ _ (w.alloc (.cells zOc 183)) _
 refine CN.mono ?_
 rintro e w3 ⟨rfl, hi, hg⟩
 have HI3 := Lib.hid hi
 have HG3 := Lib.hid hg
 clear hi hg CN
 go_wp2_with (first
  | (go_at_call 137; refine (CI _).mono ?_; rintro e w' ⟨rfl, rfl⟩)
  | (with_reducible (show wpList _ _ _ (Oper.mk _ (Op.build _ _) _ _ _ _ :: _) _ _); refine pause ?_))
 unfold Paused
 refine wpList_buildK (by rfl) 183 _ (by rfl) _ (by kernel_rfl) _ (obj_built 3) ?_
 go_wp2_with (with_reducible (show wpList _ _ _ (Oper.mk _ (Op.store 183 _ _) _ _ _ _ :: _) _ _); refine pause ?_)
 unfold Paused
 change wpList _ _ _ _ _ (w3.alloc (.cells zOc 183))
 refine wpList_store_row (by rfl) 183 (.tmp 3) (.tmp 10) (by rfl) w3.heap.size (cellsOb 3 nilV nilV nilV zid).toArray (by rfl) (by rfl) 183 zOc (Blk.new w3 _ _) (by kernel_rfl) (by kernel_rfl) (by kernel_rfl) ?_
 have HRS := Lib.hid (Rst.start HIN.out HG3.out HI3.out (cs := (cellsOb 3 nilV nilV nilV zid).toArray) rfl)
 generalize World.setRow _ w3.heap.size (cellsOb 3 nilV nilV nilV zid).toArray = w4 at HRS ⊢
 generalize w3.heap.size = g at HRS ⊢
 have a0 : w4.cell? ⟨g, 0, none⟩ = some (.int .i64 3) := HRS.out.ob.cell 0
 clear CI
 have HPR := Lib.hid (cm_bad ys (by have := HSH.out; omega))
 have pS := (HS.out.at_ HRS.out.at_.bel.1).1
 have CO := oid_short i r (a 1) ys w0 w4 HRS.out.at_ HSH.out pS
 go_wp2_with (go_at_call 164; refine CO.mono ?_; rintro e w9 ⟨rfl, hd, hg⟩)
 exact ⟨rfl, post_bad HPR.out (HRS.out.fails ⟨rfl, hd, hg⟩)⟩
set_option maxRecDepth 100000 in
set_option maxHeartbeats 2000000 in
theorem oread_commit1 (i r : Nat) (ys : List Nat) (a : Nat → Addr) (w0 w : World) (h : InAt w0 w i r (99 :: ys)) (hb : Oc.bytes (99 :: ys)) (hz : (99 :: ys).length ≤ 300) (hS : PSents w0 a) (hs : ys.length = 32) :
  Calls Tryz.prog 136 #[.pointer (some ⟨i, 0, none⟩)] w fun e w' => ReadPost (99 :: ys) a w0 w i r e w' := by
 have CI : ∀ w, Calls Tryz.prog 137 #[.string kindS, .int .u8 99] w _ := fun w => kind_at 99 2 (by decide +kernel) w
 have HSH := Lib.hid hs
 clear hs
 have CN := ibyte_ok i r 99 ys w0 (w.alloc (.cells zOc 183)) (h.below ((Below.refl _ _).alloc (Nat.le_refl _) _)) hb
 have HB := Lib.hid hb
 have HZ := Lib.hid hz
 have HS := Lib.hid hS
 have HIN := Lib.hid h
 clear h hb hz hS
 go_enter Tryz.func136, Tryz.ntmps136
 go_wp2_with (go_at_call 161; refine pause ?_)
 unfold Paused
 change Calls _ _ _ (w.alloc (.cells zOc 183)) _
 refine CN.mono ?_
 rintro e w3 ⟨rfl, hi, hg⟩
 have HI3 := Lib.hid hi
 have HG3 := Lib.hid hg
 clear hi hg CN
 go_wp2_with (first
  | (go_at_call 137; refine (CI _).mono ?_; rintro e w' ⟨rfl, rfl⟩)
  | (with_reducible (show wpList _ _ _ (Oper.mk _ (Op.build _ _) _ _ _ _ :: _) _ _); refine pause ?_))
 unfold Paused
 refine wpList_buildK (by rfl) 183 _ (by rfl) _ (by kernel_rfl) _ (obj_built 3) ?_
 go_wp2_with (with_reducible (show wpList _ _ _ (Oper.mk _ (Op.store 183 _ _) _ _ _ _ :: _) _ _); refine pause ?_)
 unfold Paused
 change wpList _ _ _ _ _ (w3.alloc (.cells zOc 183))
 refine wpList_store_row (by rfl) 183 (.tmp 3) (.tmp 10) (by rfl) w3.heap.size (cellsOb 3 nilV nilV nilV zid).toArray (by rfl) (by rfl) 183 zOc (Blk.new w3 _ _) (by kernel_rfl) (by kernel_rfl) (by kernel_rfl) ?_
 have HRS := Lib.hid (Rst.start HIN.out HG3.out HI3.out (cs := (cellsOb 3 nilV nilV nilV zid).toArray) rfl)
 generalize World.setRow _ w3.heap.size (cellsOb 3 nilV nilV nilV zid).toArray = w4 at HRS ⊢
 generalize w3.heap.size = g at HRS ⊢
 have a0 : w4.cell? ⟨g, 0, none⟩ = some (.int .i64 3) := HRS.out.ob.cell 0
 clear CI
 have HYB := Lib.hid (bytes_tail HB.out)
 have HPR := Lib.hid (cm_bad ys (by have := HSH.out; omega))
 have HTI := Lib.hid (id_take HYB.out (by have := HSH.out; omega))
 have CO := oid_ok i r ys w0 w4 HRS.out.at_ (by have := HSH.out; omega)
 have hd : ys.drop 32 = [] := List.drop_of_length_le (by have := HSH.out; omega)
 rw [hd] at CO
 clear hd
 generalize ys.take 32 = tg at HTI CO
 go_wp2_with (go_at_call 164; refine pause ?_)
 unfold Paused
 refine CO.mono ?_
 rintro e w5 ⟨rfl, hi, hg⟩
 have HR5 := Lib.hid (HRS.out.read hg hi)
 clear hi hg CO
 go_wp2_with (with_reducible (show wpList _ _ _ (Oper.mk _ (Op.store 41 _ _) _ _ _ _ :: _) _ _); refine pause ?_)
 unfold Paused
 refine wpList_store_mid (by rfl) 41 (.tmp 46) (.tmp 45) (by rfl) g 3 (u8s tg) (by rfl) (by rfl) (there_of HR5.out.ob (by rw [cellsOb_size _ _ _ _ _ zid_id.1, u8s_size, HTI.out.1]; omega)) (by rw [u8s_size, HTI.out.1]; exact oid_size) (u8s_one _) ?_
 have HR6 : Hid (Rst w0 w (w5.setCells g 3 (u8s tg).toList) i r g (cellsOb 3 nilV nilV nilV tg).toArray ([])) := Lib.hid (HR5.out.put (grown_cells g _ 3 w5 w5 (World.grownBy.refl _ _)) (blk_cells (t := 183) [nilV] (u8s tg).toList (cellsB zid) [.int .i64 3, nilV, nilV] 3 w5 (by rw [cellsB_len, zid_id.1, Array.length_toList, u8s_size, HTI.out.1]) rfl HR5.out.ob))
 generalize w5.setCells g 3 (u8s tg).toList = w6 at HR6 ⊢
 have pS := HS.out.1
 have CN := ibyte_short i r (a 1) w0 w6 HR6.out.at_ pS
 go_wp2_with (go_at_call 161; refine CN.mono ?_; rintro e w9 ⟨rfl, hd, hg⟩)
 exact ⟨rfl, post_bad HPR.out (HR6.out.fails ⟨rfl, hd, hg⟩)⟩
set_option maxRecDepth 100000 in
set_option maxHeartbeats 2000000 in
theorem oread_commit (i r : Nat) (ys : List Nat) (a : Nat → Addr) (w0 w : World) (h : InAt w0 w i r (99 :: ys)) (hb : Oc.bytes (99 :: ys)) (hz : (99 :: ys).length ≤ 300) (hS : PSents w0 a) (hs : 33 ≤ ys.length) :
  Calls Tryz.prog 136 #[.pointer (some ⟨i, 0, none⟩)] w fun e w' => ReadPost (99 :: ys) a w0 w i r e w' := by
 have CI : ∀ w, Calls Tryz.prog 137 #[.string kindS, .int .u8 99] w _ := fun w => kind_at 99 2 (by decide +kernel) w
 have HSH := Lib.hid hs
 clear hs
 have CN := ibyte_ok i r 99 ys w0 (w.alloc (.cells zOc 183)) (h.below ((Below.refl _ _).alloc (Nat.le_refl _) _)) hb
 have HB := Lib.hid hb
 have HZ := Lib.hid hz
 have HS := Lib.hid hS
 have HIN := Lib.hid h
 clear h hb hz hS
 go_enter Tryz.func136, Tryz.ntmps136
 go_wp2_with (go_at_call 161; refine pause ?_)
 unfold Paused
 change Calls _ _ _ (w.alloc (.cells zOc 183)) _
 refine CN.mono ?_
 rintro e w3 ⟨rfl, hi, hg⟩
 have HI3 := Lib.hid hi
 have HG3 := Lib.hid hg
 clear hi hg CN
 go_wp2_with (first
  | (go_at_call 137; refine (CI _).mono ?_; rintro e w' ⟨rfl, rfl⟩)
  | (with_reducible (show wpList _ _ _ (Oper.mk _ (Op.build _ _) _ _ _ _ :: _) _ _); refine pause ?_))
 unfold Paused
 refine wpList_buildK (by rfl) 183 _ (by rfl) _ (by kernel_rfl) _ (obj_built 3) ?_
 go_wp2_with (with_reducible (show wpList _ _ _ (Oper.mk _ (Op.store 183 _ _) _ _ _ _ :: _) _ _); refine pause ?_)
 unfold Paused
 change wpList _ _ _ _ _ (w3.alloc (.cells zOc 183))
 refine wpList_store_row (by rfl) 183 (.tmp 3) (.tmp 10) (by rfl) w3.heap.size (cellsOb 3 nilV nilV nilV zid).toArray (by rfl) (by rfl) 183 zOc (Blk.new w3 _ _) (by kernel_rfl) (by kernel_rfl) (by kernel_rfl) ?_
 have HRS := Lib.hid (Rst.start HIN.out HG3.out HI3.out (cs := (cellsOb 3 nilV nilV nilV zid).toArray) rfl)
 generalize World.setRow _ w3.heap.size (cellsOb 3 nilV nilV nilV zid).toArray = w4 at HRS ⊢
 generalize w3.heap.size = g at HRS ⊢
 have a0 : w4.cell? ⟨g, 0, none⟩ = some (.int .i64 3) := HRS.out.ob.cell 0
 clear CI
 have HYB := Lib.hid (bytes_tail HB.out)
 have HPR := Lib.hid (cm_parse ys HSH.out)
 have HTI := Lib.hid (id_take HYB.out (by have := HSH.out; omega))
 have CO := oid_ok i r ys w0 w4 HRS.out.at_ (by have := HSH.out; omega)
 have hd : ys.drop 32 = ys.getD 32 0 :: ys.drop 33 := drop_at (k := 32) (by have := HSH.out; omega)
 rw [hd] at CO
 have HDB := Lib.hid (show Oc.bytes (ys.getD 32 0 :: ys.drop 33) from by rw [← hd]; exact Oc.bytes_drop HYB.out 32)
 have HYL : Hid ((ys.drop 33).length ≤ 300) := Lib.hid (by have := HZ.out; rw [List.length_drop]; simp only [List.length_cons] at this; omega)
 clear hd
 generalize ys.take 32 = tg at HPR HTI CO
 generalize ys.getD 32 0 = n at HPR CO HDB
 generalize ys.drop 33 = us at HPR HDB HYL CO
 go_wp2_with (go_at_call 164; refine pause ?_)
 unfold Paused
 refine CO.mono ?_
 rintro e w5 ⟨rfl, hi, hg⟩
 have HR5 := Lib.hid (HRS.out.read hg hi)
 clear hi hg CO
 go_wp2_with (with_reducible (show wpList _ _ _ (Oper.mk _ (Op.store 41 _ _) _ _ _ _ :: _) _ _); refine pause ?_)
 unfold Paused
 refine wpList_store_mid (by rfl) 41 (.tmp 46) (.tmp 45) (by rfl) g 3 (u8s tg) (by rfl) (by rfl) (there_of HR5.out.ob (by rw [cellsOb_size _ _ _ _ _ zid_id.1, u8s_size, HTI.out.1]; omega)) (by rw [u8s_size, HTI.out.1]; exact oid_size) (u8s_one _) ?_
 have HR6 : Hid (Rst w0 w (w5.setCells g 3 (u8s tg).toList) i r g (cellsOb 3 nilV nilV nilV tg).toArray (n :: us)) := Lib.hid (HR5.out.put (grown_cells g _ 3 w5 w5 (World.grownBy.refl _ _)) (blk_cells (t := 183) [nilV] (u8s tg).toList (cellsB zid) [.int .i64 3, nilV, nilV] 3 w5 (by rw [cellsB_len, zid_id.1, Array.length_toList, u8s_size, HTI.out.1]) rfl HR5.out.ob))
 generalize w5.setCells g 3 (u8s tg).toList = w6 at HR6 ⊢
 have CN := ibyte_ok i r n us w0 w6 HR6.out.at_ HDB.out
 have hn : n < 256 := HDB.out n (List.mem_cons_self ..)
 go_wp2_with (go_at_call 161; refine CN.mono ?_; rintro e w7 ⟨rfl, hi, hg⟩; have HR7 := Lib.hid (HR6.out.read hg hi); clear hi hg)
 have HW7 : Hid (CmW w0 w w7 i r g tg nilV nilV [] 0 us) := Lib.hid ⟨HR7.out, World.ownsRow_nil _ _ _ _⟩
 have HF7 : Hid (parsGo (n - ([] : List (List Nat)).length) [] us = parsGo n [] us ∧ (∀ p ∈ ([] : List (List Nat)), Id32 p) ∧ Oc.bytes us ∧ us.length ≤ 300) := Lib.hid ⟨rfl, fun _ h => (by cases h), bytes_tail HDB.out, HYL.out⟩
 clear CN
 go_loopw [49] (fun j wr => ∃ (v : Value) (ps : List (List Nat)) (zs : List Nat), j = .int .i64 (ps.length : Nat) ∧ ps.length ≤ n ∧ Hid (CmW w0 w wr i r g tg v v ps ps.length zs) ∧ Hid (parsGo (n - ps.length) ps zs = parsGo n [] us ∧ (∀ p ∈ ps, Id32 p) ∧ Oc.bytes zs ∧ zs.length ≤ 300)) (fun j _ => n - (intOf j).toNat)
 case atStart => exact ⟨nilV, [], us, rfl, Nat.zero_le _, HW7, HF7⟩
 case round =>
  obtain ⟨v, ps, zs, rfl, hk, HW, HF⟩ := hrel
  by_cases hlt : ps.length < n
  ·have i1 : ((ps.length : Nat) : Int) < (n : Int) := by omega
   have i2 : (0 : Int) ≤ ((ps.length : Nat) : Int) := by omega
   have i3 : ((ps.length : Nat) : Int) < 256 := by omega
   have HWd := Lib.hid (HW.out.below (below_drewN (Below.refl _ wr) 1))
   have HCL := Lib.hid (HWd.out.cell HTI.out.1)
   have HLT := Lib.hid hlt
   by_cases hs2 : zs.length < 32
   ·have pS := (HS.out.at_ HWd.out.rst.at_.bel.1).1
    have CO := oid_short i r (a 1) zs w0 wr.drew HWd.out.rst.at_ hs2 pS
    have HPX := Lib.hid (HPR.out.trans (by rw [← HF.out.1, parsGo_short HLT.out hs2]; rfl : _ = Prs.bad 2))
    clear pS hs2 hlt hk
    go_wp2_with fail
    refine wp_region_upto (S := (fun w' => w'.cell? ⟨g, 35, none⟩ = some v)) (b := 7) (by kernel_rfl) ?_
    change Upto _ _ _ _ _ _ _ _ _ wr.drew
    refine Upto.takeY (i := 0) (v := ?_) rfl (by kernel_rfl) (by kernel_rfl) (by kernel_rfl) (by kernel_rfl) (fun _ _ _ h => h) (Or.inl ⟨by rfl, ?_⟩) (fun _ => HCL.out) ?_
    rotate_left
    ·intro w _; go_simp; with_reducible rfl
    try simp only [Act.put, List.getElem_toArray, List.getElem_cons_zero, List.setIfInBounds_toArray, List.set_cons_zero, List.set_cons_succ]
    refine Upto.take (i := 1) (v := ?_) rfl (by kernel_rfl) (by kernel_rfl) (by kernel_rfl) (by kernel_rfl) (fun _ _ _ h => h) (Or.inl ⟨by rfl, ?_⟩) HCL.out ?_
    rotate_left
    ·intro w' hS; go_simp; with_reducible rfl
    try simp only [Act.put, List.getElem_toArray, List.getElem_cons_zero, List.getElem_cons_succ, List.setIfInBounds_toArray, List.set_cons_zero, List.set_cons_succ]
    refine Upto.takeY (i := 2) (v := ?_) rfl (by kernel_rfl) (by kernel_rfl) (by kernel_rfl) (by kernel_rfl) (fun _ _ _ h => h) (Or.inl ⟨by rfl, ?_⟩) (fun _ => HCL.out) ?_
    rotate_left
    ·intro w _; go_simp; with_reducible rfl
    try simp only [Act.put, List.getElem_toArray, List.getElem_cons_zero, List.getElem_cons_succ, List.setIfInBounds_toArray, List.set_cons_zero, List.set_cons_succ]
    refine Upto.one (i := 3) (by kernel_rfl) rfl (by rfl) (fun K hK => ?_)
    go_simp
    refine CO.mono ?_
    rintro e w8 ⟨rfl, hd, hg⟩
    exact ⟨rfl, post_bad HPX.out (HWd.out.rst.fails ⟨rfl, hd, hg⟩)⟩
   ·have CO := oid_ok i r zs w0 wr.drew HWd.out.rst.at_ (by omega)
    have HTX := Lib.hid (id_take HF.out.2.2.1 (show 32 ≤ zs.length by omega))
    have HFX : Hid (parsGo (n - (ps ++ [zs.take 32]).length) (ps ++ [zs.take 32]) (zs.drop 32) = parsGo n [] us ∧ (∀ p ∈ ps ++ [zs.take 32], Id32 p) ∧ Oc.bytes (zs.drop 32) ∧ (zs.drop 32).length ≤ 300) := Lib.hid ⟨(parsGo_next hlt (by omega)).symm.trans HF.out.1, fun p hp => by
     rcases List.mem_append.1 hp with hp | hp
     ·exact HF.out.2.1 p hp
     ·rw [List.mem_singleton.1 hp]; exact HTX.out, Oc.bytes_drop HF.out.2.2.1 32, by have := HF.out.2.2.2; rw [List.length_drop]; omega⟩
    clear hs2 HF
    generalize zs.take 32 = id at CO HTX HFX
    generalize zs.drop 32 = zz at CO HFX
    obtain ⟨ip, hip, hpz, hps, hpb⟩ := info_parts ioid_info
    have HIP := Lib.hid (And.intro hip (And.intro hpz (And.intro hps hpb)))
    clear hip hpz hps hpb
    go_wp2_with fail
    refine wp_region_upto (S := (fun w' => w'.cell? ⟨g, 35, none⟩ = some v)) (b := 7) (by kernel_rfl) ?_
    change Upto _ _ _ _ _ _ _ _ _ wr.drew
    refine Upto.takeY (i := 0) (v := ?_) rfl (by kernel_rfl) (by kernel_rfl) (by kernel_rfl) (by kernel_rfl) (fun _ _ _ h => h) (Or.inl ⟨by rfl, ?_⟩) (fun _ => HCL.out) ?_
    rotate_left
    ·intro w _; go_simp; with_reducible rfl
    try simp only [Act.put, List.getElem_toArray, List.getElem_cons_zero, List.setIfInBounds_toArray, List.set_cons_zero, List.set_cons_succ]
    refine Upto.take (i := 1) (v := ?_) rfl (by kernel_rfl) (by kernel_rfl) (by kernel_rfl) (by kernel_rfl) (fun _ _ _ h => h) (Or.inl ⟨by rfl, ?_⟩) HCL.out ?_
    rotate_left
    ·intro w' hS; go_simp; with_reducible rfl
    try simp only [Act.put, List.getElem_toArray, List.getElem_cons_zero, List.getElem_cons_succ, List.setIfInBounds_toArray, List.set_cons_zero, List.set_cons_succ]
    refine Upto.takeY (i := 2) (v := ?_) rfl (by kernel_rfl) (by kernel_rfl) (by kernel_rfl) (by kernel_rfl) (fun _ _ _ h => h) (Or.inl ⟨by rfl, ?_⟩) (fun _ => HCL.out) ?_
    rotate_left
    ·intro w _; go_simp; with_reducible rfl
    try simp only [Act.put, List.getElem_toArray, List.getElem_cons_zero, List.getElem_cons_succ, List.setIfInBounds_toArray, List.set_cons_zero, List.set_cons_succ]
    refine Upto.one (i := 3) (by kernel_rfl) rfl (by rfl) (fun K hK => ?_)
    go_simp
    refine CO.mono ?_
    rintro e w8 ⟨rfl, hi, hg⟩
    have HW8 := Lib.hid (HWd.out.read hg hi)
    dsimp only
    refine hK _ _ (fun _ _ => HW8.out.cell HTI.out.1) ?_; clear hK K CO hi hg
    try simp only [Act.put, List.getElem_toArray, List.getElem_cons_zero, List.getElem_cons_succ, List.setIfInBounds_toArray, List.set_cons_zero, List.set_cons_succ]
    refine Upto.one (i := 4) (by kernel_rfl) rfl (by rfl) (fun K hK => ?_)
    refine wp_buildSliceK 106 41 1 _ (by rfl) (cellsB id).toArray ip (.agg (cellsB (List.replicate 32 0)).toArray) Tryz.underlying106 HIP.out.1 HIP.out.2.1 (by rw [HIP.out.2.2.1]; decide) (by rw [HIP.out.2.2.1]; decide) [(0, .agg (cellsB id).toArray)] (by go_simp; rfl) (by rw [HIP.out.2.2.1]; exact fill_one 32 _ (cellsB id) (by rw [cellsB_len, HTX.out.1]) (by kernel_rfl)) ?_
    have hbb : Below w8.heap.size w8 (w8.alloc (.cells (cellsB id).toArray 41)) := (Below.refl _ _).alloc (Nat.le_refl _) _
    have HW9 := Lib.hid (HW8.out.below hbb)
    have HN9 := Lib.hid (Blk.new w8 41 (cellsB id).toArray)
    clear hbb
    refine hK _ _ (fun _ _ => HW9.out.cell HTI.out.1) ?_; clear hK K
    generalize w8.alloc (.cells (cellsB id).toArray 41) = w9 at HW9 HN9 ⊢
    generalize w8.heap.size = gx at HN9 ⊢
    try simp only [Act.put, List.getElem_toArray, List.getElem_cons_zero, List.getElem_cons_succ, List.setIfInBounds_toArray, List.set_cons_zero, List.set_cons_succ]
    refine Upto.one (i := 5) (by kernel_rfl) rfl (by rfl) (fun K hK => ?_)
    refine wp_append_own (w := w9) (.tmp 52) (.tmp 55) 106 rfl (g + 1) 41 ip (.agg (cellsB (List.replicate 32 0)).toArray) 32 32 Tryz.underlying106 HIP.out.1 HIP.out.2.1 HIP.out.2.2.1 HIP.out.2.2.2 (by rfl) (by decide) v ps.length (cellsP ps) rfl HW9.out.row ⟨gx, 0, none⟩ 1 1 (cellsB id) rfl (by rw [cellsB_len, HTX.out.1]) (fun j u hj => by rw [Addr.add_mid, Nat.zero_add]; exact (HN9.out.cell j).trans (by rw [List.getElem?_toArray]; exact hj)) (cellsB_one id) (by unfold maxLen; omega) (by omega) HW9.out.rst.ob.lt ?_
    intro v2 w10 ho hg _
    obtain ⟨P2, c2, rfl⟩ := own_slice ho
    have HW10 : Hid (CmW w0 w w10 i r g tg v (.slice P2 (ps.length + 1) c2) (ps ++ [id]) (ps ++ [id]).length zz) := Lib.hid (HW9.out.app (by rw [cellsP_snoc, List.length_append, List.length_singleton]; exact ho) hg)
    clear ho hg
    refine hK _ _ (fun _ _ => HW10.out.cell HTI.out.1) ?_; clear hK K
    try simp only [Act.put, List.getElem_toArray, List.getElem_cons_zero, List.getElem_cons_succ, List.setIfInBounds_toArray, List.set_cons_zero, List.set_cons_succ]
    refine Upto.takeY (i := 6) (v := ?_) rfl (by kernel_rfl) (by kernel_rfl) (by kernel_rfl) (by kernel_rfl) (fun _ _ _ h => h) (Or.inl ⟨by rfl, ?_⟩) (fun _ => HW10.out.cell HTI.out.1) ?_
    rotate_left
    ·intro w _; go_simp; with_reducible rfl
    try simp only [Act.put, List.getElem_toArray, List.getElem_cons_zero, List.getElem_cons_succ, List.setIfInBounds_toArray, List.set_cons_zero, List.set_cons_succ]
    have q8 : w10.cell? ⟨g, 35, none⟩ = some v := HW10.out.cell HTI.out.1
    have z8 : w10.frozen? ⟨g, 35, none⟩ = false := HW10.out.rst.ob.frozen 35
    have HW11 := Lib.hid (HW10.out.put HTI.out.1 (.slice P2 (ps.length + 1) c2))
    refine Upto.one (i := 7) (by kernel_rfl) rfl (by rfl) (fun K hK => ?_)
    go_simp
    refine hK _ _ (fun h _ => absurd rfl h) ?_; clear hK K q8 z8
    generalize w10.setCell ⟨g, 35, none⟩ (.slice P2 (ps.length + 1) c2) = w11 at HW11 ⊢
    try simp only [Act.put, List.getElem_toArray, List.getElem_cons_zero, List.getElem_cons_succ, List.setIfInBounds_toArray, List.set_cons_zero, List.set_cons_succ]
    refine Upto.done (by kernel_rfl) ?_ _
    go_wp2
    go_roundw
    case rel => exact ⟨_, ps ++ [id], zz, by rw [List.length_append, List.length_singleton]; go_num, by rw [List.length_append, List.length_singleton]; omega, HW11, HFX⟩
    case measure => simp [intOf]; omega
  ·have HEND := Lib.hid (HPR.out.trans (by rw [← HF.out.1, parsGo_end n ps zs (by omega)]; rfl : _ = Prs.fin ⟨3, zs, [], tg, ps⟩))
   have i1 : ¬ (((ps.length : Nat) : Int) < (n : Int)) := by omega
   have HZL : Hid (zs.length ≤ 1000000) := Lib.hid (by have := HF.out.2.2.2; omega)
   have CL := left_any i r zs w0 wr HW.out.rst.at_
   have CX := onext_ok i r zs.length zs w0 wr HW.out.rst.at_ HF.out.2.2.1 (Nat.le_refl _) HZL.out
   rw [List.take_of_length_le (Nat.le_refl _), List.drop_of_length_le (Nat.le_refl _)] at CX
   obtain ⟨P, pc, hv⟩ := own_slice HW.out.row
   subst hv
   clear hlt hk
   go_wp2_with (first
    | (go_at_call 163; refine CL.mono ?_; rintro e w' ⟨rfl, rfl⟩)
    | (go_at_call 162; refine pause ?_))
   unfold Paused
   refine CX.mono ?_
   rintro e w8 ⟨v, rfl, hv, hi, hg⟩
   obtain ⟨T, tc, rfl⟩ := own_slice hv
   have HV := Lib.hid (own_low hv (m' := g + 1) HW.out.rst.ob.lt)
   have HW8 := Lib.hid (HW.out.read hg hi)
   have q1 : w8.cell? ⟨g, 1, none⟩ = some nilV := HW8.out.rst.ob.cell 1
   have z1 : w8.frozen? ⟨g, 1, none⟩ = false := HW8.out.rst.ob.frozen 1
   have HW9 := Lib.hid (HW8.out.text (.slice T zs.length tc))
   have HR9 := Lib.hid HW9.out.2.1
   have HO9 : Hid (ObO (g + 1) (w8.setCell ⟨g, 1, none⟩ (.slice T zs.length tc)) ⟨3, zs, [], tg, ps⟩ (cellsOb 3 (.slice T zs.length tc) nilV (.slice P ps.length pc) tg).toArray T tc none 0 P pc) := Lib.hid ⟨rfl, HV.out.kept (grown_cell _ _ _ _) (own_far HV.out (Nat.lt_succ_self g)), World.ownsRow_nil _ _ _ _, HW9.out.2.2⟩
   have HFT : Hid (Ob.Fit ⟨3, zs, [], tg, ps⟩) := Lib.hid ⟨byte_of HF.out.2.2.1, fun _ h => (by cases h), HTI.out, HF.out.2.1⟩
   have HHD : Hid (Ob.Held ⟨3, zs, [], tg, ps⟩) := Lib.hid ⟨fun _ h => (by cases h), by have := HZL.out; show zs.length ≤ _; omega⟩
   clear hv hi hg CL CX HW9 HW8 HW
   go_wp2_with (with_reducible (show wpList _ _ _ (Oper.mk _ (Op.load 183 _) _ _ _ _ :: _) _ _); refine pause ?_)
   unfold Paused
   generalize w8.setCell ⟨g, 1, none⟩ (.slice T zs.length tc) = wt at HR9 HO9 ⊢
   have CR := right_any _ _ _ _ _ _ _ _ wt HO9.out.obc HFT.out HHD.out
   obtain ⟨br, hbr⟩ : ∃ br, br = Ob.right ⟨3, zs, [], tg, ps⟩ := ⟨_, rfl⟩
   rw [← hbr] at CR
   have HBR := Lib.hid hbr
   clear hbr
   refine wpList_row_w (by rfl) 183 (.tmp 3) (by rfl) g (by rfl) 183 _ _ HR9.out.ob Tryz.underlying183 (by rfl) (by rw [cellsOb_size _ _ _ _ _ HFT.out.target.1]; kernel_rfl) ?_
   go_wp2_with (go_at_call 166; refine pause ?_)
   unfold Paused
   refine CR.mono ?_
   rintro e w8 ⟨rfl, hb8⟩
   have HRS8 := Lib.hid (HR9.out.below hb8)
   have HOO8 := Lib.hid (HO9.out.below hb8)
   clear hb8 CR
   cases br
   ·obtain ⟨vq, kq, hrq, hwq, _, _⟩ := HRS8.out.at_
    have pF := (HS.out.at_ hwq).2.1
    have CF := fail_any i r vq (a 3) w8 kq
    have HPX := Lib.hid (HEND.out.trans (show Prs.fin ⟨3, zs, [], tg, ps⟩ = .bad 4 by unfold Prs.fin; rw [← HBR.out]; rfl))
    clear kq hrq hwq
    go_wp2_with (go_at_call 165; refine CF.mono ?_; rintro e w9 ⟨rfl, hd, hg⟩)
    exact ⟨rfl, post_bad HPX.out (HRS8.out.fails ⟨rfl, hd, hg⟩)⟩
   ·have HPX := Lib.hid (HEND.out.trans (show Prs.fin ⟨3, zs, [], tg, ps⟩ = .ok ⟨3, zs, [], tg, ps⟩ by unfold Prs.fin; rw [← HBR.out]; rfl))
    go_wp2_with (with_reducible (show wpList _ _ _ (Oper.mk _ (Op.load 183 _) _ _ _ _ :: _) _ _); refine pause ?_)
    unfold Paused
    refine wpList_row_w (by rfl) 183 (.tmp 3) (by rfl) g (by rfl) 183 _ _ HRS8.out.ob Tryz.underlying183 (by rfl) (by rw [cellsOb_size _ _ _ _ _ HFT.out.target.1]; kernel_rfl) ?_
    refine wpList_store_row (by rfl) 183 (.tmp 2) (.tmp 80) (by rfl) w.heap.size _ (by rfl) (by rfl) 183 zOc HRS8.out.res (by rw [cellsOb_size _ _ _ _ _ HFT.out.target.1]; kernel_rfl) (by rw [cellsOb_size _ _ _ _ _ HFT.out.target.1]; rfl) (ObO.one HOO8.out) ?_
    have HB9 := Lib.hid (HRS8.out.res.row (cellsOb 3 (.slice T zs.length tc) nilV (.slice P ps.length pc) tg).toArray)
    have HG9 := Lib.hid (show w8.grownBy (w8.setRow w.heap.size (cellsOb 3 (.slice T zs.length tc) nilV (.slice P ps.length pc) tg).toArray) (some w.heap.size) from only_setRow (World.grownBy.refl w8 _) (Or.inl rfl) _)
    generalize World.setRow _ w.heap.size (cellsOb 3 (.slice T zs.length tc) nilV (.slice P ps.length pc) tg).toArray = w9 at HB9 HG9 ⊢
    go_wp2
    exact bodyPost_ret (v := .agg (cellsOb 3 (.slice T zs.length tc) nilV (.slice P ps.length pc) tg).toArray) (resultsO (t := 2) rfl (by rfl) HB9.out (cellsOb_size _ _ _ _ _ HFT.out.target.1)) rfl (post_ok HPX.out rfl HFT.out HHD.out (HOO8.out.store HRS8.out.gt HG9.out) (HRS8.out.done HG9.out).1 (HRS8.out.done HG9.out).2)
end Go.Proofs.YtgcgomdhdgjpdaaGreatDoor
