/- The document's Parse: tags and commits. -/
import Derived.Maps.RangeWalk
import Derived.Test.YtndgadjeeinedaaGreatDoorMOb39
set_option maxRecDepth 100000
namespace Go.Proofs.YtndgadjeeinedaaGreatDoor
open Go Go.RowKit
theorem parsGo_none:∀ (n:Nat) (ps:List (List Nat)) (ys:List Nat),ys.length < 32 * n→parsGo n ps ys=none
 | 0,_,_,h=>by omega
 | n+1,ps,ys,h=>by
  unfold parsGo
  by_cases h1:ys.length < 32
  ·rw [if_pos h1]
  ·rw [if_neg h1]
   exact parsGo_none n _ _ (by rw [List.length_drop];omega)
theorem drop_step (us:List Nat) (k:Nat):us.drop (32 * (k+1))=(us.drop (32 * k)).drop 32:=by
 rw [List.drop_drop]
 congr 1
theorem rpw_mid {w wr:World} {g:Nat} {k:Int} {tg:List Nat} (h:RPW w wr g (cellsOb k nilV nilV nilV zid).toArray) (ht:tg.length=32):RPW w (wr.setCells g 3 (u8s tg).toList) g (cellsOb k nilV nilV nilV tg).toArray:=
 h.put (grown_cells g _ 3 wr wr (World.grownBy.refl _ _)) (blk_cells (t:=51) [nilV] (u8s tg).toList (cellsB zid) [.int .i64 k,nilV,nilV] 3 wr (by rw [cellsB_len,zid_id.1,Array.length_toList,u8s_size,ht]) rfl h.ob)
structure CrW (w wr:World) (g:Nat) (tg:List Nat) (u v:Value) (ps:List (List Nat)) (n:Nat):Prop where
 rpw:RPW w wr g (cellsOb 3 nilV nilV u tg).toArray
 row:wr.ownsRow (g+1) 41 32 v n (cellsP ps)
section
variable {w wr w':World} {g n:Nat} {tg:List Nat} {u v:Value} {ps qs:List (List Nat)}
theorem CrW.below (h:CrW w wr g tg u v ps n) (hb:Below wr.heap.size wr w'):CrW w w' g tg u v ps n:=
 ⟨h.rpw.below hb,own_kpt h.row (Kpt.of_below hb)⟩
theorem CrW.app (h:CrW w wr g tg u v ps n) {v2:Value} {m:Nat} (ho:w'.ownsRow (g+1) 41 32 v2 m (cellsP qs)) (hg:wr.grownBy w' v.ownBlock):CrW w w' g tg u v2 qs m:=
 ⟨h.rpw.own h.row (Nat.lt_succ_self g) hg,ho⟩
theorem CrW.put (h:CrW w wr g tg u v ps n) (ht:tg.length=32) (x:Value):CrW w (wr.setCell ⟨g,35,none⟩ x) g tg x v ps n:=
 ⟨h.rpw.put (grown_cell _ _ _ _) (by have:=h.rpw.ob.set_ 35 x;rwa [cellsOb_k35 _ _ _ _ _ _ ht] at this),h.row.kept (grown_cell _ _ _ _) (own_far h.row (Nat.lt_succ_self g))⟩
theorem CrW.cell (h:CrW w wr g tg u v ps n) (ht:tg.length=32):wr.cell? ⟨g,35,none⟩=some u:=(h.rpw.ob.cell 35).trans (cellsOb_get35 _ _ _ _ _ ht)
theorem CrW.text (h:CrW w wr g tg u v ps n) (x:Value):RPW w (wr.setCell ⟨g,1,none⟩ x) g (cellsOb 3 x nilV u tg).toArray∧(wr.setCell ⟨g,1,none⟩ x).ownsRow (g+1) 41 32 v n (cellsP ps):=
 ⟨h.rpw.put (grown_cell _ _ _ _) (by have:=h.rpw.ob.set_ 1 x;rwa [cellsOb_k1] at this),h.row.kept (grown_cell _ _ _ _) (own_far h.row (Nat.lt_succ_self g))⟩
end
set_option maxHeartbeats 4000000 in
theorem rparse_tag0 (ys:List Nat) (A:Option Addr) (cc:Nat) (w:World) (hv:Rd w (.slice A (103::ys).length cc) (103::ys)) (hb:Oc.bytes (103::ys)) (hz:(103::ys).length≤300) (hs:ys.length < 32) :
  Calls Tryz.prog 13 #[.slice A (103::ys).length cc] w (RPost (103::ys) w):=by
 have HSH:=Lib.hid hs
 clear hs
 obtain ⟨w2,hw2⟩:∃ w2,w2=(w.alloc (.cells zc0 51)).alloc (.cells zc0 51):=⟨_,rfl⟩
 have s1:(w.alloc (.cells zc0 51)).heap.size=w.heap.size+1:=by simp
 have HZ4:Hid (Blk w2 (w.heap.size+1) 51 zc0):=Lib.hid (by have h:=Blk.new (w.alloc (.cells zc0 51)) 51 zc0;rw [s1] at h;rw [hw2];exact h)
 have HZ2:Hid (Blk w2 w.heap.size 51 zc0):=Lib.hid (by rw [hw2];exact (Blk.new w 51 zc0).alloc _)
 have HB2:Hid (Below w.heap.size w w2):=Lib.hid (by rw [hw2];exact ((Below.refl _ _).alloc (Nat.le_refl _) _).alloc (by simp) _)
 have HST:Hid (RPW w (w2.drew.alloc (.cells zc0 51)) (w.heap.size+2) (cellsOb 0 nilV nilV nilV zid).toArray):=Lib.hid (by rw [hw2];exact rpw_start w)
 have e2:=hw2.symm
 clear hw2 s1
 obtain ⟨A1,c1,q1,hr1⟩:=sl_from hv 1 (by simp)
 rw [show (103::ys).drop 1=ys from rfl] at q1 hr1
 have HR:=Lib.hid hr1
 have HBY:=Lib.hid (bytes_tail hb)
 have HYL:Hid (ys.length < 300):=Lib.hid (by simp only [List.length_cons] at hz;omega)
 obtain ⟨b0,o0,rfl,hx0⟩:∃ b o,A=some ⟨b,o,none⟩∧∀ wx,Below w.heap.size w wx→wx.cell? ⟨b,o,none⟩=some (.int .u8 (103:Int)):=by
  obtain ⟨A',c',e,_,h⟩:=hv
  injection e with e1 _ _
  subst e1
  obtain ⟨b,o,rfl,hbl,hx⟩:=h (by simp)
  exact ⟨b,o,rfl,fun wx hb=>(hb.cell (p:=⟨b,o,none⟩) hbl).trans (by have:=hx 0 (by simp);rwa [Nat.add_zero] at this)⟩
 have i1:¬(((103::ys).length:Int) > 300):=by omega
 have i2:¬(((103::ys).length:Int)=0):=by simp only [List.length_cons];omega
 have i3:(0:Int) < ((103::ys).length:Int):=by simp only [List.length_cons];omega
 have i4:(1:Int)≤((103::ys).length:Int):=by simp only [List.length_cons];omega
 have i5:(((103::ys).length:Int) == 0)=false:=by simp only [List.length_cons];simp;omega
 clear hv hb hz hr1
 generalize (103::ys).length=nn at *
 go_enter Tryz.func13,Tryz.ntmps13
 go_wp2_with (with_reducible (show wpList _ _ _ (Oper.mk _ (Op.build _ _) _ _ _ _::_) _ _);refine pause ?_)
 unfold Paused
 change wpList _ _ _ _ _ (w.alloc (.cells zc0 51))
 refine wpList_buildK (by rfl) 51 _ (by rfl) [] (by simp) zc0 robj_empty ?_
 go_wp2_with (with_reducible (show wpList _ _ _ (Oper.mk _ (Op.store 51 _ _) _ _ _ _::_) _ _);refine pause ?_)
 unfold Paused
 change wpList _ _ _ _ _ ((w.alloc (.cells zc0 51)).alloc (.cells zc0 51))
 rw [e2]
 refine wpList_store_row rfl 51 (.tmp 4) (.tmp 10) rfl (w.heap.size+1) zc0 (by first | rfl | (simp;rfl)) rfl 51 zc0 HZ4.out (by kernel_rfl) rfl (by kernel_rfl) ?_
 rw [setRow_self w2 (w.heap.size+1) zc0 51 (0,0) HZ4.out]
 simp only [Act.put]
 go_wp2
 refine wp_region_held (S:=fun _=>True) (by kernel_rfl) ?_
 change wpAnyH _ _ _ _ _ _ _ _ w2.drew
 refine wpAnyH_take (i:=0) (v:=.agg zc0) rfl (by kernel_rfl) (by kernel_rfl) (by kernel_rfl) (fun _ _ _ h=>h) (takes_build 51 _ (by rfl) (by rfl) [] (by simp) zc0 robj_empty) trivial ?_
 try go_frame
 refine wpAnyH_take (i:=1) (v:=?_) rfl (by kernel_rfl) (by kernel_rfl) (by kernel_rfl) (fun _ _ _ h=>h) (Or.inl ⟨by rfl,?_⟩) trivial ?_
 rotate_left
 ·intro w' _;go_simp;with_reducible rfl
 try go_frame
 refine wpAnyH_take (i:=2) (v:=.slice A1 ys.length c1) rfl (by kernel_rfl) (by kernel_rfl) (by kernel_rfl) (fun _ _ _ h=>h) (takes_sliceL (.tmp 20) (.const (.int .i64 1)) (by rfl) (by rfl) _ _ _ (by rfl) (by rfl) q1) trivial ?_
 try go_frame
 refine all_one (i:=3) (by kernel_rfl) rfl (by rfl) (fun K hK=>?_)
 go_simp
 refine hK _ _ trivial ?_;clear hK K
 try go_frame
 have hsz:w2.heap.size=w.heap.size+2:=by rw [←e2];simp
 refine all_one (i:=4) (by kernel_rfl) rfl (by rfl) (fun K hK=>?_)
 refine wp_store_row 51 (.tmp 5) (.tmp 19) (by rfl) (w.heap.size+2) zc0 (by first | rfl | (rw [←hsz];rfl)) (by rfl) 51 zc0 HST.out.ob (by kernel_rfl) (by rfl) (by kernel_rfl) ?_
 change K _ (World.setRow (w2.drew.alloc (.cells zc0 51)) (w.heap.size+2) zc0)
 rw [setRow_self _ (w.heap.size+2) zc0 51 (0,0) HST.out.ob]
 refine hK _ _ trivial ?_;clear hK K
 try simp only [Act.put,List.getElem_toArray,List.getElem_cons_zero,List.getElem_cons_succ]
 refine all_one (i:=5) (by kernel_rfl) rfl (by rfl) (fun K hK=>?_)
 go_simp
 refine hK _ _ trivial ?_;clear hK K
 try go_frame
 refine wpAnyH_done (by kernel_rfl) ?_ _
 have HW:=HST
 try rw [show (w2.alloc (.cells zc0 51)).drew=w2.drew.alloc (.cells zc0 51) from rfl]
 generalize w2.drew.alloc (.cells zc0 51)=w6 at HW ⊢
 have x0:=hx0 w6 HW.out.bel
 clear hx0 q1 HST HZ2 HZ4 HB2 e2 hsz i1 i2 i4 i5
 generalize w.heap.size+2=g at HW ⊢
 have HWa:=Lib.hid (HW.out.cell 0 (.int .i64 4))
 rw [cellsOb_k0] at HWa
 have y0:w6.cell? ⟨g,0,none⟩=some (.int .i64 0):=HW.out.ob.cell 0
 have z0:=HW.out.ob.frozen 0
 have HPR:=Lib.hid (show Ob.parse (103::ys)=.bad 2 from (show (if ys.length < 32 then Prs.bad 2 else Prs.fin ⟨4,ys.drop 32,[],ys.take 32,[]⟩)=_ from if_pos HSH.out))
 have j1:((ys.length:Nat):Int) < 32:=by have:=HSH.out;omega
 go_wp2_with (with_reducible (show wpList _ _ _ (Oper.mk _ (Op.load 51 _) _ _ _ _::_) _ _);refine pause ?_)
 unfold Paused
 refine wpList_row_w (by rfl) 51 (.tmp 4) (by rfl) (w.heap.size+1) (by rfl) 51 zc0 _ HWa.out.non robj_under (by rfl) (by kernel_rfl) ?_
 go_wp2_with (with_reducible (show wpList _ _ _ (Oper.mk _ (Op.store 51 _ _) _ _ _ _::_) _ _);refine pause ?_)
 unfold Paused
 refine wpList_store_row (by rfl) 51 (.tmp 2) (.tmp 116) (by rfl) w.heap.size zc0 (by rfl) (by rfl) 51 zc0 HWa.out.res (by kernel_rfl) (by rfl) (by kernel_rfl) ?_
 rw [setRow_self _ w.heap.size zc0 51 (0,0) HWa.out.res]
 go_wp2
 exact bodyPost_ret (v:=.tuple #[.agg zc0,.int .i64 (2:Int)]) (results_cell_row2 rfl _ _ w.heap.size 51 zc0 _ _ (by rfl) (by rfl) HWa.out.res robj_under rfl (by kernel_rfl)) rfl (rpost_bad (c:=2) HPR.out HWa.out.bel rfl)
set_option maxHeartbeats 4000000 in
theorem rparse_tag (ys:List Nat) (A:Option Addr) (cc:Nat) (w:World) (hv:Rd w (.slice A (103::ys).length cc) (103::ys)) (hb:Oc.bytes (103::ys)) (hz:(103::ys).length≤300) (hs:32≤ys.length) :
  Calls Tryz.prog 13 #[.slice A (103::ys).length cc] w (RPost (103::ys) w):=by
 have HSH:=Lib.hid hs
 clear hs
 obtain ⟨w2,hw2⟩:∃ w2,w2=(w.alloc (.cells zc0 51)).alloc (.cells zc0 51):=⟨_,rfl⟩
 have s1:(w.alloc (.cells zc0 51)).heap.size=w.heap.size+1:=by simp
 have HZ4:Hid (Blk w2 (w.heap.size+1) 51 zc0):=Lib.hid (by have h:=Blk.new (w.alloc (.cells zc0 51)) 51 zc0;rw [s1] at h;rw [hw2];exact h)
 have HZ2:Hid (Blk w2 w.heap.size 51 zc0):=Lib.hid (by rw [hw2];exact (Blk.new w 51 zc0).alloc _)
 have HB2:Hid (Below w.heap.size w w2):=Lib.hid (by rw [hw2];exact ((Below.refl _ _).alloc (Nat.le_refl _) _).alloc (by simp) _)
 have HST:Hid (RPW w (w2.drew.alloc (.cells zc0 51)) (w.heap.size+2) (cellsOb 0 nilV nilV nilV zid).toArray):=Lib.hid (by rw [hw2];exact rpw_start w)
 have e2:=hw2.symm
 clear hw2 s1
 obtain ⟨A1,c1,q1,hr1⟩:=sl_from hv 1 (by simp)
 rw [show (103::ys).drop 1=ys from rfl] at q1 hr1
 have HR:=Lib.hid hr1
 have HBY:=Lib.hid (bytes_tail hb)
 have HYL:Hid (ys.length < 300):=Lib.hid (by simp only [List.length_cons] at hz;omega)
 obtain ⟨b0,o0,rfl,hx0⟩:∃ b o,A=some ⟨b,o,none⟩∧∀ wx,Below w.heap.size w wx→wx.cell? ⟨b,o,none⟩=some (.int .u8 (103:Int)):=by
  obtain ⟨A',c',e,_,h⟩:=hv
  injection e with e1 _ _
  subst e1
  obtain ⟨b,o,rfl,hbl,hx⟩:=h (by simp)
  exact ⟨b,o,rfl,fun wx hb=>(hb.cell (p:=⟨b,o,none⟩) hbl).trans (by have:=hx 0 (by simp);rwa [Nat.add_zero] at this)⟩
 have i1:¬(((103::ys).length:Int) > 300):=by omega
 have i2:¬(((103::ys).length:Int)=0):=by simp only [List.length_cons];omega
 have i3:(0:Int) < ((103::ys).length:Int):=by simp only [List.length_cons];omega
 have i4:(1:Int)≤((103::ys).length:Int):=by simp only [List.length_cons];omega
 have i5:(((103::ys).length:Int) == 0)=false:=by simp only [List.length_cons];simp;omega
 clear hv hb hz hr1
 generalize (103::ys).length=nn at *
 go_enter Tryz.func13,Tryz.ntmps13
 go_wp2_with (with_reducible (show wpList _ _ _ (Oper.mk _ (Op.build _ _) _ _ _ _::_) _ _);refine pause ?_)
 unfold Paused
 change wpList _ _ _ _ _ (w.alloc (.cells zc0 51))
 refine wpList_buildK (by rfl) 51 _ (by rfl) [] (by simp) zc0 robj_empty ?_
 go_wp2_with (with_reducible (show wpList _ _ _ (Oper.mk _ (Op.store 51 _ _) _ _ _ _::_) _ _);refine pause ?_)
 unfold Paused
 change wpList _ _ _ _ _ ((w.alloc (.cells zc0 51)).alloc (.cells zc0 51))
 rw [e2]
 refine wpList_store_row rfl 51 (.tmp 4) (.tmp 10) rfl (w.heap.size+1) zc0 (by first | rfl | (simp;rfl)) rfl 51 zc0 HZ4.out (by kernel_rfl) rfl (by kernel_rfl) ?_
 rw [setRow_self w2 (w.heap.size+1) zc0 51 (0,0) HZ4.out]
 simp only [Act.put]
 go_wp2
 refine wp_region_held (S:=fun _=>True) (by kernel_rfl) ?_
 change wpAnyH _ _ _ _ _ _ _ _ w2.drew
 refine wpAnyH_take (i:=0) (v:=.agg zc0) rfl (by kernel_rfl) (by kernel_rfl) (by kernel_rfl) (fun _ _ _ h=>h) (takes_build 51 _ (by rfl) (by rfl) [] (by simp) zc0 robj_empty) trivial ?_
 try go_frame
 refine wpAnyH_take (i:=1) (v:=?_) rfl (by kernel_rfl) (by kernel_rfl) (by kernel_rfl) (fun _ _ _ h=>h) (Or.inl ⟨by rfl,?_⟩) trivial ?_
 rotate_left
 ·intro w' _;go_simp;with_reducible rfl
 try go_frame
 refine wpAnyH_take (i:=2) (v:=.slice A1 ys.length c1) rfl (by kernel_rfl) (by kernel_rfl) (by kernel_rfl) (fun _ _ _ h=>h) (takes_sliceL (.tmp 20) (.const (.int .i64 1)) (by rfl) (by rfl) _ _ _ (by rfl) (by rfl) q1) trivial ?_
 try go_frame
 refine all_one (i:=3) (by kernel_rfl) rfl (by rfl) (fun K hK=>?_)
 go_simp
 refine hK _ _ trivial ?_;clear hK K
 try go_frame
 have hsz:w2.heap.size=w.heap.size+2:=by rw [←e2];simp
 refine all_one (i:=4) (by kernel_rfl) rfl (by rfl) (fun K hK=>?_)
 refine wp_store_row 51 (.tmp 5) (.tmp 19) (by rfl) (w.heap.size+2) zc0 (by first | rfl | (rw [←hsz];rfl)) (by rfl) 51 zc0 HST.out.ob (by kernel_rfl) (by rfl) (by kernel_rfl) ?_
 change K _ (World.setRow (w2.drew.alloc (.cells zc0 51)) (w.heap.size+2) zc0)
 rw [setRow_self _ (w.heap.size+2) zc0 51 (0,0) HST.out.ob]
 refine hK _ _ trivial ?_;clear hK K
 try simp only [Act.put,List.getElem_toArray,List.getElem_cons_zero,List.getElem_cons_succ]
 refine all_one (i:=5) (by kernel_rfl) rfl (by rfl) (fun K hK=>?_)
 go_simp
 refine hK _ _ trivial ?_;clear hK K
 try go_frame
 refine wpAnyH_done (by kernel_rfl) ?_ _
 have HW:=HST
 try rw [show (w2.alloc (.cells zc0 51)).drew=w2.drew.alloc (.cells zc0 51) from rfl]
 generalize w2.drew.alloc (.cells zc0 51)=w6 at HW ⊢
 have x0:=hx0 w6 HW.out.bel
 clear hx0 q1 HST HZ2 HZ4 HB2 e2 hsz i1 i2 i4 i5
 generalize w.heap.size+2=g at HW ⊢
 have HWa:=Lib.hid (HW.out.cell 0 (.int .i64 4))
 rw [cellsOb_k0] at HWa
 have y0:w6.cell? ⟨g,0,none⟩=some (.int .i64 0):=HW.out.ob.cell 0
 have z0:=HW.out.ob.frozen 0
 have HPR:=Lib.hid (show Ob.parse (103::ys)=Prs.fin ⟨4,ys.drop 32,[],ys.take 32,[]⟩ from (show (if ys.length < 32 then Prs.bad 2 else Prs.fin ⟨4,ys.drop 32,[],ys.take 32,[]⟩)=_ from if_neg (Nat.not_lt.2 HSH.out)))
 have HTI:=Lib.hid (id_take HBY.out HSH.out)
 have HUB:=Lib.hid (Oc.bytes_drop HBY.out 32)
 have HUL:Hid ((ys.drop 32).length≤300):=Lib.hid (by rw [List.length_drop];have:=HYL.out;omega)
 have j1:¬((ys.length:Nat):Int) < 32:=by have:=HSH.out;omega
 have HWd:Hid (RPW w (w6.setCell ⟨g,0,none⟩ (.int .i64 4)).drew g (cellsOb 4 nilV nilV nilV zid).toArray):=Lib.hid (HWa.out.below (below_drewN (Below.refl _ (w6.setCell ⟨g,0,none⟩ (.int .i64 4))) 1))
 have CO:=roid_any A1 c1 ys (w6.setCell ⟨g,0,none⟩ (.int .i64 4)).drew (HR.out.below HWd.out.bel (Nat.le_refl _)) HSH.out
 obtain ⟨A2,c2,q2,hr2⟩:=sl_from HR.out 32 HSH.out
 have HR2:=Lib.hid hr2
 clear hr2
 generalize ys.take 32=tg at HPR HTI CO
 generalize ys.drop 32=us at HPR HUB HUL q2 HR2
 go_wp2
 refine wp_region_held (S:=fun _=>True) (by kernel_rfl) ?_
 change wpAnyH _ _ _ _ _ _ _ _ (w6.setCell ⟨g,0,none⟩ (.int .i64 4)).drew
 generalize (w6.setCell ⟨g,0,none⟩ (.int .i64 4)).drew=w7 at HWd CO ⊢
 refine wpAnyH_take (i:=0) (v:=?_) rfl (by kernel_rfl) (by kernel_rfl) (by kernel_rfl) (fun _ _ _ h=>h) (Or.inl ⟨by rfl,?_⟩) trivial ?_
 rotate_left
 ·intro w' _;go_simp;with_reducible rfl
 try go_frame
 refine wpAnyH_take (i:=2) (v:=?_) rfl (by kernel_rfl) (by kernel_rfl) (by kernel_rfl) (fun _ _ _ h=>h) (Or.inl ⟨by rfl,?_⟩) trivial ?_
 rotate_left
 ·intro w' _;go_simp;with_reducible rfl
 try go_frame
 refine wpAnyH_take (i:=3) (v:=.slice A2 us.length c2) rfl (by kernel_rfl) (by kernel_rfl) (by kernel_rfl) (fun _ _ _ h=>h) (takes_sliceL (.tmp 119) (.const (.int .i64 32)) (by rfl) (by rfl) (.slice A1 ys.length c1) (.int .i64 32) (.slice A2 us.length c2) (by rfl) (by rfl) q2) trivial ?_
 try go_frame
 refine all_one (i:=1) (by kernel_rfl) rfl (by rfl) (fun K hK=>?_)
 go_simp
 refine CO.mono ?_
 rintro e w8 ⟨rfl,hb8⟩
 have HW8:=Lib.hid (HWd.out.below hb8)
 dsimp only
 refine hK _ _ trivial ?_;clear hK K CO hb8
 try go_frame
 refine wpAnyH_take (i:=4) (v:=?_) rfl (by kernel_rfl) (by kernel_rfl) (by kernel_rfl) (fun _ _ _ h=>h) (Or.inl ⟨by rfl,?_⟩) trivial ?_
 rotate_left
 ·intro w' _;go_simp;with_reducible rfl
 try go_frame
 refine all_one (i:=5) (by kernel_rfl) rfl (by rfl) (fun K hK=>?_)
 refine wp_store_mid 41 (.tmp 121) (.tmp 118) (by rfl) g 3 (u8s tg) (by rfl) (by rfl) (there_of HW8.out.ob (by rw [cellsOb_size _ _ _ _ _ zid_id.1,u8s_size,HTI.out.1];omega)) (by rw [u8s_size,HTI.out.1];exact id_size) (u8s_one _) ?_
 have HW9:=Lib.hid (rpw_mid HW8.out HTI.out.1)
 refine hK _ _ trivial ?_;clear hK K
 generalize w8.setCells g 3 (u8s tg).toList=w9 at HW9 ⊢
 try simp only [Act.put,List.getElem_toArray,List.getElem_cons_zero,List.getElem_cons_succ]
 refine wpAnyH_take (i:=6) (v:=?_) rfl (by kernel_rfl) (by kernel_rfl) (by kernel_rfl) (fun _ _ _ h=>h) (Or.inl ⟨by rfl,?_⟩) trivial ?_
 rotate_left
 ·intro w' _;go_simp;with_reducible rfl
 try go_frame
 have y1:w9.cell? ⟨g,1,none⟩=some nilV:=HW9.out.ob.cell 1
 have z1:=HW9.out.ob.frozen 1
 have HWb:=Lib.hid (HW9.out.cell 1 (.slice A2 us.length c2))
 rw [cellsOb_k1] at HWb
 refine all_one (i:=7) (by kernel_rfl) rfl (by rfl) (fun K hK=>?_)
 go_simp
 refine hK _ _ trivial ?_;clear hK K y1 z1
 try go_frame
 refine wpAnyH_done (by kernel_rfl) ?_ _
 have HFT:Hid (Ob.Fit ⟨4,us,[],tg,[]⟩):=Lib.hid ⟨byte_of HUB.out,fun _ h=>(by cases h),HTI.out,fun _ h=>(by cases h)⟩
 have HHD:Hid (Ob.Held ⟨4,us,[],tg,[]⟩):=Lib.hid ⟨fun _ h=>(by cases h),by have:=HUL.out;show us.length≤_;omega⟩
 have HOR:Hid (ObR (g+1) w (w9.setCell ⟨g,1,none⟩ (.slice A2 us.length c2)) ⟨4,us,[],tg,[]⟩ (cellsOb 4 (.slice A2 us.length c2) nilV nilV tg).toArray A2 c2 none 0 none 0):=Lib.hid ⟨rfl,HR2.out,World.ownsRow_nil _ _ _ _,World.ownsRow_nil _ _ _ _,by have:=HWb.out.gt;omega⟩
 generalize w9.setCell ⟨g,1,none⟩ (.slice A2 us.length c2)=wt at HWb HOR ⊢
 clear y0 z0 j1 q2
 go_wp2_with (with_reducible (show wpList _ _ _ (Oper.mk _ (Op.load 51 _) _ _ _ _::_) _ _);refine pause ?_)
 unfold Paused
 refine wpList_row_w (by rfl) 51 (.tmp 5) (by rfl) g (by rfl) 51 (cellsOb 4 (.slice A2 us.length c2) nilV nilV tg).toArray _ HWb.out.ob robj_under (by rfl) (by rw [cellsOb_size _ _ _ _ _ HFT.out.target.1];kernel_rfl) ?_
 have CR:=rright4 us tg (cellsOb 4 (.slice A2 us.length c2) nilV nilV tg).toArray _ _ _ _ _ _ wt (HOR.out.obc HWb.out.bel) HFT.out HHD.out
 obtain ⟨br,hbr⟩:∃ br,br=Ob.right ⟨4,us,[],tg,[]⟩:=⟨_,rfl⟩
 rw [←hbr] at CR
 have HBR:=Lib.hid hbr
 clear hbr
 go_wp2_with (go_at_call 29;refine pause ?_)
 unfold Paused
 refine CR.mono ?_
 rintro e w8 ⟨rfl,hb8⟩
 have HW8:=Lib.hid (HWb.out.below hb8)
 have HO8:=Lib.hid (HOR.out.below hb8)
 clear hb8 CR
 cases br
 ·have HPX:=Lib.hid (HPR.out.trans (show Prs.fin ⟨4,us,[],tg,[]⟩=.bad 4 by unfold Prs.fin;rw [←HBR.out];rfl))
  go_wp2_with (with_reducible (show wpList _ _ _ (Oper.mk _ (Op.load 51 _) _ _ _ _::_) _ _);refine pause ?_)
  unfold Paused
  refine wpList_row_w (by rfl) 51 (.tmp 4) (by rfl) (w.heap.size+1) (by rfl) 51 zc0 _ HW8.out.non robj_under (by rfl) (by kernel_rfl) ?_
  go_wp2_with (with_reducible (show wpList _ _ _ (Oper.mk _ (Op.store 51 _ _) _ _ _ _::_) _ _);refine pause ?_)
  unfold Paused
  refine wpList_store_row (by rfl) 51 (.tmp 2) (.tmp 126) (by rfl) w.heap.size zc0 (by rfl) (by rfl) 51 zc0 HW8.out.res (by kernel_rfl) (by rfl) (by kernel_rfl) ?_
  rw [setRow_self _ w.heap.size zc0 51 (0,0) HW8.out.res]
  go_wp2
  exact bodyPost_ret (v:=.tuple #[.agg zc0,.int .i64 (4:Int)]) (results_cell_row2 rfl _ _ w.heap.size 51 zc0 _ _ (by rfl) (by rfl) HW8.out.res robj_under rfl (by kernel_rfl)) rfl (rpost_bad (c:=4) HPX.out HW8.out.bel rfl)
 ·have HPX:=Lib.hid (HPR.out.trans (show Prs.fin ⟨4,us,[],tg,[]⟩=.ok ⟨4,us,[],tg,[]⟩ by unfold Prs.fin;rw [←HBR.out];rfl))
  go_wp2_with (with_reducible (show wpList _ _ _ (Oper.mk _ (Op.load 51 _) _ _ _ _::_) _ _);refine pause ?_)
  unfold Paused
  refine wpList_row_w (by rfl) 51 (.tmp 5) (by rfl) g (by rfl) 51 (cellsOb 4 (.slice A2 us.length c2) nilV nilV tg).toArray _ HW8.out.ob robj_under (by rfl) (by rw [cellsOb_size _ _ _ _ _ HFT.out.target.1];kernel_rfl) ?_
  go_wp2_with (with_reducible (show wpList _ _ _ (Oper.mk _ (Op.store 51 _ _) _ _ _ _::_) _ _);refine pause ?_)
  unfold Paused
  refine wpList_store_row (by rfl) 51 (.tmp 2) (.tmp 127) (by rfl) w.heap.size (cellsOb 4 (.slice A2 us.length c2) nilV nilV tg).toArray (by rfl) (by rfl) 51 zc0 HW8.out.res (by rw [cellsOb_size _ _ _ _ _ HFT.out.target.1];kernel_rfl) (by rw [cellsOb_size _ _ _ _ _ HFT.out.target.1];rfl) (cellsOb_one _ _ _ _ _ _ _ _ _ _ _) ?_
  have HB9:=Lib.hid (HW8.out.res.row (cellsOb 4 (.slice A2 us.length c2) nilV nilV tg).toArray)
  have HL9:=Lib.hid (below_row HW8.out.bel (Nat.le_refl _) (cellsOb 4 (.slice A2 us.length c2) nilV nilV tg).toArray)
  have HO9:=Lib.hid (HO8.out.only (show w.heap.size < g+1 by have:=HW8.out.gt;omega) (show w8.grownBy (w8.setRow w.heap.size (cellsOb 4 (.slice A2 us.length c2) nilV nilV tg).toArray) (some w.heap.size) from only_setRow (World.grownBy.refl w8 _) (Or.inl rfl) _))
  generalize w8.setRow w.heap.size (cellsOb 4 (.slice A2 us.length c2) nilV nilV tg).toArray=w9 at HB9 HL9 HO9 ⊢
  go_wp2
  exact bodyPost_ret (v:=.tuple #[.agg (cellsOb 4 (.slice A2 us.length c2) nilV nilV tg).toArray,.int .i64 0]) (results_cell_row2 rfl _ _ w.heap.size 51 (cellsOb 4 (.slice A2 us.length c2) nilV nilV tg).toArray _ _ (by rfl) (by rfl) HB9.out robj_under rfl (by rw [cellsOb_size _ _ _ _ _ HFT.out.target.1];kernel_rfl)) rfl (rpost_ok HPX.out HL9.out rfl HFT.out HHD.out (HO9.out.obcr HL9.out))
set_option maxHeartbeats 4000000 in
theorem rparse_commit0 (ys:List Nat) (A:Option Addr) (cc:Nat) (w:World) (hv:Rd w (.slice A (99::ys).length cc) (99::ys)) (hb:Oc.bytes (99::ys)) (hz:(99::ys).length≤300) (hs:ys.length < 33) :
  Calls Tryz.prog 13 #[.slice A (99::ys).length cc] w (RPost (99::ys) w):=by
 have HSH:=Lib.hid hs
 clear hs
 obtain ⟨w2,hw2⟩:∃ w2,w2=(w.alloc (.cells zc0 51)).alloc (.cells zc0 51):=⟨_,rfl⟩
 have s1:(w.alloc (.cells zc0 51)).heap.size=w.heap.size+1:=by simp
 have HZ4:Hid (Blk w2 (w.heap.size+1) 51 zc0):=Lib.hid (by have h:=Blk.new (w.alloc (.cells zc0 51)) 51 zc0;rw [s1] at h;rw [hw2];exact h)
 have HZ2:Hid (Blk w2 w.heap.size 51 zc0):=Lib.hid (by rw [hw2];exact (Blk.new w 51 zc0).alloc _)
 have HB2:Hid (Below w.heap.size w w2):=Lib.hid (by rw [hw2];exact ((Below.refl _ _).alloc (Nat.le_refl _) _).alloc (by simp) _)
 have HST:Hid (RPW w (w2.drew.alloc (.cells zc0 51)) (w.heap.size+2) (cellsOb 0 nilV nilV nilV zid).toArray):=Lib.hid (by rw [hw2];exact rpw_start w)
 have e2:=hw2.symm
 clear hw2 s1
 obtain ⟨A1,c1,q1,hr1⟩:=sl_from hv 1 (by simp)
 rw [show (99::ys).drop 1=ys from rfl] at q1 hr1
 have HR:=Lib.hid hr1
 have HBY:=Lib.hid (bytes_tail hb)
 have HYL:Hid (ys.length < 300):=Lib.hid (by simp only [List.length_cons] at hz;omega)
 obtain ⟨b0,o0,rfl,hx0⟩:∃ b o,A=some ⟨b,o,none⟩∧∀ wx,Below w.heap.size w wx→wx.cell? ⟨b,o,none⟩=some (.int .u8 (99:Int)):=by
  obtain ⟨A',c',e,_,h⟩:=hv
  injection e with e1 _ _
  subst e1
  obtain ⟨b,o,rfl,hbl,hx⟩:=h (by simp)
  exact ⟨b,o,rfl,fun wx hb=>(hb.cell (p:=⟨b,o,none⟩) hbl).trans (by have:=hx 0 (by simp);rwa [Nat.add_zero] at this)⟩
 have i1:¬(((99::ys).length:Int) > 300):=by omega
 have i2:¬(((99::ys).length:Int)=0):=by simp only [List.length_cons];omega
 have i3:(0:Int) < ((99::ys).length:Int):=by simp only [List.length_cons];omega
 have i4:(1:Int)≤((99::ys).length:Int):=by simp only [List.length_cons];omega
 have i5:(((99::ys).length:Int) == 0)=false:=by simp only [List.length_cons];simp;omega
 clear hv hb hz hr1
 generalize (99::ys).length=nn at *
 go_enter Tryz.func13,Tryz.ntmps13
 go_wp2_with (with_reducible (show wpList _ _ _ (Oper.mk _ (Op.build _ _) _ _ _ _::_) _ _);refine pause ?_)
 unfold Paused
 change wpList _ _ _ _ _ (w.alloc (.cells zc0 51))
 refine wpList_buildK (by rfl) 51 _ (by rfl) [] (by simp) zc0 robj_empty ?_
 go_wp2_with (with_reducible (show wpList _ _ _ (Oper.mk _ (Op.store 51 _ _) _ _ _ _::_) _ _);refine pause ?_)
 unfold Paused
 change wpList _ _ _ _ _ ((w.alloc (.cells zc0 51)).alloc (.cells zc0 51))
 rw [e2]
 refine wpList_store_row rfl 51 (.tmp 4) (.tmp 10) rfl (w.heap.size+1) zc0 (by first | rfl | (simp;rfl)) rfl 51 zc0 HZ4.out (by kernel_rfl) rfl (by kernel_rfl) ?_
 rw [setRow_self w2 (w.heap.size+1) zc0 51 (0,0) HZ4.out]
 simp only [Act.put]
 go_wp2
 refine wp_region_held (S:=fun _=>True) (by kernel_rfl) ?_
 change wpAnyH _ _ _ _ _ _ _ _ w2.drew
 refine wpAnyH_take (i:=0) (v:=.agg zc0) rfl (by kernel_rfl) (by kernel_rfl) (by kernel_rfl) (fun _ _ _ h=>h) (takes_build 51 _ (by rfl) (by rfl) [] (by simp) zc0 robj_empty) trivial ?_
 try go_frame
 refine wpAnyH_take (i:=1) (v:=?_) rfl (by kernel_rfl) (by kernel_rfl) (by kernel_rfl) (fun _ _ _ h=>h) (Or.inl ⟨by rfl,?_⟩) trivial ?_
 rotate_left
 ·intro w' _;go_simp;with_reducible rfl
 try go_frame
 refine wpAnyH_take (i:=2) (v:=.slice A1 ys.length c1) rfl (by kernel_rfl) (by kernel_rfl) (by kernel_rfl) (fun _ _ _ h=>h) (takes_sliceL (.tmp 20) (.const (.int .i64 1)) (by rfl) (by rfl) _ _ _ (by rfl) (by rfl) q1) trivial ?_
 try go_frame
 refine all_one (i:=3) (by kernel_rfl) rfl (by rfl) (fun K hK=>?_)
 go_simp
 refine hK _ _ trivial ?_;clear hK K
 try go_frame
 have hsz:w2.heap.size=w.heap.size+2:=by rw [←e2];simp
 refine all_one (i:=4) (by kernel_rfl) rfl (by rfl) (fun K hK=>?_)
 refine wp_store_row 51 (.tmp 5) (.tmp 19) (by rfl) (w.heap.size+2) zc0 (by first | rfl | (rw [←hsz];rfl)) (by rfl) 51 zc0 HST.out.ob (by kernel_rfl) (by rfl) (by kernel_rfl) ?_
 change K _ (World.setRow (w2.drew.alloc (.cells zc0 51)) (w.heap.size+2) zc0)
 rw [setRow_self _ (w.heap.size+2) zc0 51 (0,0) HST.out.ob]
 refine hK _ _ trivial ?_;clear hK K
 try simp only [Act.put,List.getElem_toArray,List.getElem_cons_zero,List.getElem_cons_succ]
 refine all_one (i:=5) (by kernel_rfl) rfl (by rfl) (fun K hK=>?_)
 go_simp
 refine hK _ _ trivial ?_;clear hK K
 try go_frame
 refine wpAnyH_done (by kernel_rfl) ?_ _
 have HW:=HST
 try rw [show (w2.alloc (.cells zc0 51)).drew=w2.drew.alloc (.cells zc0 51) from rfl]
 generalize w2.drew.alloc (.cells zc0 51)=w6 at HW ⊢
 have x0:=hx0 w6 HW.out.bel
 clear hx0 q1 HST HZ2 HZ4 HB2 e2 hsz i1 i2 i4 i5
 generalize w.heap.size+2=g at HW ⊢
 have HWa:=Lib.hid (HW.out.cell 0 (.int .i64 3))
 rw [cellsOb_k0] at HWa
 have y0:w6.cell? ⟨g,0,none⟩=some (.int .i64 0):=HW.out.ob.cell 0
 have z0:=HW.out.ob.frozen 0
 have HPR:=Lib.hid (cm_bad ys HSH.out)
 have j1:((ys.length:Nat):Int) < 33:=by have:=HSH.out;omega
 go_wp2_with (with_reducible (show wpList _ _ _ (Oper.mk _ (Op.load 51 _) _ _ _ _::_) _ _);refine pause ?_)
 unfold Paused
 refine wpList_row_w (by rfl) 51 (.tmp 4) (by rfl) (w.heap.size+1) (by rfl) 51 zc0 _ HWa.out.non robj_under (by rfl) (by kernel_rfl) ?_
 go_wp2_with (with_reducible (show wpList _ _ _ (Oper.mk _ (Op.store 51 _ _) _ _ _ _::_) _ _);refine pause ?_)
 unfold Paused
 refine wpList_store_row (by rfl) 51 (.tmp 2) (.tmp 73) (by rfl) w.heap.size zc0 (by rfl) (by rfl) 51 zc0 HWa.out.res (by kernel_rfl) (by rfl) (by kernel_rfl) ?_
 rw [setRow_self _ w.heap.size zc0 51 (0,0) HWa.out.res]
 go_wp2
 exact bodyPost_ret (v:=.tuple #[.agg zc0,.int .i64 (2:Int)]) (results_cell_row2 rfl _ _ w.heap.size 51 zc0 _ _ (by rfl) (by rfl) HWa.out.res robj_under rfl (by kernel_rfl)) rfl (rpost_bad (c:=2) HPR.out HWa.out.bel rfl)
set_option maxHeartbeats 4000000 in
theorem rparse_commit1 (ys:List Nat) (A:Option Addr) (cc:Nat) (w:World) (hv:Rd w (.slice A (99::ys).length cc) (99::ys)) (hb:Oc.bytes (99::ys)) (hz:(99::ys).length≤300) (hs:33≤ys.length) (hs2:ys.length < 33+32 * ys.getD 32 0) :
  Calls Tryz.prog 13 #[.slice A (99::ys).length cc] w (RPost (99::ys) w):=by
 have HSH:=Lib.hid hs
 have HS2:=Lib.hid hs2
 clear hs hs2
 obtain ⟨w2,hw2⟩:∃ w2,w2=(w.alloc (.cells zc0 51)).alloc (.cells zc0 51):=⟨_,rfl⟩
 have s1:(w.alloc (.cells zc0 51)).heap.size=w.heap.size+1:=by simp
 have HZ4:Hid (Blk w2 (w.heap.size+1) 51 zc0):=Lib.hid (by have h:=Blk.new (w.alloc (.cells zc0 51)) 51 zc0;rw [s1] at h;rw [hw2];exact h)
 have HZ2:Hid (Blk w2 w.heap.size 51 zc0):=Lib.hid (by rw [hw2];exact (Blk.new w 51 zc0).alloc _)
 have HB2:Hid (Below w.heap.size w w2):=Lib.hid (by rw [hw2];exact ((Below.refl _ _).alloc (Nat.le_refl _) _).alloc (by simp) _)
 have HST:Hid (RPW w (w2.drew.alloc (.cells zc0 51)) (w.heap.size+2) (cellsOb 0 nilV nilV nilV zid).toArray):=Lib.hid (by rw [hw2];exact rpw_start w)
 have e2:=hw2.symm
 clear hw2 s1
 obtain ⟨A1,c1,q1,hr1⟩:=sl_from hv 1 (by simp)
 rw [show (99::ys).drop 1=ys from rfl] at q1 hr1
 have HR:=Lib.hid hr1
 have HBY:=Lib.hid (bytes_tail hb)
 have HYL:Hid (ys.length < 300):=Lib.hid (by simp only [List.length_cons] at hz;omega)
 obtain ⟨b0,o0,rfl,hx0⟩:∃ b o,A=some ⟨b,o,none⟩∧∀ wx,Below w.heap.size w wx→wx.cell? ⟨b,o,none⟩=some (.int .u8 (99:Int)):=by
  obtain ⟨A',c',e,_,h⟩:=hv
  injection e with e1 _ _
  subst e1
  obtain ⟨b,o,rfl,hbl,hx⟩:=h (by simp)
  exact ⟨b,o,rfl,fun wx hb=>(hb.cell (p:=⟨b,o,none⟩) hbl).trans (by have:=hx 0 (by simp);rwa [Nat.add_zero] at this)⟩
 have i1:¬(((99::ys).length:Int) > 300):=by omega
 have i2:¬(((99::ys).length:Int)=0):=by simp only [List.length_cons];omega
 have i3:(0:Int) < ((99::ys).length:Int):=by simp only [List.length_cons];omega
 have i4:(1:Int)≤((99::ys).length:Int):=by simp only [List.length_cons];omega
 have i5:(((99::ys).length:Int) == 0)=false:=by simp only [List.length_cons];simp;omega
 clear hv hb hz hr1
 generalize (99::ys).length=nn at *
 go_enter Tryz.func13,Tryz.ntmps13
 go_wp2_with (with_reducible (show wpList _ _ _ (Oper.mk _ (Op.build _ _) _ _ _ _::_) _ _);refine pause ?_)
 unfold Paused
 change wpList _ _ _ _ _ (w.alloc (.cells zc0 51))
 refine wpList_buildK (by rfl) 51 _ (by rfl) [] (by simp) zc0 robj_empty ?_
 go_wp2_with (with_reducible (show wpList _ _ _ (Oper.mk _ (Op.store 51 _ _) _ _ _ _::_) _ _);refine pause ?_)
 unfold Paused
 change wpList _ _ _ _ _ ((w.alloc (.cells zc0 51)).alloc (.cells zc0 51))
 rw [e2]
 refine wpList_store_row rfl 51 (.tmp 4) (.tmp 10) rfl (w.heap.size+1) zc0 (by first | rfl | (simp;rfl)) rfl 51 zc0 HZ4.out (by kernel_rfl) rfl (by kernel_rfl) ?_
 rw [setRow_self w2 (w.heap.size+1) zc0 51 (0,0) HZ4.out]
 simp only [Act.put]
 go_wp2
 refine wp_region_held (S:=fun _=>True) (by kernel_rfl) ?_
 change wpAnyH _ _ _ _ _ _ _ _ w2.drew
 refine wpAnyH_take (i:=0) (v:=.agg zc0) rfl (by kernel_rfl) (by kernel_rfl) (by kernel_rfl) (fun _ _ _ h=>h) (takes_build 51 _ (by rfl) (by rfl) [] (by simp) zc0 robj_empty) trivial ?_
 try go_frame
 refine wpAnyH_take (i:=1) (v:=?_) rfl (by kernel_rfl) (by kernel_rfl) (by kernel_rfl) (fun _ _ _ h=>h) (Or.inl ⟨by rfl,?_⟩) trivial ?_
 rotate_left
 ·intro w' _;go_simp;with_reducible rfl
 try go_frame
 refine wpAnyH_take (i:=2) (v:=.slice A1 ys.length c1) rfl (by kernel_rfl) (by kernel_rfl) (by kernel_rfl) (fun _ _ _ h=>h) (takes_sliceL (.tmp 20) (.const (.int .i64 1)) (by rfl) (by rfl) _ _ _ (by rfl) (by rfl) q1) trivial ?_
 try go_frame
 refine all_one (i:=3) (by kernel_rfl) rfl (by rfl) (fun K hK=>?_)
 go_simp
 refine hK _ _ trivial ?_;clear hK K
 try go_frame
 have hsz:w2.heap.size=w.heap.size+2:=by rw [←e2];simp
 refine all_one (i:=4) (by kernel_rfl) rfl (by rfl) (fun K hK=>?_)
 refine wp_store_row 51 (.tmp 5) (.tmp 19) (by rfl) (w.heap.size+2) zc0 (by first | rfl | (rw [←hsz];rfl)) (by rfl) 51 zc0 HST.out.ob (by kernel_rfl) (by rfl) (by kernel_rfl) ?_
 change K _ (World.setRow (w2.drew.alloc (.cells zc0 51)) (w.heap.size+2) zc0)
 rw [setRow_self _ (w.heap.size+2) zc0 51 (0,0) HST.out.ob]
 refine hK _ _ trivial ?_;clear hK K
 try simp only [Act.put,List.getElem_toArray,List.getElem_cons_zero,List.getElem_cons_succ]
 refine all_one (i:=5) (by kernel_rfl) rfl (by rfl) (fun K hK=>?_)
 go_simp
 refine hK _ _ trivial ?_;clear hK K
 try go_frame
 refine wpAnyH_done (by kernel_rfl) ?_ _
 have HW:=HST
 try rw [show (w2.alloc (.cells zc0 51)).drew=w2.drew.alloc (.cells zc0 51) from rfl]
 generalize w2.drew.alloc (.cells zc0 51)=w6 at HW ⊢
 have x0:=hx0 w6 HW.out.bel
 clear hx0 q1 HST HZ2 HZ4 HB2 e2 hsz i1 i2 i4 i5
 generalize w.heap.size+2=g at HW ⊢
 have HWa:=Lib.hid (HW.out.cell 0 (.int .i64 3))
 rw [cellsOb_k0] at HWa
 have y0:w6.cell? ⟨g,0,none⟩=some (.int .i64 0):=HW.out.ob.cell 0
 have z0:=HW.out.ob.frozen 0
 have HPR0:=cm_parse ys HSH.out
 have j1:¬((ys.length:Nat):Int) < 33:=by have:=HSH.out;omega
 have j2:(32:Int) < ((ys.length:Nat):Int):=by have:=HSH.out;omega
 have HNB:=Lib.hid (show ys.getD 32 0 < 256 from byte_of HBY.out 32)
 obtain ⟨b1,o1,rfl,hx1⟩:∃ b o,A1=some ⟨b,o,none⟩∧∀ wx,Below w.heap.size w wx→wx.cell? ⟨b,o+32,none⟩=some (.int .u8 ((ys.getD 32 0:Nat):Int)):=by
  obtain ⟨A',c',e,_,h⟩:=HR.out
  injection e with e1 _ _
  subst e1
  obtain ⟨b,o,rfl,hbl,hx⟩:=h (by omega)
  exact ⟨b,o,rfl,fun wx hb=>(hb.cell (p:=⟨b,o+32,none⟩) hbl).trans (hx 32 (by omega))⟩
 have x1:=hx1 _ HWa.out.bel
 clear hx1
 have HPR1:=Lib.hid HPR0
 clear HPR0
 obtain ⟨n,hn⟩:∃ n,n=ys.getD 32 0:=⟨_,rfl⟩
 rw [←hn] at x1 HPR1 HNB HS2
 clear hn
 have hn:=HNB.out
 have m1:IntKind.i64.wrap (32 * ((n:Nat):Int))=32 * ((n:Nat):Int):=IntWalk.i64_in _ (by omega)
 have m2:IntKind.i64.wrap (33+32 * ((n:Nat):Int))=33+32 * ((n:Nat):Int):=IntWalk.i64_in _ (by omega)
 have j3:((ys.length:Nat):Int) < 33+32 * ((n:Nat):Int):=by have:=HS2.out;omega
 have HPR:=Lib.hid (HPR1.out.trans (by rw [parsGo_none n [] (ys.drop 33) (by rw [List.length_drop];have:=HS2.out;have:=HSH.out;omega)];rfl:_=Prs.bad 2))
 go_wp2_with (with_reducible (show wpList _ _ _ (Oper.mk _ (Op.load 51 _) _ _ _ _::_) _ _);refine pause ?_)
 unfold Paused
 refine wpList_row_w (by rfl) 51 (.tmp 4) (by rfl) (w.heap.size+1) (by rfl) 51 zc0 _ HWa.out.non robj_under (by rfl) (by kernel_rfl) ?_
 go_wp2_with (with_reducible (show wpList _ _ _ (Oper.mk _ (Op.store 51 _ _) _ _ _ _::_) _ _);refine pause ?_)
 unfold Paused
 refine wpList_store_row (by rfl) 51 (.tmp 2) (.tmp 84) (by rfl) w.heap.size zc0 (by rfl) (by rfl) 51 zc0 HWa.out.res (by kernel_rfl) (by rfl) (by kernel_rfl) ?_
 rw [setRow_self _ w.heap.size zc0 51 (0,0) HWa.out.res]
 go_wp2
 exact bodyPost_ret (v:=.tuple #[.agg zc0,.int .i64 (2:Int)]) (results_cell_row2 rfl _ _ w.heap.size 51 zc0 _ _ (by rfl) (by rfl) HWa.out.res robj_under rfl (by kernel_rfl)) rfl (rpost_bad (c:=2) HPR.out HWa.out.bel rfl)
set_option maxHeartbeats 4000000 in
theorem rparse_commit (ys:List Nat) (A:Option Addr) (cc:Nat) (w:World) (hv:Rd w (.slice A (99::ys).length cc) (99::ys)) (hb:Oc.bytes (99::ys)) (hz:(99::ys).length≤300) (hs:33≤ys.length) (hs2:33+32 * ys.getD 32 0≤ys.length) :
  Calls Tryz.prog 13 #[.slice A (99::ys).length cc] w (RPost (99::ys) w):=by
 have HSH:=Lib.hid hs
 have HS2:=Lib.hid hs2
 clear hs hs2
 obtain ⟨w2,hw2⟩:∃ w2,w2=(w.alloc (.cells zc0 51)).alloc (.cells zc0 51):=⟨_,rfl⟩
 have s1:(w.alloc (.cells zc0 51)).heap.size=w.heap.size+1:=by simp
 have HZ4:Hid (Blk w2 (w.heap.size+1) 51 zc0):=Lib.hid (by have h:=Blk.new (w.alloc (.cells zc0 51)) 51 zc0;rw [s1] at h;rw [hw2];exact h)
 have HZ2:Hid (Blk w2 w.heap.size 51 zc0):=Lib.hid (by rw [hw2];exact (Blk.new w 51 zc0).alloc _)
 have HB2:Hid (Below w.heap.size w w2):=Lib.hid (by rw [hw2];exact ((Below.refl _ _).alloc (Nat.le_refl _) _).alloc (by simp) _)
 have HST:Hid (RPW w (w2.drew.alloc (.cells zc0 51)) (w.heap.size+2) (cellsOb 0 nilV nilV nilV zid).toArray):=Lib.hid (by rw [hw2];exact rpw_start w)
 have e2:=hw2.symm
 clear hw2 s1
 obtain ⟨A1,c1,q1,hr1⟩:=sl_from hv 1 (by simp)
 rw [show (99::ys).drop 1=ys from rfl] at q1 hr1
 have HR:=Lib.hid hr1
 have HBY:=Lib.hid (bytes_tail hb)
 have HYL:Hid (ys.length < 300):=Lib.hid (by simp only [List.length_cons] at hz;omega)
 obtain ⟨b0,o0,rfl,hx0⟩:∃ b o,A=some ⟨b,o,none⟩∧∀ wx,Below w.heap.size w wx→wx.cell? ⟨b,o,none⟩=some (.int .u8 (99:Int)):=by
  obtain ⟨A',c',e,_,h⟩:=hv
  injection e with e1 _ _
  subst e1
  obtain ⟨b,o,rfl,hbl,hx⟩:=h (by simp)
  exact ⟨b,o,rfl,fun wx hb=>(hb.cell (p:=⟨b,o,none⟩) hbl).trans (by have:=hx 0 (by simp);rwa [Nat.add_zero] at this)⟩
 have i1:¬(((99::ys).length:Int) > 300):=by omega
 have i2:¬(((99::ys).length:Int)=0):=by simp only [List.length_cons];omega
 have i3:(0:Int) < ((99::ys).length:Int):=by simp only [List.length_cons];omega
 have i4:(1:Int)≤((99::ys).length:Int):=by simp only [List.length_cons];omega
 have i5:(((99::ys).length:Int) == 0)=false:=by simp only [List.length_cons];simp;omega
 clear hv hb hz hr1
 generalize (99::ys).length=nn at *
 go_enter Tryz.func13,Tryz.ntmps13
 go_wp2_with (with_reducible (show wpList _ _ _ (Oper.mk _ (Op.build _ _) _ _ _ _::_) _ _);refine pause ?_)
 unfold Paused
 change wpList _ _ _ _ _ (w.alloc (.cells zc0 51))
 refine wpList_buildK (by rfl) 51 _ (by rfl) [] (by simp) zc0 robj_empty ?_
 go_wp2_with (with_reducible (show wpList _ _ _ (Oper.mk _ (Op.store 51 _ _) _ _ _ _::_) _ _);refine pause ?_)
 unfold Paused
 change wpList _ _ _ _ _ ((w.alloc (.cells zc0 51)).alloc (.cells zc0 51))
 rw [e2]
 refine wpList_store_row rfl 51 (.tmp 4) (.tmp 10) rfl (w.heap.size+1) zc0 (by first | rfl | (simp;rfl)) rfl 51 zc0 HZ4.out (by kernel_rfl) rfl (by kernel_rfl) ?_
 rw [setRow_self w2 (w.heap.size+1) zc0 51 (0,0) HZ4.out]
 simp only [Act.put]
 go_wp2
 refine wp_region_held (S:=fun _=>True) (by kernel_rfl) ?_
 change wpAnyH _ _ _ _ _ _ _ _ w2.drew
 refine wpAnyH_take (i:=0) (v:=.agg zc0) rfl (by kernel_rfl) (by kernel_rfl) (by kernel_rfl) (fun _ _ _ h=>h) (takes_build 51 _ (by rfl) (by rfl) [] (by simp) zc0 robj_empty) trivial ?_
 try go_frame
 refine wpAnyH_take (i:=1) (v:=?_) rfl (by kernel_rfl) (by kernel_rfl) (by kernel_rfl) (fun _ _ _ h=>h) (Or.inl ⟨by rfl,?_⟩) trivial ?_
 rotate_left
 ·intro w' _;go_simp;with_reducible rfl
 try go_frame
 refine wpAnyH_take (i:=2) (v:=.slice A1 ys.length c1) rfl (by kernel_rfl) (by kernel_rfl) (by kernel_rfl) (fun _ _ _ h=>h) (takes_sliceL (.tmp 20) (.const (.int .i64 1)) (by rfl) (by rfl) _ _ _ (by rfl) (by rfl) q1) trivial ?_
 try go_frame
 refine all_one (i:=3) (by kernel_rfl) rfl (by rfl) (fun K hK=>?_)
 go_simp
 refine hK _ _ trivial ?_;clear hK K
 try go_frame
 have hsz:w2.heap.size=w.heap.size+2:=by rw [←e2];simp
 refine all_one (i:=4) (by kernel_rfl) rfl (by rfl) (fun K hK=>?_)
 refine wp_store_row 51 (.tmp 5) (.tmp 19) (by rfl) (w.heap.size+2) zc0 (by first | rfl | (rw [←hsz];rfl)) (by rfl) 51 zc0 HST.out.ob (by kernel_rfl) (by rfl) (by kernel_rfl) ?_
 change K _ (World.setRow (w2.drew.alloc (.cells zc0 51)) (w.heap.size+2) zc0)
 rw [setRow_self _ (w.heap.size+2) zc0 51 (0,0) HST.out.ob]
 refine hK _ _ trivial ?_;clear hK K
 try simp only [Act.put,List.getElem_toArray,List.getElem_cons_zero,List.getElem_cons_succ]
 refine all_one (i:=5) (by kernel_rfl) rfl (by rfl) (fun K hK=>?_)
 go_simp
 refine hK _ _ trivial ?_;clear hK K
 try go_frame
 refine wpAnyH_done (by kernel_rfl) ?_ _
 have HW:=HST
 try rw [show (w2.alloc (.cells zc0 51)).drew=w2.drew.alloc (.cells zc0 51) from rfl]
 generalize w2.drew.alloc (.cells zc0 51)=w6 at HW ⊢
 have x0:=hx0 w6 HW.out.bel
 clear hx0 q1 HST HZ2 HZ4 HB2 e2 hsz i1 i2 i4 i5
 generalize w.heap.size+2=g at HW ⊢
 have HWa:=Lib.hid (HW.out.cell 0 (.int .i64 3))
 rw [cellsOb_k0] at HWa
 have y0:w6.cell? ⟨g,0,none⟩=some (.int .i64 0):=HW.out.ob.cell 0
 have z0:=HW.out.ob.frozen 0
 have HPR0:=cm_parse ys HSH.out
 have j1:¬((ys.length:Nat):Int) < 33:=by have:=HSH.out;omega
 have j2:(32:Int) < ((ys.length:Nat):Int):=by have:=HSH.out;omega
 have HNB:=Lib.hid (show ys.getD 32 0 < 256 from byte_of HBY.out 32)
 obtain ⟨b1,o1,rfl,hx1⟩:∃ b o,A1=some ⟨b,o,none⟩∧∀ wx,Below w.heap.size w wx→wx.cell? ⟨b,o+32,none⟩=some (.int .u8 ((ys.getD 32 0:Nat):Int)):=by
  obtain ⟨A',c',e,_,h⟩:=HR.out
  injection e with e1 _ _
  subst e1
  obtain ⟨b,o,rfl,hbl,hx⟩:=h (by omega)
  exact ⟨b,o,rfl,fun wx hb=>(hb.cell (p:=⟨b,o+32,none⟩) hbl).trans (hx 32 (by omega))⟩
 have x1:=hx1 _ HWa.out.bel
 clear hx1
 have HPR1:=Lib.hid HPR0
 clear HPR0
 obtain ⟨n,hn⟩:∃ n,n=ys.getD 32 0:=⟨_,rfl⟩
 rw [←hn] at x1 HPR1 HNB HS2
 clear hn
 have hn:=HNB.out
 have m1:IntKind.i64.wrap (32 * ((n:Nat):Int))=32 * ((n:Nat):Int):=IntWalk.i64_in _ (by omega)
 have m2:IntKind.i64.wrap (33+32 * ((n:Nat):Int))=33+32 * ((n:Nat):Int):=IntWalk.i64_in _ (by omega)
 have j3:¬((ys.length:Nat):Int) < 33+32 * ((n:Nat):Int):=by have:=HS2.out;omega
 have HTI:=Lib.hid (id_take HBY.out (show 32≤ys.length by have:=HSH.out;omega))
 have CO:=roid_any _ c1 ys (w6.setCell ⟨g,0,none⟩ (.int .i64 3)) (HR.out.below HWa.out.bel (Nat.le_refl _)) (by have:=HSH.out;omega)
 generalize ys.take 32=tg at HPR1 HTI CO
 go_wp2_with (go_at_call 28;refine pause ?_)
 unfold Paused
 refine CO.mono ?_
 rintro e w8 ⟨rfl,hb8⟩
 have HW8:=Lib.hid (HWa.out.below hb8)
 clear hb8 CO x1 m1 m2 y0 z0 j1 j3 x0
 go_wp2_with (with_reducible (show wpList _ _ _ (Oper.mk _ (Op.store 41 _ _) _ _ _ _::_) _ _);refine pause ?_)
 unfold Paused
 refine wpList_store_mid (by rfl) 41 (.tmp 87) (.tmp 86) (by rfl) g 3 (u8s tg) (by rfl) (by rfl) (there_of HW8.out.ob (by rw [cellsOb_size _ _ _ _ _ zid_id.1,u8s_size,HTI.out.1];omega)) (by rw [u8s_size,HTI.out.1];exact id_size) (u8s_one _) ?_
 have HW9:=Lib.hid (rpw_mid HW8.out HTI.out.1)
 generalize w8.setCells g 3 (u8s tg).toList=w9 at HW9 ⊢
 have HC9:Hid (CrW w w9 g tg nilV nilV [] 0):=Lib.hid ⟨HW9.out,World.ownsRow_nil _ _ _ _⟩
 go_wp2
 have HF9:Hid (parsGo (n - ([]:List (List Nat)).length) [] ((ys.drop 33).drop (32 * ([]:List (List Nat)).length))=parsGo n [] (ys.drop 33)∧∀ p∈([]:List (List Nat)),Id32 p):=Lib.hid ⟨rfl,fun _ h=>(by cases h)⟩
 go_loopw [9] (fun j wr=>∃ (v:Value) (ps:List (List Nat)),j=.int .i64 (ps.length:Nat)∧ps.length≤n∧Hid (CrW w wr g tg v v ps ps.length)∧Hid (parsGo (n - ps.length) ps ((ys.drop 33).drop (32 * ps.length))=parsGo n [] (ys.drop 33)∧∀ p∈ps,Id32 p)) (fun j _=>n - (intOf j).toNat)
 case atStart=>exact ⟨nilV,[],rfl,Nat.zero_le _,HC9,HF9⟩
 case round=>
  obtain ⟨v,ps,rfl,hk,HCk,HFk⟩:=hrel
  by_cases hlt:ps.length < n
  ·have i6:((ps.length:Nat):Int) < (n:Int):=by omega
   have i7:(0:Int)≤((ps.length:Nat):Int):=by omega
   have i8:((ps.length:Nat):Int) < 256:=by omega
   have m1:IntKind.i64.wrap (32 * ((ps.length:Nat):Int))=32 * ((ps.length:Nat):Int):=IntWalk.i64_in _ (by omega)
   have m2:IntKind.i64.wrap (33+32 * ((ps.length:Nat):Int))=33+32 * ((ps.length:Nat):Int):=IntWalk.i64_in _ (by omega)
   have HWd:=Lib.hid (HCk.out.below (below_drewN (Below.refl _ wr) 1))
   have HCL:=Lib.hid (HWd.out.cell HTI.out.1)
   have hlen:33+32 * ps.length+32≤ys.length:=by have:=HS2.out;omega
   obtain ⟨A4,c4,q4,hr4⟩:=sl_from HR.out (33+32 * ps.length) (by omega)
   have hdl:32≤(ys.drop (33+32 * ps.length)).length:=by rw [List.length_drop];omega
   have CO:=roid_any A4 c4 (ys.drop (33+32 * ps.length)) wr.drew (hr4.below HWd.out.rpw.bel (Nat.le_refl _)) hdl
   have hdd:ys.drop (33+32 * ps.length)=(ys.drop 33).drop (32 * ps.length):=by rw [List.drop_drop]
   have HTX:=Lib.hid (id_take (Oc.bytes_drop HBY.out (33+32 * ps.length)) hdl)
   have HFX:Hid (parsGo (n - (ps++[(ys.drop (33+32 * ps.length)).take 32]).length) (ps++[(ys.drop (33+32 * ps.length)).take 32]) ((ys.drop 33).drop (32 * (ps++[(ys.drop (33+32 * ps.length)).take 32]).length))=parsGo n [] (ys.drop 33)∧∀ p∈ps++[(ys.drop (33+32 * ps.length)).take 32],Id32 p):=Lib.hid ⟨by
    have h1:=parsGo_next (n:=n) (ps:=ps) (zs:=(ys.drop 33).drop (32 * ps.length)) hlt (by rw [←hdd];exact hdl)
    rw [HFk.out.1] at h1
    rw [hdd,h1]
    congr 1
    rw [List.length_append,List.length_singleton]
    exact drop_step _ _,fun p hp=>by
    rcases List.mem_append.1 hp with hp | hp
    ·exact HFk.out.2 p hp
    ·rw [List.mem_singleton.1 hp];exact HTX.out⟩
   have q5:∀ w',(Instr.slice 25 (.slice (some ⟨b1,o1,none⟩) ys.length c1) (some (.int .i64 (33+32 * ((ps.length:Nat):Int)))) none none).run Tryz.prog w'=.ok (.slice A4 (ys.drop (33+32 * ps.length)).length c4) w':=fun w'=>by
    rw [show (33+32 * ((ps.length:Nat):Int))=((33+32 * ps.length:Nat):Int) by omega];exact q4 w'
   clear hdd hdl hlen q4 hr4 HFk
   generalize (ys.drop (33+32 * ps.length)).take 32=id at CO HTX HFX
   generalize (ys.drop (33+32 * ps.length)).length=ln at CO q5
   obtain ⟨ip,hip,hpz,hps,hpb⟩:=info_parts oid32_info
   have HIP:=Lib.hid (And.intro hip (And.intro hpz (And.intro hps hpb)))
   clear hip hpz hps hpb
   go_wp2_with fail
   refine wp_region_upto (S:=(fun w'=>w'.cell? ⟨g,35,none⟩=some v)) (b:=11) (by kernel_rfl) ?_
   change Upto _ _ _ _ _ _ _ _ _ wr.drew
   refine Upto.takeY (i:=0) (v:=?_) rfl (by kernel_rfl) (by kernel_rfl) (by kernel_rfl) (by kernel_rfl) (fun _ _ _ h=>h) (Or.inl ⟨by rfl,?_⟩) (fun _=>HCL.out) ?_
   rotate_left
   ·intro w' hS;go_simp;with_reducible rfl
   try go_frame
   refine Upto.take (i:=1) (v:=?_) rfl (by kernel_rfl) (by kernel_rfl) (by kernel_rfl) (by kernel_rfl) (fun _ _ _ h=>h) (Or.inl ⟨by rfl,?_⟩) HCL.out ?_
   rotate_left
   ·intro w' hS;go_simp;with_reducible rfl
   try go_frame
   refine Upto.takeY (i:=2) (v:=?_) rfl (by kernel_rfl) (by kernel_rfl) (by kernel_rfl) (by kernel_rfl) (fun _ _ _ h=>h) (Or.inl ⟨by rfl,?_⟩) (fun _=>HCL.out) ?_
   rotate_left
   ·intro w' hS;go_simp;with_reducible rfl
   try go_frame
   refine Upto.takeY (i:=3) (v:=?_) rfl (by kernel_rfl) (by kernel_rfl) (by kernel_rfl) (by kernel_rfl) (fun _ _ _ h=>h) (Or.inl ⟨by rfl,?_⟩) (fun _=>HCL.out) ?_
   rotate_left
   ·intro w' hS;go_simp;with_reducible rfl
   try go_frame
   refine Upto.takeY (i:=4) (v:=?_) rfl (by kernel_rfl) (by kernel_rfl) (by kernel_rfl) (by kernel_rfl) (fun _ _ _ h=>h) (Or.inl ⟨by rfl,?_⟩) (fun _=>HCL.out) ?_
   rotate_left
   ·intro w' hS;go_simp;with_reducible rfl
   try go_frame
   refine Upto.takeY (i:=5) (v:=?_) rfl (by kernel_rfl) (by kernel_rfl) (by kernel_rfl) (by kernel_rfl) (fun _ _ _ h=>h) (Or.inl ⟨by rfl,?_⟩) (fun _=>HCL.out) ?_
   rotate_left
   ·intro w' hS;go_simp;with_reducible rfl
   try go_frame
   refine Upto.takeY (i:=6) (v:=.slice A4 ln c4) rfl (by kernel_rfl) (by kernel_rfl) (by kernel_rfl) (by kernel_rfl) (fun _ _ _ h=>h) (takes_sliceL (.tmp 95) (.tmp 98) (by rfl) (by rfl) (.slice (some ⟨b1,o1,none⟩) ys.length c1) (.int .i64 (33+32 * ((ps.length:Nat):Int))) (.slice A4 ln c4) (by rfl) (by rfl) q5) (fun _=>HCL.out) ?_
   try go_frame
   refine Upto.one (i:=7) (by kernel_rfl) rfl (by rfl) (fun K hK=>?_)
   go_simp
   refine CO.mono ?_
   rintro e w10 ⟨rfl,hb⟩
   have HC10:=Lib.hid (HWd.out.below hb)
   dsimp only
   refine hK _ _ (fun _ _=>HC10.out.cell HTI.out.1) ?_;clear hK K CO hb
   try go_frame
   refine Upto.one (i:=8) (by kernel_rfl) rfl (by rfl) (fun K hK=>?_)
   refine wp_buildSliceK 49 41 1 _ (by rfl) (cellsB id).toArray ip (.agg (cellsB (List.replicate 32 0)).toArray) Tryz.underlying49 HIP.out.1 HIP.out.2.1 (by rw [HIP.out.2.2.1];decide) (by rw [HIP.out.2.2.1];decide) [(0,.agg (cellsB id).toArray)] (by go_simp;rfl) (by rw [HIP.out.2.2.1];exact fill_one 32 _ (cellsB id) (by rw [cellsB_len,HTX.out.1]) (by kernel_rfl)) ?_
   have hbb:Below w10.heap.size w10 (w10.alloc (.cells (cellsB id).toArray 41)):=(Below.refl _ _).alloc (Nat.le_refl _) _
   have HC11:=Lib.hid (HC10.out.below hbb)
   have HN11:=Lib.hid (Blk.new w10 41 (cellsB id).toArray)
   clear hbb
   refine hK _ _ (fun _ _=>HC11.out.cell HTI.out.1) ?_;clear hK K
   generalize w10.alloc (.cells (cellsB id).toArray 41)=w11 at HC11 HN11 ⊢
   generalize w10.heap.size=gx at HN11 ⊢
   try go_frame
   refine Upto.one (i:=9) (by kernel_rfl) rfl (by rfl) (fun K hK=>?_)
   refine wp_append_own (w:=w11) (.tmp 94) (.tmp 101) 49 rfl (g+1) 41 ip (.agg (cellsB (List.replicate 32 0)).toArray) 32 32 Tryz.underlying49 HIP.out.1 HIP.out.2.1 HIP.out.2.2.1 HIP.out.2.2.2 (by rfl) (by decide) v ps.length (cellsP ps) rfl HC11.out.row ⟨gx,0,none⟩ 1 1 (cellsB id) rfl (by rw [cellsB_len,HTX.out.1]) (fun j u hj=>by rw [Addr.add_mid,Nat.zero_add];exact (HN11.out.cell j).trans (by rw [List.getElem?_toArray];exact hj)) (cellsB_one id) (by unfold maxLen;omega) (by omega) HC11.out.rpw.ob.lt ?_
   intro v2 w12 ho hg _
   obtain ⟨P2,c5,rfl⟩:=own_slice ho
   have HC12:Hid (CrW w w12 g tg v (.slice P2 (ps.length+1) c5) (ps++[id]) (ps++[id]).length):=Lib.hid (HC11.out.app (by rw [cellsP_snoc,List.length_append,List.length_singleton];exact ho) hg)
   clear ho hg
   refine hK _ _ (fun _ _=>HC12.out.cell HTI.out.1) ?_;clear hK K
   try go_frame
   refine Upto.takeY (i:=10) (v:=?_) rfl (by kernel_rfl) (by kernel_rfl) (by kernel_rfl) (by kernel_rfl) (fun _ _ _ h=>h) (Or.inl ⟨by rfl,?_⟩) (fun _=>HC12.out.cell HTI.out.1) ?_
   rotate_left
   ·intro w' hS;go_simp;with_reducible rfl
   try go_frame
   have q8:w12.cell? ⟨g,35,none⟩=some v:=HC12.out.cell HTI.out.1
   have z8:w12.frozen? ⟨g,35,none⟩=false:=HC12.out.rpw.ob.frozen 35
   have HC13:=Lib.hid (HC12.out.put HTI.out.1 (.slice P2 (ps.length+1) c5))
   refine Upto.one (i:=11) (by kernel_rfl) rfl (by rfl) (fun K hK=>?_)
   go_simp
   refine hK _ _ (fun h _=>absurd rfl h) ?_;clear hK K q8 z8
   generalize w12.setCell ⟨g,35,none⟩ (.slice P2 (ps.length+1) c5)=w13 at HC13 ⊢
   try go_frame
   refine Upto.done (by kernel_rfl) ?_ _
   clear m1 m2
   go_wp2
   go_roundw
   case rel=>exact ⟨(.slice P2 (ps.length+1) c5),ps++[id],by rw [List.length_append,List.length_singleton];go_num,by rw [List.length_append,List.length_singleton];omega,HC13,HFX⟩
   case measure=>simp [intOf];omega
  ·have hke:n=ps.length:=by omega
   subst hke
   have i6:¬(((ps.length:Nat):Int) < (ps.length:Int)):=by omega
   have m1:IntKind.i64.wrap (32 * ((ps.length:Nat):Int))=32 * ((ps.length:Nat):Int):=IntWalk.i64_in _ (by omega)
   have m2:IntKind.i64.wrap (33+32 * ((ps.length:Nat):Int))=33+32 * ((ps.length:Nat):Int):=IntWalk.i64_in _ (by omega)
   obtain ⟨P,pc,hv⟩:=own_slice HCk.out.row
   subst hv
   obtain ⟨A3,c3,q4,hr4⟩:=sl_from HR.out (33+32 * ps.length) (by have:=HS2.out;omega)
   have hdd:ys.drop (33+32 * ps.length)=(ys.drop 33).drop (32 * ps.length):=by rw [List.drop_drop]
   have HPR:=Lib.hid (HPR1.out.trans (by rw [←HFk.out.1,parsGo_end ps.length ps _ rfl,←hdd];rfl:_=Prs.fin ⟨3,ys.drop (33+32 * ps.length),[],tg,ps⟩))
   have HVB:=Lib.hid (Oc.bytes_drop HBY.out (33+32 * ps.length))
   have HVL:Hid ((ys.drop (33+32 * ps.length)).length≤300):=Lib.hid (by rw [List.length_drop];have:=HYL.out;omega)
   have HR3:=Lib.hid hr4
   have q5:∀ w',(Instr.slice 25 (.slice (some ⟨b1,o1,none⟩) ys.length c1) (some (.int .i64 (33+32 * ((ps.length:Nat):Int)))) none none).run Tryz.prog w'=.ok (.slice A3 (ys.drop (33+32 * ps.length)).length c3) w':=fun w'=>by
    rw [show (33+32 * ((ps.length:Nat):Int))=((33+32 * ps.length:Nat):Int) by omega];exact q4 w'
   clear hdd q4 hr4
   generalize ys.drop (33+32 * ps.length)=vs at HPR HVB HVL HR3 q5
   have y1:wr.cell? ⟨g,1,none⟩=some nilV:=HCk.out.rpw.ob.cell 1
   have z1:=HCk.out.rpw.ob.frozen 1
   have HCt:=Lib.hid (HCk.out.text (.slice A3 vs.length c3))
   have HWb:=Lib.hid HCt.out.1
   have HFT:Hid (Ob.Fit ⟨3,vs,[],tg,ps⟩):=Lib.hid ⟨byte_of HVB.out,fun _ h=>(by cases h),HTI.out,HFk.out.2⟩
   have HHD:Hid (Ob.Held ⟨3,vs,[],tg,ps⟩):=Lib.hid ⟨fun _ h=>(by cases h),by have:=HVL.out;show vs.length≤_;omega⟩
   have HOR:Hid (ObR (g+1) w (wr.setCell ⟨g,1,none⟩ (.slice A3 vs.length c3)) ⟨3,vs,[],tg,ps⟩ (cellsOb 3 (.slice A3 vs.length c3) nilV (.slice P ps.length pc) tg).toArray A3 c3 none 0 P pc):=Lib.hid ⟨rfl,HR3.out,World.ownsRow_nil _ _ _ _,HCt.out.2,by have:=HWb.out.gt;omega⟩
   have hj2:=j2
   clear hlt hk
   go_wp2_with (with_reducible (show wpList _ _ _ (Oper.mk _ (Op.load 51 _) _ _ _ _::_) _ _);refine pause ?_)
   unfold Paused
   generalize wr.setCell ⟨g,1,none⟩ (.slice A3 vs.length c3)=wt at HWb HOR ⊢
   refine wpList_row_w (by rfl) 51 (.tmp 5) (by rfl) g (by rfl) 51 (cellsOb 3 (.slice A3 vs.length c3) nilV (.slice P ps.length pc) tg).toArray _ HWb.out.ob robj_under (by rfl) (by rw [cellsOb_size _ _ _ _ _ HFT.out.target.1];kernel_rfl) ?_
   have CR:=rright3 vs tg ps (cellsOb 3 (.slice A3 vs.length c3) nilV (.slice P ps.length pc) tg).toArray _ _ _ _ _ _ wt (HOR.out.obc HWb.out.bel) HFT.out HHD.out
   obtain ⟨br,hbr⟩:∃ br,br=Ob.right ⟨3,vs,[],tg,ps⟩:=⟨_,rfl⟩
   rw [←hbr] at CR
   have HBR:=Lib.hid hbr
   clear hbr
   go_wp2_with (go_at_call 29;refine pause ?_)
   unfold Paused
   refine CR.mono ?_
   rintro e w8 ⟨rfl,hb8⟩
   have HW8:=Lib.hid (HWb.out.below hb8)
   have HO8:=Lib.hid (HOR.out.below hb8)
   clear hb8 CR
   cases br
   ·have HPX:=Lib.hid (HPR.out.trans (show Prs.fin ⟨3,vs,[],tg,ps⟩=.bad 4 by unfold Prs.fin;rw [←HBR.out];rfl))
    go_wp2_with (with_reducible (show wpList _ _ _ (Oper.mk _ (Op.load 51 _) _ _ _ _::_) _ _);refine pause ?_)
    unfold Paused
    refine wpList_row_w (by rfl) 51 (.tmp 4) (by rfl) (w.heap.size+1) (by rfl) 51 zc0 _ HW8.out.non robj_under (by rfl) (by kernel_rfl) ?_
    go_wp2_with (with_reducible (show wpList _ _ _ (Oper.mk _ (Op.store 51 _ _) _ _ _ _::_) _ _);refine pause ?_)
    unfold Paused
    refine wpList_store_row (by rfl) 51 (.tmp 2) (.tmp 126) (by rfl) w.heap.size zc0 (by rfl) (by rfl) 51 zc0 HW8.out.res (by kernel_rfl) (by rfl) (by kernel_rfl) ?_
    rw [setRow_self _ w.heap.size zc0 51 (0,0) HW8.out.res]
    go_wp2
    exact bodyPost_ret (v:=.tuple #[.agg zc0,.int .i64 (4:Int)]) (results_cell_row2 rfl _ _ w.heap.size 51 zc0 _ _ (by rfl) (by rfl) HW8.out.res robj_under rfl (by kernel_rfl)) rfl (rpost_bad (c:=4) HPX.out HW8.out.bel rfl)
   ·have HPX:=Lib.hid (HPR.out.trans (show Prs.fin ⟨3,vs,[],tg,ps⟩=.ok ⟨3,vs,[],tg,ps⟩ by unfold Prs.fin;rw [←HBR.out];rfl))
    go_wp2_with (with_reducible (show wpList _ _ _ (Oper.mk _ (Op.load 51 _) _ _ _ _::_) _ _);refine pause ?_)
    unfold Paused
    refine wpList_row_w (by rfl) 51 (.tmp 5) (by rfl) g (by rfl) 51 (cellsOb 3 (.slice A3 vs.length c3) nilV (.slice P ps.length pc) tg).toArray _ HW8.out.ob robj_under (by rfl) (by rw [cellsOb_size _ _ _ _ _ HFT.out.target.1];kernel_rfl) ?_
    go_wp2_with (with_reducible (show wpList _ _ _ (Oper.mk _ (Op.store 51 _ _) _ _ _ _::_) _ _);refine pause ?_)
    unfold Paused
    refine wpList_store_row (by rfl) 51 (.tmp 2) (.tmp 127) (by rfl) w.heap.size (cellsOb 3 (.slice A3 vs.length c3) nilV (.slice P ps.length pc) tg).toArray (by rfl) (by rfl) 51 zc0 HW8.out.res (by rw [cellsOb_size _ _ _ _ _ HFT.out.target.1];kernel_rfl) (by rw [cellsOb_size _ _ _ _ _ HFT.out.target.1];rfl) (cellsOb_one _ _ _ _ _ _ _ _ _ _ _) ?_
    have HB9:=Lib.hid (HW8.out.res.row (cellsOb 3 (.slice A3 vs.length c3) nilV (.slice P ps.length pc) tg).toArray)
    have HL9:=Lib.hid (below_row HW8.out.bel (Nat.le_refl _) (cellsOb 3 (.slice A3 vs.length c3) nilV (.slice P ps.length pc) tg).toArray)
    have HO9:=Lib.hid (HO8.out.only (show w.heap.size < g+1 by have:=HW8.out.gt;omega) (show w8.grownBy (w8.setRow w.heap.size (cellsOb 3 (.slice A3 vs.length c3) nilV (.slice P ps.length pc) tg).toArray) (some w.heap.size) from only_setRow (World.grownBy.refl w8 _) (Or.inl rfl) _))
    generalize w8.setRow w.heap.size (cellsOb 3 (.slice A3 vs.length c3) nilV (.slice P ps.length pc) tg).toArray=w9 at HB9 HL9 HO9 ⊢
    go_wp2
    exact bodyPost_ret (v:=.tuple #[.agg (cellsOb 3 (.slice A3 vs.length c3) nilV (.slice P ps.length pc) tg).toArray,.int .i64 0]) (results_cell_row2 rfl _ _ w.heap.size 51 (cellsOb 3 (.slice A3 vs.length c3) nilV (.slice P ps.length pc) tg).toArray _ _ (by rfl) (by rfl) HB9.out robj_under rfl (by rw [cellsOb_size _ _ _ _ _ HFT.out.target.1];kernel_rfl)) rfl (rpost_ok HPX.out HL9.out rfl HFT.out HHD.out (HO9.out.obcr HL9.out))
end Go.Proofs.YtndgadjeeinedaaGreatDoor
