/- The document's Parse: trees; any bytes. -/
import Derived.Maps.RangeWalk
import Derived.Test.YtndgadjeeinedaaGreatDoorMOb40
import Derived.Test.YtndgadjeeinedaaGreatDoorMPk25s
import Derived.Test.YtndgadjeeinedaaGreatDoorMPk18s
import Derived.Test.YtndgadjeeinedaaGreatDoorMPk14s
namespace Go.Proofs.YtndgadjeeinedaaGreatDoor
open Go Go.RowKit
def lenV:Value→Nat
 | .slice _ n _=>n
 | _=>0
structure TrR (w wr:World) (g:Nat) (u v:Value) (es:List Ent) (n:Nat):Prop where
 rpw:RPW w wr g (cellsOb 2 nilV u nilV zid).toArray
 row:wr.ownsRow (g+1) 76 33 v n (cellsE es)
section
variable {w wr w':World} {g n:Nat} {u v:Value} {es fs:List Ent}
theorem TrR.below (h:TrR w wr g u v es n) (hb:Below wr.heap.size wr w'):TrR w w' g u v es n:=
 ⟨h.rpw.below hb,own_kpt h.row (Kpt.of_below hb)⟩
theorem TrR.app (h:TrR w wr g u v es n) {v2:Value} {m:Nat} (ho:w'.ownsRow (g+1) 76 33 v2 m (cellsE fs)) (hg:wr.grownBy w' v.ownBlock):TrR w w' g u v2 fs m:=
 ⟨h.rpw.own h.row (Nat.lt_succ_self g) hg,ho⟩
theorem TrR.put (h:TrR w wr g u v es n) (x:Value):TrR w (wr.setCell ⟨g,2,none⟩ x) g x v es n:=
 ⟨h.rpw.put (grown_cell _ _ _ _) (by have:=h.rpw.ob.set_ 2 x;rwa [cellsOb_k2] at this),h.row.kept (grown_cell _ _ _ _) (own_far h.row (Nat.lt_succ_self g))⟩
theorem TrR.cell (h:TrR w wr g u v es n):wr.cell? ⟨g,2,none⟩=some u:=h.rpw.ob.cell 2
end
set_option maxRecDepth 100000 in
set_option maxHeartbeats 4000000 in
theorem rparse_tree (ys:List Nat) (A:Option Addr) (cc:Nat) (w:World) (hv:Rd w (.slice A (116::ys).length cc) (116::ys)) (hb:Oc.bytes (116::ys)) (hz:(116::ys).length≤300) :
  Calls Tryz.prog 13 #[.slice A (116::ys).length cc] w (RPost (116::ys) w):=by
 obtain ⟨w2,hw2⟩:∃ w2,w2=(w.alloc (.cells zc0 51)).alloc (.cells zc0 51):=⟨_,rfl⟩
 have s1:(w.alloc (.cells zc0 51)).heap.size=w.heap.size+1:=by simp
 have HZ4:Hid (Blk w2 (w.heap.size+1) 51 zc0):=Lib.hid (by have h:=Blk.new (w.alloc (.cells zc0 51)) 51 zc0;rw [s1] at h;rw [hw2];exact h)
 have HZ2:Hid (Blk w2 w.heap.size 51 zc0):=Lib.hid (by rw [hw2];exact (Blk.new w 51 zc0).alloc _)
 have HB2:Hid (Below w.heap.size w w2):=Lib.hid (by rw [hw2];exact ((Below.refl _ _).alloc (Nat.le_refl _) _).alloc (by simp) _)
 have HST:Hid (RPW w (w2.drew.alloc (.cells zc0 51)) (w.heap.size+2) (cellsOb 0 nilV nilV nilV zid).toArray):=Lib.hid (by rw [hw2];exact rpw_start w)
 have e2:=hw2.symm
 clear hw2 s1
 obtain ⟨A1,c1,q1,hr1⟩:=sl_from hv 1 (by simp)
 rw [show (116::ys).drop 1=ys from rfl] at q1 hr1
 have HR:=Lib.hid hr1
 have HBY:=Lib.hid (bytes_tail hb)
 have HYL:Hid (ys.length < 300):=Lib.hid (by simp only [List.length_cons] at hz;omega)
 obtain ⟨b0,o0,rfl,hx0⟩:∃ b o,A=some ⟨b,o,none⟩∧∀ wx,Below w.heap.size w wx→wx.cell? ⟨b,o,none⟩=some (.int .u8 (116:Int)):=by
  obtain ⟨A',c',e,_,h⟩:=hv
  injection e with e1 _ _
  subst e1
  obtain ⟨b,o,rfl,hbl,hx⟩:=h (by simp)
  exact ⟨b,o,rfl,fun wx hb=>(hb.cell (p:=⟨b,o,none⟩) hbl).trans (by have:=hx 0 (by simp);rwa [Nat.add_zero] at this)⟩
 have i1:¬(((116::ys).length:Int) > 300):=by omega
 have i2:¬(((116::ys).length:Int)=0):=by simp only [List.length_cons];omega
 have i3:(0:Int) < ((116::ys).length:Int):=by simp only [List.length_cons];omega
 have i4:(1:Int)≤((116::ys).length:Int):=by simp only [List.length_cons];omega
 have i5:(((116::ys).length:Int) == 0)=false:=by simp only [List.length_cons];simp;omega
 clear hv hb hz hr1
 generalize (116::ys).length=nn at *
 go_enter Tryz.func13,Tryz.ntmps13
 go_wp2_with (with_reducible (show wpList _ _ _ (Oper.mk _ (Op.build _ _) _ _ _ _::_) _ _);refine pause ?_)
 unfold Paused
 change wpList _ _ _ _ _ (w.alloc (.cells zc0 51))
 refine wpList_buildK (by rfl) 51 _ (by rfl) [] (by simp) zc0 robj_empty ?_
 go_wp2_with (with_reducible (show wpList _ _ _ (Oper.mk _ (Op.store 51 _ _) _ _ _ _::_) _ _);refine pause ?_)
 unfold Paused
 change wpList _ _ _ _ _ ((w.alloc (.cells zc0 51)).alloc (.cells zc0 51))
 rw [e2]
 refine wpList_store_row rfl 51 (.tmp 4) (.tmp 10) rfl (w.heap.size+1) zc0 (by first | rfl | (simp;rfl)) rfl 51 zc0 HZ4.out (by kernel_rfl) rfl (by kernel_rfl) ?_
 rw [setRow_self w2 (w.heap.size+1) zc0 51 (0,0) HZ4.out]
 simp only [Act.put]
 go_wp2
 refine wp_region_held (S:=fun _=>True) (by kernel_rfl) ?_
 change wpAnyH _ _ _ _ _ _ _ _ w2.drew
 refine wpAnyH_take (i:=0) (v:=.agg zc0) rfl (by kernel_rfl) (by kernel_rfl) (by kernel_rfl) (fun _ _ _ h=>h) (takes_build 51 _ (by rfl) (by rfl) [] (by simp) zc0 robj_empty) trivial ?_
 try simp only [Act.put,List.getElem_toArray,List.getElem_cons_zero,List.setIfInBounds_toArray,List.set_cons_zero,List.set_cons_succ]
 refine wpAnyH_take (i:=1) (v:=?_) rfl (by kernel_rfl) (by kernel_rfl) (by kernel_rfl) (fun _ _ _ h=>h) (Or.inl ⟨by rfl,?_⟩) trivial ?_
 rotate_left
 ·intro w' _;go_simp;with_reducible rfl
 try simp only [Act.put,List.getElem_toArray,List.getElem_cons_zero,List.getElem_cons_succ,List.setIfInBounds_toArray,List.set_cons_zero,List.set_cons_succ]
 refine wpAnyH_take (i:=2) (v:=.slice A1 ys.length c1) rfl (by kernel_rfl) (by kernel_rfl) (by kernel_rfl) (fun _ _ _ h=>h) (takes_sliceL (.tmp 20) (.const (.int .i64 1)) (by rfl) (by rfl) _ _ _ (by rfl) (by rfl) q1) trivial ?_
 try simp only [Act.put,List.getElem_toArray,List.getElem_cons_zero,List.getElem_cons_succ,List.setIfInBounds_toArray,List.set_cons_zero,List.set_cons_succ]
 refine all_one (i:=3) (by kernel_rfl) rfl (by rfl) (fun K hK=>?_)
 go_simp
 refine hK _ _ trivial ?_;clear hK K
 try simp only [Act.put,List.getElem_toArray,List.getElem_cons_zero,List.getElem_cons_succ,List.setIfInBounds_toArray,List.set_cons_zero,List.set_cons_succ]
 have hsz:w2.heap.size=w.heap.size+2:=by rw [←e2];simp
 refine all_one (i:=4) (by kernel_rfl) rfl (by rfl) (fun K hK=>?_)
 refine wp_store_row 51 (.tmp 5) (.tmp 19) (by rfl) (w.heap.size+2) zc0 (by first | rfl | (rw [←hsz];rfl)) (by rfl) 51 zc0 HST.out.ob (by kernel_rfl) (by rfl) (by kernel_rfl) ?_
 change K _ (World.setRow (w2.drew.alloc (.cells zc0 51)) (w.heap.size+2) zc0)
 rw [setRow_self _ (w.heap.size+2) zc0 51 (0,0) HST.out.ob]
 refine hK _ _ trivial ?_;clear hK K
 try simp only [Act.put,List.getElem_toArray,List.getElem_cons_zero,List.getElem_cons_succ]
 refine all_one (i:=5) (by kernel_rfl) rfl (by rfl) (fun K hK=>?_)
 go_simp
 refine hK _ _ trivial ?_;clear hK K
 try simp only [Act.put,List.getElem_toArray,List.getElem_cons_zero,List.getElem_cons_succ,List.setIfInBounds_toArray,List.set_cons_zero,List.set_cons_succ]
 refine wpAnyH_done (by kernel_rfl) ?_ _
 have HW:=HST
 try rw [show (w2.alloc (.cells zc0 51)).drew=w2.drew.alloc (.cells zc0 51) from rfl]
 generalize w2.drew.alloc (.cells zc0 51)=w6 at HW ⊢
 have x0:=hx0 w6 HW.out.bel
 clear hx0 q1 HST HZ2 HZ4 HB2 e2 hsz i1 i2 i4 i5
 generalize w.heap.size+2=g at HW ⊢
 have HWa:=Lib.hid (HW.out.cell 0 (.int .i64 2))
 rw [cellsOb_k0] at HWa
 have y0:w6.cell? ⟨g,0,none⟩=some (.int .i64 0):=HW.out.ob.cell 0
 have z0:=HW.out.ob.frozen 0
 have HPR:=Lib.hid (tr_parse ys)
 have HT0:Hid (TrR w (w6.setCell ⟨g,0,none⟩ (.int .i64 2)) g nilV nilV [] 0):=Lib.hid ⟨HWa.out,World.ownsRow_nil _ _ _ _⟩
 go_wp2
 have HF0:Hid (entsOf [] ys=entsOf [] ys∧(∀ e∈([]:List Ent),Id32 e.id∧e.name.size≤300)∧Oc.bytes ys∧([]:List Ent).length+ys.length≤300):=Lib.hid ⟨rfl,fun _ h=>(by cases h),HBY.out,by have:=HYL.out;simp only [List.length_nil];omega⟩
 clear y0 z0 x0
 go_loopw [6] (fun x wr=>∃ (A':Option Addr) (c':Nat) (zs:List Nat) (v:Value) (es:List Ent),x=.slice A' zs.length c'∧Hid (Rd w (.slice A' zs.length c') zs)∧Hid (TrR w wr g v v es es.length)∧Hid (entsOf es zs=entsOf [] ys∧(∀ e∈es,Id32 e.id∧e.name.size≤300)∧Oc.bytes zs∧es.length+zs.length≤300)) (fun x _=>lenV x)
 case atStart=>exact ⟨A1,c1,ys,nilV,[],rfl,HR,HT0,HF0⟩
 case round=>
  obtain ⟨A',cz,zs,v,es,rfl,HRz,HT,HFk⟩:=hrel
  obtain _ | ⟨m,yt⟩:=zs
  ·have HEND:=Lib.hid (HPR.out.trans (by rw [←HFk.out.1,entsOf_nil];rfl:_=Prs.fin ⟨2,[],es,zid,[]⟩))
   obtain ⟨E,ec,hv⟩:=own_slice HT.out.row
   subst hv
   have HWb:=Lib.hid HT.out.rpw
   have HOR:Hid (ObR (g+1) w wr ⟨2,[],es,zid,[]⟩ (cellsOb 2 nilV (.slice E es.length ec) nilV zid).toArray none 0 E ec none 0):=Lib.hid ⟨rfl,⟨none,0,rfl,Nat.le_refl _,fun h=>absurd h (by simp)⟩,HT.out.row,World.ownsRow_nil _ _ _ _,by have:=HWb.out.gt;omega⟩
   have HFT:Hid (Ob.Fit ⟨2,[],es,zid,[]⟩):=Lib.hid ⟨byte_of (fun _ h=>(by cases h)),fun e h=>(HFk.out.2.1 e h).1,zid_id,fun _ h=>(by cases h)⟩
   have HHD:Hid (Ob.Held ⟨2,[],es,zid,[]⟩):=Lib.hid ⟨fun e h=>by have:=(HFk.out.2.1 e h).2;omega,by show (0:Nat)≤_;omega⟩
   clear HT
   go_wp2_with (with_reducible (show wpList _ _ _ (Oper.mk _ (Op.load 51 _) _ _ _ _::_) _ _);refine pause ?_)
   unfold Paused
   refine wpList_row_w (by rfl) 51 (.tmp 5) (by rfl) g (by rfl) 51 (cellsOb 2 nilV (.slice E es.length ec) nilV zid).toArray _ HWb.out.ob robj_under (by rfl) (by rw [cellsOb_size _ _ _ _ _ HFT.out.target.1];kernel_rfl) ?_
   have CR:=rright2 es (cellsOb 2 nilV (.slice E es.length ec) nilV zid).toArray _ _ _ _ _ _ wr (HOR.out.obc HWb.out.bel) HFT.out HHD.out
   obtain ⟨br,hbr⟩:∃ br,br=Ob.right ⟨2,[],es,zid,[]⟩:=⟨_,rfl⟩
   rw [←hbr] at CR
   have HBR:=Lib.hid hbr
   clear hbr
   go_wp2_with (go_at_call 29;refine pause ?_)
   unfold Paused
   refine CR.mono ?_
   rintro e w8 ⟨rfl,hb8⟩
   have HW8:=Lib.hid (HWb.out.below hb8)
   have HO8:=Lib.hid (HOR.out.below hb8)
   clear hb8 CR
   cases br
   ·have HPX:=Lib.hid (HEND.out.trans (show Prs.fin ⟨2,[],es,zid,[]⟩=.bad 4 by unfold Prs.fin;rw [←HBR.out];rfl))
    go_wp2_with (with_reducible (show wpList _ _ _ (Oper.mk _ (Op.load 51 _) _ _ _ _::_) _ _);refine pause ?_)
    unfold Paused
    refine wpList_row_w (by rfl) 51 (.tmp 4) (by rfl) (w.heap.size+1) (by rfl) 51 zc0 _ HW8.out.non robj_under (by rfl) (by kernel_rfl) ?_
    go_wp2_with (with_reducible (show wpList _ _ _ (Oper.mk _ (Op.store 51 _ _) _ _ _ _::_) _ _);refine pause ?_)
    unfold Paused
    refine wpList_store_row (by rfl) 51 (.tmp 2) (.tmp 126) (by rfl) w.heap.size zc0 (by rfl) (by rfl) 51 zc0 HW8.out.res (by kernel_rfl) (by rfl) (by kernel_rfl) ?_
    rw [setRow_self _ w.heap.size zc0 51 (0,0) HW8.out.res]
    go_wp2
    exact bodyPost_ret (v:=.tuple #[.agg zc0,.int .i64 (4:Int)]) (results_cell_row2 rfl _ _ w.heap.size 51 zc0 _ _ (by rfl) (by rfl) HW8.out.res robj_under rfl (by kernel_rfl)) rfl (rpost_bad (c:=4) HPX.out HW8.out.bel rfl)
   ·have HPX:=Lib.hid (HEND.out.trans (show Prs.fin ⟨2,[],es,zid,[]⟩=.ok ⟨2,[],es,zid,[]⟩ by unfold Prs.fin;rw [←HBR.out];rfl))
    go_wp2_with (with_reducible (show wpList _ _ _ (Oper.mk _ (Op.load 51 _) _ _ _ _::_) _ _);refine pause ?_)
    unfold Paused
    refine wpList_row_w (by rfl) 51 (.tmp 5) (by rfl) g (by rfl) 51 (cellsOb 2 nilV (.slice E es.length ec) nilV zid).toArray _ HW8.out.ob robj_under (by rfl) (by rw [cellsOb_size _ _ _ _ _ HFT.out.target.1];kernel_rfl) ?_
    go_wp2_with (with_reducible (show wpList _ _ _ (Oper.mk _ (Op.store 51 _ _) _ _ _ _::_) _ _);refine pause ?_)
    unfold Paused
    refine wpList_store_row (by rfl) 51 (.tmp 2) (.tmp 127) (by rfl) w.heap.size (cellsOb 2 nilV (.slice E es.length ec) nilV zid).toArray (by rfl) (by rfl) 51 zc0 HW8.out.res (by rw [cellsOb_size _ _ _ _ _ HFT.out.target.1];kernel_rfl) (by rw [cellsOb_size _ _ _ _ _ HFT.out.target.1];rfl) (cellsOb_one _ _ _ _ _ _ _ _ _ _ _) ?_
    have HB9:=Lib.hid (HW8.out.res.row (cellsOb 2 nilV (.slice E es.length ec) nilV zid).toArray)
    have HL9:=Lib.hid (below_row HW8.out.bel (Nat.le_refl _) (cellsOb 2 nilV (.slice E es.length ec) nilV zid).toArray)
    have HO9:=Lib.hid (HO8.out.only (show w.heap.size < g+1 by have:=HW8.out.gt;omega) (show w8.grownBy (w8.setRow w.heap.size (cellsOb 2 nilV (.slice E es.length ec) nilV zid).toArray) (some w.heap.size) from only_setRow (World.grownBy.refl w8 _) (Or.inl rfl) _))
    generalize w8.setRow w.heap.size (cellsOb 2 nilV (.slice E es.length ec) nilV zid).toArray=w9 at HB9 HL9 HO9 ⊢
    go_wp2
    exact bodyPost_ret (v:=.tuple #[.agg (cellsOb 2 nilV (.slice E es.length ec) nilV zid).toArray,.int .i64 0]) (results_cell_row2 rfl _ _ w.heap.size 51 (cellsOb 2 nilV (.slice E es.length ec) nilV zid).toArray _ _ (by rfl) (by rfl) HB9.out robj_under rfl (by rw [cellsOb_size _ _ _ _ _ HFT.out.target.1];kernel_rfl)) rfl (rpost_ok HPX.out HL9.out rfl HFT.out HHD.out (HO9.out.obcr HL9.out))
  ·have hm:m < 256:=HFk.out.2.2.1 m (List.mem_cons_self ..)
   have HYT:=Lib.hid (bytes_tail HFk.out.2.2.1)
   have HYZ:Hid (es.length+yt.length < 300):=Lib.hid (by have:=HFk.out.2.2.2;simp only [List.length_cons] at this;omega)
   obtain ⟨b2,o2,rfl,hx2⟩:∃ b o,A'=some ⟨b,o,none⟩∧∀ wx,Below w.heap.size w wx→wx.cell? ⟨b,o,none⟩=some (.int .u8 ((m:Nat):Int)):=by
    obtain ⟨A2,c2,e,_,h⟩:=HRz.out
    injection e with e1 _ _
    subst e1
    obtain ⟨b,o,rfl,hbl,hx⟩:=h (by simp)
    exact ⟨b,o,rfl,fun wx hb=>(hb.cell (p:=⟨b,o,none⟩) hbl).trans (by have:=hx 0 (by simp);rwa [Nat.add_zero] at this)⟩
   have x0:=hx2 _ HT.out.rpw.bel
   clear hx2
   have j0:((((m::yt).length:Nat):Int)) > 0:=by simp only [List.length_cons];omega
   have a1:IntKind.i64.wrap (((m:Nat):Int)+1)=((m:Nat):Int)+1:=IntWalk.i64_in _ (by omega)
   have a2:IntKind.i64.wrap (((m:Nat):Int)+33)=((m:Nat):Int)+33:=IntWalk.i64_in _ (by omega)
   by_cases hs1:yt.length < m+32
   ·have j1:((((m::yt).length:Nat):Int)) < ((m:Nat):Int)+33:=by simp only [List.length_cons];omega
    have HPX:=Lib.hid (HPR.out.trans (by rw [←HFk.out.1,entsOf_short hs1];rfl:_=Prs.bad 2))
    have HWx:=Lib.hid HT.out.rpw
    generalize (m::yt).length=lz at *
    go_wp2_with (with_reducible (show wpList _ _ _ (Oper.mk _ (Op.load 51 _) _ _ _ _::_) _ _);refine pause ?_)
    unfold Paused
    refine wpList_row_w (by rfl) 51 (.tmp 4) (by rfl) (w.heap.size+1) (by rfl) 51 zc0 _ HWx.out.non robj_under (by rfl) (by kernel_rfl) ?_
    go_wp2_with (with_reducible (show wpList _ _ _ (Oper.mk _ (Op.store 51 _ _) _ _ _ _::_) _ _);refine pause ?_)
    unfold Paused
    refine wpList_store_row (by rfl) 51 (.tmp 2) (.tmp 46) (by rfl) w.heap.size zc0 (by rfl) (by rfl) 51 zc0 HWx.out.res (by kernel_rfl) (by rfl) (by kernel_rfl) ?_
    rw [setRow_self _ w.heap.size zc0 51 (0,0) HWx.out.res]
    go_wp2
    exact bodyPost_ret (v:=.tuple #[.agg zc0,.int .i64 (2:Int)]) (results_cell_row2 rfl _ _ w.heap.size 51 zc0 _ _ (by rfl) (by rfl) HWx.out.res robj_under rfl (by kernel_rfl)) rfl (rpost_bad (c:=2) HPX.out HWx.out.bel rfl)
   ·have j1:¬(((((m::yt).length:Nat):Int)) < ((m:Nat):Int)+33):=by simp only [List.length_cons];omega
    obtain ⟨AN,cN,qn,hrn⟩:=sl_mid HRz.out 1 m (by simp only [List.length_cons];omega) (hi:=((m:Nat):Int)+1) (by omega)
    obtain ⟨AI,cI,qi,hri⟩:=sl_from HRz.out (m+1) (by simp only [List.length_cons];omega)
    obtain ⟨AR,cR,qr,hrr⟩:=sl_from HRz.out (m+33) (by simp only [List.length_cons];omega)
    have eN:((m::yt).drop 1).take m=yt.take m:=rfl
    have eI:(m::yt).drop (m+1)=yt.drop m:=rfl
    have eR:(m::yt).drop (m+33)=yt.drop (m+32):=rfl
    rw [eN] at hrn
    rw [eI] at qi hri
    rw [eR] at qr hrr
    have qi2:∀ w',(Instr.slice 25 (.slice (some ⟨b2,o2,none⟩) (m::yt).length cz) (some (.int .i64 (((m:Nat):Int)+1))) none none).run Tryz.prog w'=.ok (.slice AI (yt.drop m).length cI) w':=fun w'=>by
     rw [show (((m:Nat):Int)+1)=((m+1:Nat):Int) by omega];exact qi w'
    have qr2:∀ w',(Instr.slice 25 (.slice (some ⟨b2,o2,none⟩) (m::yt).length cz) (some (.int .i64 (((m:Nat):Int)+33))) none none).run Tryz.prog w'=.ok (.slice AR (yt.drop (m+32)).length cR) w':=fun w'=>by
     rw [show (((m:Nat):Int)+33)=((m+33:Nat):Int) by omega];exact qr w'
    have hdl:32≤(yt.drop m).length:=by rw [List.length_drop];omega
    have HML:=Lib.hid (show (yt.take m).length=m by rw [List.length_take];omega)
    have HWd:=Lib.hid (HT.out.below (below_drewN (Below.refl _ wr) 1))
    have CO:=roid_any AI cI (yt.drop m) wr.drew (hri.below HWd.out.rpw.bel (Nat.le_refl _)) hdl
    have HTX:=Lib.hid (id_take (Oc.bytes_drop HYT.out m) hdl)
    have HRN:=Lib.hid hrn
    have HRR:=Lib.hid hrr
    have HFX:Hid (entsOf (es++[⟨textOf (yt.take m),(yt.drop m).take 32⟩]) (yt.drop (m+32))=entsOf [] ys∧(∀ e∈es++[⟨textOf (yt.take m),(yt.drop m).take 32⟩],Id32 e.id∧e.name.size≤300)∧Oc.bytes (yt.drop (m+32))∧(es++[(⟨textOf (yt.take m),(yt.drop m).take 32⟩:Ent)]).length+(yt.drop (m+32)).length≤300):=Lib.hid ⟨by rw [←HFk.out.1,entsOf_next (by omega)];rfl,fun e he=>by
     rcases List.mem_append.1 he with he | he
     ·exact HFk.out.2.1 e he
     ·rw [List.mem_singleton.1 he];exact ⟨HTX.out,by show (textOf (yt.take m)).size≤300;rw [textOf_size,HML.out];omega⟩,Oc.bytes_drop HYT.out _,by have:=HYZ.out;rw [List.length_append,List.length_singleton,List.length_drop];omega⟩
    have HLX:Hid ((yt.drop (m+32)).length < (m::yt).length):=Lib.hid (by rw [List.length_drop,List.length_cons];omega)
    have HSS:Hid (wr.drew.cell? ⟨g,2,none⟩=some v∧Rd wr.drew (.slice AN m cN) (yt.take m)):=Lib.hid ⟨HWd.out.cell,hrn.below HWd.out.rpw.bel (Nat.le_refl _)⟩
    clear hdl hrn hri hrr qi qr eN eI eR hs1 HFk
    generalize yt.take m=nm at HML HRN HFX HSS
    generalize (yt.drop m).take 32=id at CO HTX HFX
    generalize (yt.drop m).length=li at CO qi2
    generalize yt.drop (m+32)=zz at HRR HFX HLX qr2
    generalize (m::yt).length=lz at *
    obtain ⟨ie,hie,hez,hes,heb⟩:=info_parts ent_info
    have HIE:=Lib.hid (And.intro hie (And.intro hez (And.intro hes heb)))
    clear hie hez hes heb
    obtain ⟨en,hen⟩:∃ en:Ent,en=⟨textOf nm,id⟩:=⟨_,rfl⟩
    rw [←hen] at HFX
    have HID:Hid (Id32 en.id):=Lib.hid (by rw [hen];exact HTX.out)
    have HEB:=Lib.hid (rent_built en HID.out)
    have HEN:Hid (en.name=textOf nm∧en.id=id):=Lib.hid (by rw [hen];exact ⟨rfl,rfl⟩)
    rw [HEN.out.1,HEN.out.2] at HEB
    clear hen
    go_wp2_with fail
    refine wp_region_upto (S:=(fun w'=>w'.cell? ⟨g,2,none⟩=some v∧Rd w' (.slice AN m cN) nm)) (b:=16) (by kernel_rfl) ?_
    change Upto _ _ _ _ _ _ _ _ _ wr.drew
    refine Upto.takeY (i:=0) (v:=?_) rfl (by kernel_rfl) (by kernel_rfl) (by kernel_rfl) (by kernel_rfl) (fun _ _ _ h=>h) (Or.inl ⟨by rfl,?_⟩) (fun _=>HSS.out) ?_
    rotate_left
    ·intro w' hS;go_simp;with_reducible rfl
    try simp only [Act.put,List.getElem_toArray,List.getElem_cons_zero,List.setIfInBounds_toArray,List.set_cons_zero,List.set_cons_succ]
    refine Upto.take (i:=1) (v:=?_) rfl (by kernel_rfl) (by kernel_rfl) (by kernel_rfl) (by kernel_rfl) (fun _ _ _ h=>h) (Or.inl ⟨by rfl,?_⟩) HSS.out ?_
    rotate_left
    ·intro w' hS;have q0:=hS.1;go_simp;with_reducible rfl
    try simp only [Act.put,List.getElem_toArray,List.getElem_cons_zero,List.getElem_cons_succ,List.setIfInBounds_toArray,List.set_cons_zero,List.set_cons_succ]
    refine Upto.takeY (i:=2) (v:=?_) rfl (by kernel_rfl) (by kernel_rfl) (by kernel_rfl) (by kernel_rfl) (fun _ _ _ h=>h) (Or.inl ⟨by rfl,?_⟩) (fun _=>HSS.out) ?_
    rotate_left
    ·intro w' hS;go_simp;with_reducible rfl
    try simp only [Act.put,List.getElem_toArray,List.getElem_cons_zero,List.getElem_cons_succ,List.setIfInBounds_toArray,List.set_cons_zero,List.set_cons_succ]
    refine Upto.takeY (i:=3) (v:=?_) rfl (by kernel_rfl) (by kernel_rfl) (by kernel_rfl) (by kernel_rfl) (fun _ _ _ h=>h) (Or.inl ⟨by rfl,?_⟩) (fun _=>HSS.out) ?_
    rotate_left
    ·intro w' hS;go_simp;with_reducible rfl
    try simp only [Act.put,List.getElem_toArray,List.getElem_cons_zero,List.getElem_cons_succ,List.setIfInBounds_toArray,List.set_cons_zero,List.set_cons_succ]
    refine Upto.takeY (i:=4) (v:=?_) rfl (by kernel_rfl) (by kernel_rfl) (by kernel_rfl) (by kernel_rfl) (fun _ _ _ h=>h) (Or.inl ⟨by rfl,?_⟩) (fun _=>HSS.out) ?_
    rotate_left
    ·intro w' hS;go_simp;with_reducible rfl
    try simp only [Act.put,List.getElem_toArray,List.getElem_cons_zero,List.getElem_cons_succ,List.setIfInBounds_toArray,List.set_cons_zero,List.set_cons_succ]
    refine Upto.takeY (i:=5) (v:=.slice AN m cN) rfl (by kernel_rfl) (by kernel_rfl) (by kernel_rfl) (by kernel_rfl) (fun _ _ _ h=>h) (takes_sliceM (.tmp 49) (.const (.int .i64 1)) (.tmp 51) (by rfl) (by rfl) (.slice (some ⟨b2,o2,none⟩) lz cz) (.int .i64 1) (.int .i64 (((m:Nat):Int)+1)) (.slice AN m cN) (by rfl) (by rfl) (by rfl) qn) (fun _=>HSS.out) ?_
    try simp only [Act.put,List.getElem_toArray,List.getElem_cons_zero,List.getElem_cons_succ,List.setIfInBounds_toArray,List.set_cons_zero,List.set_cons_succ]
    refine Upto.take (i:=6) (v:=?_) rfl (by kernel_rfl) (by kernel_rfl) (by kernel_rfl) (by kernel_rfl) (fun _ _ _ h=>h) (Or.inl ⟨by rfl,?_⟩) HSS.out ?_
    rotate_left
    ·intro w' hS;have q0:=conv_rd hS.2;go_simp;with_reducible rfl
    try simp only [Act.put,List.getElem_toArray,List.getElem_cons_zero,List.getElem_cons_succ,List.setIfInBounds_toArray,List.set_cons_zero,List.set_cons_succ]
    refine Upto.takeY (i:=7) (v:=?_) rfl (by kernel_rfl) (by kernel_rfl) (by kernel_rfl) (by kernel_rfl) (fun _ _ _ h=>h) (Or.inl ⟨by rfl,?_⟩) (fun _=>HSS.out) ?_
    rotate_left
    ·intro w' hS;go_simp;with_reducible rfl
    try simp only [Act.put,List.getElem_toArray,List.getElem_cons_zero,List.getElem_cons_succ,List.setIfInBounds_toArray,List.set_cons_zero,List.set_cons_succ]
    refine Upto.takeY (i:=8) (v:=?_) rfl (by kernel_rfl) (by kernel_rfl) (by kernel_rfl) (by kernel_rfl) (fun _ _ _ h=>h) (Or.inl ⟨by rfl,?_⟩) (fun _=>HSS.out) ?_
    rotate_left
    ·intro w' hS;go_simp;with_reducible rfl
    try simp only [Act.put,List.getElem_toArray,List.getElem_cons_zero,List.getElem_cons_succ,List.setIfInBounds_toArray,List.set_cons_zero,List.set_cons_succ]
    refine Upto.takeY (i:=9) (v:=?_) rfl (by kernel_rfl) (by kernel_rfl) (by kernel_rfl) (by kernel_rfl) (fun _ _ _ h=>h) (Or.inl ⟨by rfl,?_⟩) (fun _=>HSS.out) ?_
    rotate_left
    ·intro w' hS;go_simp;with_reducible rfl
    try simp only [Act.put,List.getElem_toArray,List.getElem_cons_zero,List.getElem_cons_succ,List.setIfInBounds_toArray,List.set_cons_zero,List.set_cons_succ]
    refine Upto.takeY (i:=10) (v:=.slice AI li cI) rfl (by kernel_rfl) (by kernel_rfl) (by kernel_rfl) (by kernel_rfl) (fun _ _ _ h=>h) (takes_sliceL (.tmp 54) (.tmp 56) (by rfl) (by rfl) (.slice (some ⟨b2,o2,none⟩) lz cz) (.int .i64 (((m:Nat):Int)+1)) (.slice AI li cI) (by rfl) (by rfl) qi2) (fun _=>HSS.out) ?_
    try simp only [Act.put,List.getElem_toArray,List.getElem_cons_zero,List.getElem_cons_succ,List.setIfInBounds_toArray,List.set_cons_zero,List.set_cons_succ]
    refine Upto.one (i:=11) (by kernel_rfl) rfl (by rfl) (fun K hK=>?_)
    go_simp
    refine CO.mono ?_
    rintro e w10 ⟨rfl,hb⟩
    have HC10:=Lib.hid (HWd.out.below hb)
    dsimp only
    refine hK _ _ (fun _ _=>⟨HC10.out.cell,HRN.out.below HC10.out.rpw.bel (Nat.le_refl _)⟩) ?_;clear hK K CO hb
    try simp only [Act.put,List.getElem_toArray,List.getElem_cons_zero,List.getElem_cons_succ,List.setIfInBounds_toArray,List.set_cons_zero,List.set_cons_succ]
    refine Upto.one (i:=12) (by kernel_rfl) rfl (by rfl) (fun K hK=>?_)
    refine wp_buildK 76 _ (by rfl) [(0,.string (textOf nm)),(1,.agg (cellsB id).toArray)] (by go_simp;rfl) (cellsE1 en).toArray HEB.out ?_
    refine hK _ _ (fun _ _=>⟨HC10.out.cell,HRN.out.below HC10.out.rpw.bel (Nat.le_refl _)⟩) ?_;clear hK K
    try simp only [Act.put,List.getElem_toArray,List.getElem_cons_zero,List.getElem_cons_succ,List.setIfInBounds_toArray,List.set_cons_zero,List.set_cons_succ]
    refine Upto.one (i:=13) (by kernel_rfl) rfl (by rfl) (fun K hK=>?_)
    refine wp_buildSliceK 48 76 1 _ (by rfl) (cellsE1 en).toArray ie (.agg (cellsE1 ⟨⟨#[]⟩,List.replicate 32 0⟩).toArray) Tryz.underlying48 HIE.out.1 HIE.out.2.1 (by rw [HIE.out.2.2.1];decide) (by rw [HIE.out.2.2.1];decide) [(0,.agg (cellsE1 en).toArray)] (by go_simp) (by rw [HIE.out.2.2.1];exact fill_one 33 _ (cellsE1 en) (cellsE1_len HID.out) (by kernel_rfl)) ?_
    have hbb:Below w10.heap.size w10 (w10.alloc (.cells (cellsE1 en).toArray 76)):=(Below.refl _ _).alloc (Nat.le_refl _) _
    have HC11:=Lib.hid (HC10.out.below hbb)
    have HN11:=Lib.hid (Blk.new w10 76 (cellsE1 en).toArray)
    clear hbb
    refine hK _ _ (fun _ _=>⟨HC11.out.cell,HRN.out.below HC11.out.rpw.bel (Nat.le_refl _)⟩) ?_;clear hK K
    generalize w10.alloc (.cells (cellsE1 en).toArray 76)=w11 at HC11 HN11 ⊢
    generalize w10.heap.size=gx at HN11 ⊢
    try simp only [Act.put,List.getElem_toArray,List.getElem_cons_zero,List.getElem_cons_succ,List.setIfInBounds_toArray,List.set_cons_zero,List.set_cons_succ]
    refine Upto.one (i:=14) (by kernel_rfl) rfl (by rfl) (fun K hK=>?_)
    refine wp_append_own (w:=w11) (.tmp 48) (.tmp 60) 48 rfl (g+1) 76 ie (.agg (cellsE1 ⟨⟨#[]⟩,List.replicate 32 0⟩).toArray) 33 48 Tryz.underlying48 HIE.out.1 HIE.out.2.1 HIE.out.2.2.1 HIE.out.2.2.2 (by rfl) (by decide) v es.length (cellsE es) rfl HC11.out.row ⟨gx,0,none⟩ 1 1 (cellsE1 en) rfl (by rw [cellsE1_len HID.out]) (fun j u hj=>by rw [Addr.add_mid,Nat.zero_add];exact (HN11.out.cell j).trans (by rw [List.getElem?_toArray];exact hj)) (cellsE1_one en) (by have:=HYZ.out;unfold maxLen;omega) (by have:=HYZ.out;omega) HC11.out.rpw.ob.lt ?_
    intro v2 w12 ho hg _
    obtain ⟨P2,c5,rfl⟩:=own_slice ho
    have HC12:Hid (TrR w w12 g v (.slice P2 (es.length+1) c5) (es++[en]) (es++[en]).length):=Lib.hid (HC11.out.app (by rw [cellsE_add,List.length_append,List.length_singleton];exact ho) hg)
    clear ho hg
    refine hK _ _ (fun _ _=>⟨HC12.out.cell,HRN.out.below HC12.out.rpw.bel (Nat.le_refl _)⟩) ?_;clear hK K
    try simp only [Act.put,List.getElem_toArray,List.getElem_cons_zero,List.getElem_cons_succ,List.setIfInBounds_toArray,List.set_cons_zero,List.set_cons_succ]
    refine Upto.takeY (i:=15) (v:=?_) rfl (by kernel_rfl) (by kernel_rfl) (by kernel_rfl) (by kernel_rfl) (fun _ _ _ h=>h) (Or.inl ⟨by rfl,?_⟩) (fun _=>⟨HC12.out.cell,HRN.out.below HC12.out.rpw.bel (Nat.le_refl _)⟩) ?_
    rotate_left
    ·intro w' hS;go_simp;with_reducible rfl
    try simp only [Act.put,List.getElem_toArray,List.getElem_cons_zero,List.getElem_cons_succ,List.setIfInBounds_toArray,List.set_cons_zero,List.set_cons_succ]
    have q8:w12.cell? ⟨g,2,none⟩=some v:=HC12.out.cell
    have z8:w12.frozen? ⟨g,2,none⟩=false:=HC12.out.rpw.ob.frozen 2
    have HC13:=Lib.hid (HC12.out.put (.slice P2 (es.length+1) c5))
    refine Upto.one (i:=16) (by kernel_rfl) rfl (by rfl) (fun K hK=>?_)
    go_simp
    refine hK _ _ (fun h _=>absurd rfl h) ?_;clear hK K q8 z8
    generalize w12.setCell ⟨g,2,none⟩ (.slice P2 (es.length+1) c5)=w13 at HC13 ⊢
    try simp only [Act.put,List.getElem_toArray,List.getElem_cons_zero,List.getElem_cons_succ,List.setIfInBounds_toArray,List.set_cons_zero,List.set_cons_succ]
    refine Upto.done (by kernel_rfl) ?_ _
    clear x0 j0 j1 qn qi2
    go_wp2
    go_roundw
    case rel=>exact ⟨AR,cR,zz,(.slice P2 (es.length+1) c5),es++[en],rfl,HRR,HC13,HFX⟩
    case measure=>exact HLX.out
theorem rparse_any (xs:List Nat) (A:Option Addr) (cc:Nat) (w:World) (hv:Rd w (.slice A xs.length cc) xs) (hb:Oc.bytes xs) (hz:xs.length≤300) :
  Calls Tryz.prog 13 #[.slice A xs.length cc] w (RPost xs w):=by
 obtain _ | ⟨c,ys⟩:=xs
 ·exact rparse_nil A cc w
 ·by_cases h1:c=98
  ·subst h1;exact rparse_blob ys A cc w hv hb hz
  ·by_cases h2:c=116
   ·subst h2;exact rparse_tree ys A cc w hv hb hz
   ·by_cases h3:c=99
    ·subst h3
     rcases Nat.lt_or_ge ys.length 33 with h4 | h4
     ·exact rparse_commit0 ys A cc w hv hb hz h4
     ·rcases Nat.lt_or_ge ys.length (33+32 * ys.getD 32 0) with h5 | h5
      ·exact rparse_commit1 ys A cc w hv hb hz h4 h5
      ·exact rparse_commit ys A cc w hv hb hz h4 h5
    ·by_cases h4:c=103
     ·subst h4
      rcases Nat.lt_or_ge ys.length 32 with h5 | h5
      ·exact rparse_tag0 ys A cc w hv hb hz h5
      ·exact rparse_tag ys A cc w hv hb hz h5
     ·exact rparse_kind c ys A cc w hv hb hz h1 h2 h3 h4
end Go.Proofs.YtndgadjeeinedaaGreatDoor
/- The document's Decode of packs. -/
namespace Go.Proofs.YtndgadjeeinedaaGreatDoor
open Go Go.RowKit
theorem fnd_isSome (out:List Pk.It) (id:List Nat):(Pk.find (out.map Pk.It.item) id).isSome=(Pk.idx out id out.length).isSome:=by
 rw [←Pk.fnd_item,(Pk.idx_all out id).1,Option.isSome_map]
 cases h:Pk.idx out id out.length with
 | none=>rfl
 | some i=>simp [List.getElem?_eq_getElem ((Pk.idx_all out id).2 i h)]
namespace Pk
theorem find_some_from (id:List Nat):∀ (l:List Item) (o:Option Item),((l.foldl (fun o p=>if id=Sha.sum p.1 then some p else o) o).isSome=true↔(o.isSome=true∨∃ p∈l,id=Sha.sum p.1))
 | [],o=>by simp
 | p::l,o=>by
  rw [List.foldl_cons,find_some_from id l]
  by_cases h:id=Sha.sum p.1
  ·rw [if_pos h]
   simp [h]
  ·rw [if_neg h]
   simp [h]
theorem find_some (l:List Item) (id:List Nat):(find l id).isSome=true↔∃ p∈l,id=Sha.sum p.1:=by
 unfold find
 rw [find_some_from]
 simp
theorem find_texts {l l':List Item} (h:l.map (·.1)=l'.map (·.1)) (id:List Nat):(find l id).isSome=(find l' id).isSome:=by
 have key:∀ {a b:List Item},a.map (·.1)=b.map (·.1)→(find a id).isSome=true→(find b id).isSome=true:=fun {a b} e ha=>by
  obtain ⟨p,hp,hid⟩:=(find_some a id).1 ha
  have h1:p.1∈a.map (·.1):=List.mem_map.2 ⟨p,hp,rfl⟩
  rw [e] at h1
  obtain ⟨q,hq,hqe⟩:=List.mem_map.1 h1
  exact (find_some b id).2 ⟨q,hq,by rw [hid,hqe]⟩
 cases h1:(find l id).isSome with
 | true=>exact (key h h1).symm
 | false=>
  cases h2:(find l' id).isSome with
  | true=>rw [key h.symm h2] at h1;cases h1
  | false=>rfl
theorem adm_texts {l l':List Item} (h:l.map (·.1)=l'.map (·.1)) (t:List Nat):adm l t=adm l' t:=by
 unfold adm
 rw [find_texts h]
def flat (l:List (List Nat)):List Item:=l.map fun t=>(t,0)
theorem flat_texts (l:List (List Nat)):(flat l).map (·.1)=l:=by
 unfold flat
 rw [List.map_map]
 exact List.map_id l
noncomputable def laidK (l:List (List Nat)):Nat→Item×List Nat
 | 0=>(([],0),[l.length])
 | k+1=>match l[k]? with
  | none=>laidK l k
  | some t=>((t,(lays (laidK l k).1 t).2),(laidK l k).2++(lays (laidK l k).1 t).1)
theorem laidK_next {l:List (List Nat)} {k:Nat} (h:k < l.length):laidK l (k+1)=((l[k],(lays (laidK l k).1 l[k]).2),(laidK l k).2++(lays (laidK l k).1 l[k]).1):=by
 conv=>lhs;unfold laidK
 rw [List.getElem?_eq_getElem h]
theorem laidK_last {l:List (List Nat)} {k:Nat} (h:k < l.length):(laidK l (k+1)).1.1=l[k]:=by rw [laidK_next h]
def AdmTo (l:List (List Nat)) (k:Nat):Prop:=∀ j (h:j < l.length),j < k→adm (flat (l.take j)) l[j]=0
theorem AdmTo.next {l:List (List Nat)} {k:Nat} (h:AdmTo l k) (hk:k < l.length) (ha:adm (flat (l.take k)) l[k]=0):AdmTo l (k+1):=fun j hj hjk=>by
 by_cases e:j=k
 ·subst e;exact ha
 ·exact h j hj (by omega)
theorem encGo_skip (l:List (List Nat)):∀ (k:Nat),k≤l.length→AdmTo l k→∃ out:List Item,out.map (·.1)=l.take k∧encGo l [] ([],0) [l.length]=encGo (l.drop k) out (laidK l k).1 (laidK l k).2
 | 0,_,_=>⟨[],rfl,rfl⟩
 | k+1,hk,h=>by
  obtain ⟨out,h1,h2⟩:=encGo_skip l k (by omega) (fun j hj hjk=>h j hj (by omega))
  have hkl:k < l.length:=by omega
  have ha:adm out l[k]=0:=by
   rw [adm_texts (l':=flat (l.take k)) (by rw [h1,flat_texts])]
   exact h k hkl (by omega)
  refine ⟨out++[(l[k],(lays (laidK l k).1 l[k]).2)],by rw [List.map_append,h1,List.map_cons,List.map_nil,List.take_succ_eq_append_getElem hkl],?_⟩
  rw [h2,List.drop_eq_getElem_cons hkl]
  conv=>lhs;unfold encGo
  rw [if_pos ha,laidK_next hkl]
theorem enc_bad {l:List (List Nat)} {k c:Nat} (h64:l.length≤64) (hk:k < l.length) (h:AdmTo l k) (hc:adm (flat (l.take k)) l[k]=c) (h0:c≠0):encode l=.bad c:=by
 unfold encode
 rw [if_neg (by omega)]
 obtain ⟨out,h1,h2⟩:=encGo_skip l k (by omega) h
 have ha:adm out l[k]=c:=by
  rw [adm_texts (l':=flat (l.take k)) (by rw [h1,flat_texts])]
  exact hc
 rw [h2,List.drop_eq_getElem_cons hk]
 unfold encGo
 rw [if_neg (by rw [ha];exact h0),ha]
theorem enc_all {l:List (List Nat)} (h64:l.length≤64) (h:AdmTo l l.length):encode l=if 2000 < (laidK l l.length).2.length then .bad 13 else .ok (laidK l l.length).2:=by
 unfold encode
 rw [if_neg (by omega)]
 obtain ⟨out,h1,h2⟩:=encGo_skip l l.length (Nat.le_refl _) h
 rw [h2,List.drop_length]
 rfl
theorem enc_full {l:List (List Nat)} (h:64 < l.length):encode l=.bad 22:=by
 unfold encode
 rw [if_pos h]
theorem AdmTo.short {l:List (List Nat)} (h:AdmTo l l.length):∀ t∈l,t.length≤300:=fun t ht=>by
 obtain ⟨j,hj,rfl⟩:=List.mem_iff_getElem.1 ht
 exact (admit_zero (h j hj hj)).1
theorem laidK_depth (l:List (List Nat)):∀ k,(laidK l k).1.2≤5
 | 0=>Nat.zero_le _
 | k+1=>by
  unfold laidK
  cases hl:l[k]? with
  | none=>exact laidK_depth l k
  | some t=>
   dsimp only
   unfold lays
   split
   ·rename_i h
    dsimp only
    omega
   ·exact Nat.zero_le _
theorem lays_yes {last:Item} {t:List Nat} (h1:last.2 < 5) (h2:(Dl.mk last.1 t).length+40≤t.length):lays last t=((1::Sha.sum last.1)++([(Dl.mk last.1 t).length / 256,(Dl.mk last.1 t).length % 256]++Dl.mk last.1 t),last.2+1):=by
 unfold lays
 rw [if_pos ⟨h1,h2⟩]
theorem lays_no {last:Item} {t:List Nat} (h:¬(last.2 < 5∧(Dl.mk last.1 t).length+40≤t.length)):lays last t=(0::([t.length / 256,t.length % 256]++t),0):=by
 unfold lays
 rw [if_neg h]
theorem lays_few {last:Item} {t:List Nat} (h:t.length≤300):(lays last t).1.length≤400:=by
 unfold lays
 have hS:(Sha.sum last.1).length=32:=Sha.join_len _
 split
 ·simp only [List.length_append,List.length_cons,hS,List.length_nil]
  omega
 ·simp only [List.length_append,List.length_cons,List.length_nil]
  omega
theorem laidK_few {l:List (List Nat)} (h:∀ t∈l,t.length≤300):∀ k,(laidK l k).2.length≤1+400 * k
 | 0=>by simp [laidK]
 | k+1=>by
  have ih:=laidK_few h k
  unfold laidK
  cases hl:l[k]? with
  | none=>dsimp only;omega
  | some t=>
   have h1:=lays_few (last:=(laidK l k).1) (h t (List.mem_of_getElem? hl))
   dsimp only
   rw [List.length_append]
   omega
end Pk
end Go.Proofs.YtndgadjeeinedaaGreatDoor
