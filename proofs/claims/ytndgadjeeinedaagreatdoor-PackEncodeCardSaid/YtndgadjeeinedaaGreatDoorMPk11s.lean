/- The next item of a pack: told, admitted, put by its id. -/
import Derived.Maps.RangeWalk
import Derived.Test.YtndgadjeeinedaaGreatDoorMPk10
import Derived.Test.YtndgadjeeinedaaGreatDoorMDl4s
import Derived.Test.YtndgadjeeinedaaGreatDoorMOct9s
set_option maxRecDepth 100000
namespace Go.Proofs.YtndgadjeeinedaaGreatDoor
open Go Go.RowKit
theorem object_any {w0 w:World} {i r g mb bB bK:Nat} {out kn:List Pk.It} (a:Nat→Addr) (xs:List Nat) (hb:Sha.Byte xs) (hdep:∀ {id:List Nat} (p:Pk.It),Pk.bse out kn id=some p→p.depth≤1000000) (h:RdS w0 w i r g mb bB bK out kn) (hi:InAt w0 w i r xs) (ht:Tabs w0) (hS:KSents w0 a) :
  Calls Tryz.prog 65 #[.pointer (some ⟨g,0,none⟩)] w (ObjPost w0 w i r g mb bB bK out kn a xs):=by
 obtain _ | ⟨k,ys⟩:=xs
 ·exact (obj_nil a h hi ht hS).mono fun e w' he=>he
 ·by_cases h0:k=0
  ·subst h0
   have hy:Sha.Byte ys:=fun i=>by simpa using hb (i+1)
   refine (obj_self a ys hb h hi ht hS).mono fun e w' he=>?_
   unfold ObjPost
   unfold SelfPost at he
   rw [Pk.told_cons,if_pos rfl]
   cases hq:Pk.text ys with
   | none=>rw [hq] at he;exact he
   | some q=>
    rw [hq] at he
    obtain ⟨A,c,h1,h2,h3,h4,h5⟩:=he
    have hv:=Oc.val_lt 2 (ys.take 2)
    refine ⟨A,c,h1,h2,(text_byte hy hq).1,?_,h3,h4,h5⟩
    unfold Pk.text at hq
    split at hq
    ·cases hq
    ·split at hq
     ·cases hq
     ·rename_i h6 h7
      cases hq
      have:=hv (Oc.bytes_take (oc_bytes hy) 2) (by rw [List.length_take];omega)
      simp only [List.length_take,List.length_drop]
      omega
  ·by_cases h1:k=1
   ·subst h1
    exact obj_delta a ys hb hdep h hi ht hS
   ·refine (obj_kind a k ys hb h0 h1 h hi ht hS).mono fun e w' he=>?_
    unfold ObjPost
    rw [Pk.told_cons,if_neg h0,if_neg h1]
    exact he
theorem itemC_set (id:List Nat) (h:Id32 id) (v:Value) (d:Nat):(itemC id v 0).toArray.setIfInBounds 33 (.int .i64 (d:Int))=(itemC id v d).toArray:=by
 unfold itemC
 apply Array.ext'
 rw [Array.toList_setIfInBounds]
 show (cellsB id++[v,.int .i64 ((0:Nat):Int)]).set 33 _=_
 rw [List.set_append_right _ _ (by rw [cellsB_len,h.1];omega),cellsB_len,h.1]
 rfl
def OffB (v:Value) (x:Nat):Prop:=∀ b o n c,v=.slice (some ⟨b,o,none⟩) n c→0 < n→b≠x
theorem off_of_rd {w:World} {v:Value} {xs:List Nat} (h:Rd w v xs) {x:Nat} (hx:w.heap.size≤x):OffB v x:=fun b o n c e h0=>by
 obtain ⟨A,c',hv,_,hA⟩:=h
 rw [hv] at e
 injection e with e1 e2 e3
 obtain ⟨b',o',ha,hl,_⟩:=hA (by omega)
 rw [ha] at e1
 injection e1 with e1
 injection e1 with e1
 omega
theorem off_of_new {B n c:Nat} {A:Option Addr} (h:NewAt B A n) {x:Nat} (hx:x < B):OffB (.slice A n c) x:=fun b o n' c' e h0=>by
 injection e with e1 e2 e3
 subst e2
 have:=h h0 b o e1
 omega
theorem rd_off {w w':World} {v:Value} {xs:List Nat} {x:Nat} (h:Rd w v xs) (hg:w.grownBy w' (some x)) (ho:OffB v x):Rd w' v xs:=by
 obtain ⟨A,c,hv,hc,hA⟩:=h
 refine ⟨A,c,hv,hc,fun h0=>?_⟩
 obtain ⟨b,o,ha,hl,hx⟩:=hA h0
 exact ⟨b,o,ha,Nat.lt_of_lt_of_le hl hg.size,fun i hi=>hg.cell (hx i hi) (fun e=>ho b o _ _ (by rw [hv,ha]) h0 (by injection e))⟩
theorem RdS.far {w0 w w':World} {i r g mb bB bK x t:Nat} {cs:Array Value} {out kn:List Pk.It} (h:RdS w0 w i r g mb bB bK out kn) (hg:w.grownBy w' (some x)) (hx:Blk w x t cs) (hne:x≠g∧x≠mb∧x≠bB∧x≠bK) (ho:∀ p∈out,OffB p.val x):RdS w0 w' i r g mb bB bK out kn:=
 ⟨h.g_.grown hg (fun e=>hne.1 (by injection e with e;exact e.symm)),h.map.kept hg (fun e=>hne.2.1 (by injection e with e;exact e.symm)),fun p hp=>⟨rd_off (h.outs p hp).1 hg (ho p hp),(h.outs p hp).2⟩,h.by_.put hg hx (fun e=>hne.2.2.1 e.symm),h.kn_.kpt (Kpt.of_grown (S:=fun y=>y=x) hg rfl) (fun e=>hne.2.2.2 e.symm),h.ord,h.few⟩
theorem takes_mid {P:Program} {ops:Array Oper} {S:World→Prop} {o:Oper} {a:Act} (ty:TypeId) (x:Operand) (ho:o.op=.load ty x) (hw:Region.wanted o (yielded ops a.tmps)=true)
  (b off:Nat) (hx:a.eval x=.pointer (some ⟨b,off,none⟩)) (cs:List Value) (d:TypeDesc) (hc:∀ w,S w→w.rangeAt b off cs)
  (hu:P.underlying ty=some d) (hd:d.isRow=true) (hi:(P.info? ty).map (·.size)=some cs.length):YieldsIf P ops S o (.agg cs.toArray) a:=
 Or.inl ⟨hw,fun w h=>by
  unfold execOp
  simp only [ho,hx,Sem.run_bind,Sem.run_pure,run_loadAt_mid w b off ty cs d (hc w h) hu hd hi,Result.andThen_ok]⟩
def NextPost (w0 w:World) (i r g mb bB bK:Nat) (out kn:List Pk.It) (a:Nat→Addr) (xs:List Nat) (e:Ending) (w':World):Prop:=
 match Pk.step (out.map Pk.It.item) (kn.map Pk.It.item) xs with
 | .bad c=>Ends w r bB (ecode a c) e w'
 | .ok q=>∃ p:Pk.It,p.item=q.1∧e=.returned p.v∧RdS w0 w' i r g mb bB bK (out++[p]) kn∧InAt w0 w' i r q.2∧Kpt (fun x=>x=r∨x=bB∨x=mb) w w'∧(∀ A n c,p.val=.slice A n c→NewAt w.heap.size A n)
theorem kpt_more {w w':World} {r bB mb:Nat} (h:Kpt (fun x=>x=r∨x=bB) w w'):Kpt (fun x=>x=r∨x=bB∨x=mb) w w':=⟨h.os,h.tape,h.output,h.size,fun b hb hn=>h.block b hb (fun e=>hn (by rcases e with e | e;exact Or.inl e;exact Or.inr (Or.inl e)))⟩
theorem RdS.add {w0 w w':World} {i r g mb bB bK:Nat} {out kn:List Pk.It} (h:RdS w0 w i r g mb bB bK out kn) (hf:out.length < 64) (p:Pk.It) (hp:Rd w p.val p.text∧Sha.Byte p.text) (hm:MapO w' mb (out.length+1) (updO (fun id=>(Pk.fnd out id).map Pk.It.v) (Sha.sum p.text) p.v)) (hg:w.grownBy w' (some mb)):RdS w0 w' i r g mb bB bK (out++[p]) kn:=by
 have ho:=h.ord
 have hk:Kpt (fun x=>x=mb) w w':=Kpt.of_grown hg rfl
 refine ⟨hk.blk h.g_ (by omega),?_,?_,h.by_.kpt hk (fun x hx e=>by omega),h.kn_.kpt hk (by omega),h.ord,by rw [List.length_append];simp;omega⟩
 ·have h2:=hm.ext (g:=fun id=>(Pk.fnd (out++[p]) id).map Pk.It.v) (fun x _=>by
   unfold updO
   rw [Pk.fnd_snoc]
   split<;>rfl)
  rw [List.length_append]
  exact h2
 ·intro q hq
  have hn:∀ x,x=mb→NoU w x:=fun x hx=>by subst hx;exact noU_map h.map
  rcases List.mem_append.1 hq with hq | hq
  ·exact ⟨rd_kpt (h.outs q hq).1 hk hn,(h.outs q hq).2⟩
  ·rw [List.mem_singleton.1 hq]
   exact ⟨rd_kpt hp.1 hk hn,hp.2⟩
set_option maxHeartbeats 4000000 in
theorem next_any {w0 w:World} {i r g mb bB bK:Nat} {out kn:List Pk.It} (a:Nat→Addr) (xs:List Nat) (hb:Sha.Byte xs) (hf:out.length < 64) (hdep:∀ {id:List Nat} (p:Pk.It),Pk.bse out kn id=some p→p.depth≤1000000) (h:RdS w0 w i r g mb bB bK out kn) (hi:InAt w0 w i r xs) (ht:Tabs w0) (hS:KSents w0 a) :
  Calls Tryz.prog 43 #[.pointer (some ⟨g,0,none⟩)] w (NextPost w0 w i r g mb bB bK out kn a xs):=by
 obtain ⟨w1,hw1⟩:∃ w1,w1=w.alloc (.cells (itemC zid nilV 0).toArray 44):=⟨_,rfl⟩
 have b1:Below w.heap.size w w1:=hw1▸(Below.refl _ _).alloc (Nat.le_refl _) _
 have HZ1:Hid (Blk w1 w.heap.size 44 (itemC zid nilV 0).toArray):=Lib.hid (hw1▸Blk.new w _ _)
 have hR1:=h.below b1
 have hI1:=hi.below b1
 have CO:=object_any a xs hb hdep hR1 hI1 ht hS
 unfold ObjPost at CO
 have HK1:Hid (Kpt (fun x=>x=r∨x=bB) w w1):=Lib.hid (Kpt.of_below b1)
 have HLW:Hid (r < w.heap.size∧bB < w.heap.size∧mb < w.heap.size∧g < w.heap.size):=Lib.hid (by have h1:=h.g_.lt;have h2:=h.ord;omega)
 have HT:=Lib.hid ht
 have HS:=Lib.hid hS
 have HF:=Lib.hid hf
 have HST:Hid (Pk.step (out.map Pk.It.item) (kn.map Pk.It.item) xs=match Pk.told (out.map Pk.It.item) (kn.map Pk.It.item) xs with
  | .bad e=>.bad e
  | .ok q=>if Pk.adm (out.map Pk.It.item) q.1.1=0 then .ok q else .bad (Pk.adm (out.map Pk.It.item) q.1.1)):=Lib.hid rfl
 have HS1:Hid (w1.heap.size=w.heap.size+1):=Lib.hid (by rw [hw1];simp)
 have HOF:Hid (∀ q∈out,OffB q.val w.heap.size):=Lib.hid (fun q hq=>off_of_rd (h.outs q hq).1 (Nat.le_refl _))
 have e1:=hw1.symm
 clear b1 hw1 hR1 hI1 h hi hS ht hb hf hdep
 cases htd:Pk.told (out.map Pk.It.item) (kn.map Pk.It.item) xs with
 | bad c=>
  rw [htd] at CO
  simp only at CO
  have hST:=HST.out
  rw [htd] at hST
  have HST2:=Lib.hid hST
  clear hST htd
  go_enter Tryz.func43,Tryz.ntmps43
  go_wp2_with (go_at_call 65;refine pause ?_)
  unfold Paused
  change Calls _ _ _ (w.alloc (.cells (itemC zid nilV 0).toArray 44)) _
  rw [e1]
  refine CO.mono ?_
  rintro e w2 hF
  have HE:=hF.from_ HK1.out
  obtain ⟨rfl,_,_⟩:=hF
  exact ⟨rfl,by unfold NextPost;rw [HST2.out];exact HE⟩
 | ok q=>
  rw [htd] at CO
  simp only at CO
  have hST:=HST.out
  rw [htd] at hST
  obtain ⟨⟨tx,dp⟩,rest⟩:=q
  simp only at CO hST
  clear htd
  have HST2:=Lib.hid hST
  clear hST
  go_enter Tryz.func43,Tryz.ntmps43
  go_wp2_with (go_at_call 65;refine pause ?_)
  unfold Paused
  change Calls _ _ _ (w.alloc (.cells (itemC zid nilV 0).toArray 44)) _
  rw [e1]
  refine CO.mono ?_
  rintro e w2 ⟨A2,c2,rfl,hr2,hbt,hlt,hi2,hR2,hk2⟩
  have HTX:=Lib.hid hr2.1
  have HNW:Hid (NewAt (w.heap.size+1) A2 tx.length):=Lib.hid (hr2.2.mono (by rw [←HS1.out];exact Nat.le_refl _))
  have HBT:=Lib.hid hbt
  have HLT:=Lib.hid hlt
  have HI2:=Lib.hid hi2
  have HR2:=Lib.hid hR2
  have HK2:=Lib.hid (HK1.out.trans hk2)
  have HZ2:=Lib.hid (hk2.blk HZ1.out (by have:=HLW.out;omega))
  have p2:w2.cell? ⟨g,1,none⟩=some (.map (some mb)):=hR2.g_.cell 1
  have CM:=admit_any mb out.length tx.length c2 A2 tx out a w2 hr2.1 hbt (by omega) (HT.out.below hi2.bel.1 (Nat.le_refl _)) (HS.out.below hi2.bel.1 (Nat.le_refl _)) hR2.map hR2.vals
  clear hr2 hbt hi2 hR2 hk2 CO
  by_cases had:Pk.adm (out.map Pk.It.item) tx=0
  ·simp only [if_pos had] at CM
   have hST:=HST2.out
   rw [if_pos had] at hST
   have HST3:=Lib.hid hST
   have HS5:=Lib.hid (sum_id tx)
   clear hST had hlt
   obtain ⟨nt,hnt⟩:∃ n,tx.length=n:=⟨_,rfl⟩
   have HNT:=Lib.hid hnt
   rw [hnt] at CM ⊢
   clear hnt
   go_wp2_with (go_at_call 23;refine pause ?_)
   unfold Paused
   refine CM.mono ?_
   rintro e w3 ⟨rfl,hb3⟩
   have HTX3:=Lib.hid (HTX.out.below hb3 (Nat.le_refl _))
   have HI3:=Lib.hid (HI2.out.below hb3)
   have HR3:=Lib.hid (HR2.out.below hb3)
   have HK3:=Lib.hid (HK2.out.trans (Kpt.of_below hb3))
   have HZ3:=Lib.hid (HZ2.out.below hb3 HZ2.out.lt)
   clear hb3 CM p2
   go_wp2_with (with_reducible (show wpList _ _ _ (Oper.mk _ (Op.store 44 _ _) _ _ _ _::_) _ _);refine pause ?_)
   unfold Paused
   change wpList _ _ _ _ _ (w3.alloc (.cells (itemC zid nilV 0).toArray 44))
   refine wpList_store_row (by rfl) 44 (.tmp 5) (.tmp 19) (by rfl) w3.heap.size (itemC (Sha.sum tx) (.slice A2 nt c2) 0).toArray (by rfl) (by rfl) 44 (itemC zid nilV 0).toArray (Blk.new w3 _ _) (by rw [List.size_toArray,itemC_len HS5.out];exact item_size) (by rw [List.size_toArray,List.size_toArray,itemC_len HS5.out];rfl) (itemC_one rfl 0) ?_
   have b4:Below w3.heap.size w3 ((w3.alloc (.cells (itemC zid nilV 0).toArray 44)).setRow w3.heap.size (itemC (Sha.sum tx) (.slice A2 nt c2) 0).toArray):=below_row ((Below.refl _ _).alloc (Nat.le_refl _) _) (Nat.le_refl _) _
   have hX4:Blk ((w3.alloc (.cells (itemC zid nilV 0).toArray 44)).setRow w3.heap.size (itemC (Sha.sum tx) (.slice A2 nt c2) 0).toArray) w3.heap.size 44 (itemC (Sha.sum tx) (.slice A2 nt c2) 0).toArray:=(Blk.new w3 _ _).row _
   generalize (w3.alloc (.cells (itemC zid nilV 0).toArray 44)).setRow w3.heap.size (itemC (Sha.sum tx) (.slice A2 nt c2) 0).toArray=w4 at hX4 b4 ⊢
   obtain ⟨g5,hg5⟩:∃ x,x=w3.heap.size:=⟨_,rfl⟩
   rw [←hg5] at hX4 ⊢
   have HG5:=Lib.hid hg5
   have HX4:=Lib.hid hX4
   have HB4:=Lib.hid b4
   clear hX4 b4 hg5
   simp only [Act.put]
   have CH:=hold_nil g w4
   go_wp2_with (go_at_call 66;refine CH.mono ?_;rintro e w5 ⟨rfl,rfl⟩;refine pause ?_)
   unfold Paused
   have p33:w5.cell? ⟨g5,33,none⟩=some (.int .i64 ((0:Nat):Int)):=(HX4.out.cell 33).trans (itemC_at _ HS5.out _ 0).2
   have z33:=HX4.out.frozen 33
   have HX6:Hid (Blk (w5.setCell ⟨g5,33,none⟩ (.int .i64 (dp:Int))) g5 44 (itemC (Sha.sum tx) (.slice A2 nt c2) dp).toArray):=Lib.hid (by have h:=HX4.out.set_ 33 (.int .i64 (dp:Int));rwa [itemC_set _ HS5.out] at h)
   have HB6:Hid (Below w3.heap.size w3 (w5.setCell ⟨g5,33,none⟩ (.int .i64 (dp:Int)))):=Lib.hid (HB4.out.setCell (p:=⟨g5,33,none⟩) (by show w3.heap.size≤g5;rw [HG5.out];exact Nat.le_refl _) _)
   clear CH
   go_wp2
   generalize w5.setCell ⟨g5,33,none⟩ (.int .i64 (dp:Int))=w6 at HX6 HB6 ⊢
   have h36:Below w3.heap.size w3 w6.drew:=below_drewN HB6.out 1
   have HR6:=Lib.hid (HR3.out.below h36)
   have p1:w6.drew.cell? ⟨g,1,none⟩=some (.map (some mb)):=HR6.out.g_.cell 1
   obtain ⟨w7,hrun,hm7,hg7⟩:=HR6.out.map.store Tryz.underlying40 (by have:=HF.out;unfold maxLen;omega) HS5.out (.agg (itemC (Sha.sum tx) (.slice A2 nt c2) dp).toArray)
   have hrun':(Instr.mapUpdate 40 (.map (some mb)) (.agg (cellsB (Sha.sum tx)).toArray) (.agg (itemC (Sha.sum tx) (.slice A2 nt c2) dp).toArray)).run Tryz.prog w6.drew=.ok () w7:=hrun
   have HTX6:=Lib.hid (HTX3.out.below h36 (Nat.le_refl _))
   have HR7:Hid (RdS w0 w7 i r g mb bB bK (out++[⟨tx,dp,.slice A2 nt c2⟩]) kn):=Lib.hid (HR6.out.add HF.out ⟨tx,dp,.slice A2 nt c2⟩ ⟨by rw [←HNT.out];exact HTX6.out,HBT.out⟩ hm7 hg7)
   have hk7:Kpt (fun x=>x=mb) w6.drew w7:=Kpt.of_grown hg7 rfl
   have HX7:=Lib.hid (hk7.blk HX6.out.drew (by have h1:=HLW.out;have h2:=HZ3.out.lt;have h3:=HG5.out;omega))
   have HZ7:=Lib.hid (hk7.blk (HZ3.out.below h36 HZ3.out.lt) (by have h1:=HLW.out;omega))
   have HI7:=Lib.hid ((HI3.out.below h36).kpt hk7 (by have:=HR6.out.ord;omega) (by have:=HR6.out.ord;omega) (fun x hx=>by have h1:=HI3.out.bel.2;have h2:=HR6.out.ord;omega))
   have HK7:Hid (Kpt (fun x=>x=r∨x=bB∨x=mb) w w7):=Lib.hid (((kpt_more (mb:=mb) HK3.out).trans (Kpt.of_below h36)).trans ⟨hk7.os,hk7.tape,hk7.output,hk7.size,fun b hb hn=>hk7.block b hb (fun e=>hn (Or.inr (Or.inr e)))⟩)
   clear hrun hm7 hg7 hk7 h36
   refine wp_region_upto (S:=fun w'=>w'=w6.drew) (b:=7) (by kernel_rfl) ?_
   change Upto _ _ _ _ _ _ _ _ _ w6.drew
   refine Upto.take (i:=0) (v:=?_) rfl (by kernel_rfl) (by kernel_rfl) (by kernel_rfl) (by kernel_rfl) (fun _ _ _ h=>h) (Or.inl ⟨by rfl,?_⟩) rfl ?_
   rotate_left
   ·rintro w' rfl;go_simp;with_reducible rfl
   try go_frame
   refine Upto.take (i:=1) (v:=?_) rfl (by kernel_rfl) (by kernel_rfl) (by kernel_rfl) (by kernel_rfl) (fun _ _ _ h=>h) (Or.inl ⟨by rfl,?_⟩) rfl ?_
   rotate_left
   ·rintro w' rfl;go_simp;with_reducible rfl
   try go_frame
   refine Upto.take (i:=2) (v:=?_) rfl (by kernel_rfl) (by kernel_rfl) (by kernel_rfl) (by kernel_rfl) (fun _ _ _ h=>h) (Or.inl ⟨by rfl,?_⟩) rfl ?_
   rotate_left
   ·rintro w' rfl;go_simp;with_reducible rfl
   try go_frame
   refine Upto.take (i:=3) (v:=?_) rfl (by kernel_rfl) (by kernel_rfl) (by kernel_rfl) (by kernel_rfl) (fun _ _ _ h=>h) (Or.inl ⟨by rfl,?_⟩) rfl ?_
   rotate_left
   ·rintro w' rfl;go_simp;with_reducible rfl
   try go_frame
   refine Upto.take (i:=4) (v:=?_) rfl (by kernel_rfl) (by kernel_rfl) (by kernel_rfl) (by kernel_rfl) (fun _ _ _ h=>h) (Or.inl ⟨by rfl,?_⟩) rfl ?_
   rotate_left
   ·rintro w' rfl;go_simp;with_reducible rfl
   try go_frame
   refine Upto.take (i:=5) (v:=.agg (cellsB (Sha.sum tx)).toArray) rfl (by kernel_rfl) (by kernel_rfl) (by kernel_rfl) (by kernel_rfl) (fun _ _ _ h=>h) (takes_mid 42 (.tmp 30) rfl (by rfl) g5 0 rfl (cellsB (Sha.sum tx)) _ (fun w' hw=>by rw [hw];exact item_idx HX6.out.drew) Tryz.underlying42 rfl (by rw [cellsB_len,HS5.out.1];exact oid_load)) rfl ?_
   try go_frame
   refine Upto.take (i:=6) (v:=.agg (itemC (Sha.sum tx) (.slice A2 nt c2) dp).toArray) rfl (by kernel_rfl) (by kernel_rfl) (by kernel_rfl) (by kernel_rfl) (fun _ _ _ h=>h) (takes_row 44 (.tmp 5) rfl (by rfl) g5 rfl 44 (itemC (Sha.sum tx) (.slice A2 nt c2) dp).toArray _ (fun w' hw=>by rw [hw];exact HX6.out.drew) Tryz.underlying44 rfl (by rw [List.size_toArray,itemC_len HS5.out];exact item_size)) rfl ?_
   try go_frame
   refine Upto.one (i:=7) (by kernel_rfl) rfl (by rfl) (fun K hK=>?_)
   go_simp
   refine hK _ _ (fun h=>absurd rfl h) ?_
   try go_frame
   refine Upto.done (by kernel_rfl) ?_ _
   clear hrun' p1
   go_wp2_with (with_reducible (show wpList _ _ _ (Oper.mk _ (Op.load 44 _) _ _ _ _::_) _ _);refine pause ?_)
   unfold Paused
   refine wpList_row_w (by rfl) 44 (.tmp 5) (by rfl) g5 (by rfl) 44 _ _ HX7.out Tryz.underlying44 (by rfl) (by rw [List.size_toArray,itemC_len HS5.out];exact item_size) ?_
   go_wp2_with (with_reducible (show wpList _ _ _ (Oper.mk _ (Op.store 44 _ _) _ _ _ _::_) _ _);refine pause ?_)
   unfold Paused
   refine wpList_store_row (by rfl) 44 (.tmp 2) (.tmp 33) (by rfl) w.heap.size (itemC (Sha.sum tx) (.slice A2 nt c2) dp).toArray (by rfl) (by rfl) 44 (itemC zid nilV 0).toArray HZ7.out (by rw [List.size_toArray,itemC_len HS5.out];exact item_size) (by rw [List.size_toArray,List.size_toArray,itemC_len HS5.out];rfl) (itemC_one rfl dp) ?_
   have HX8:=Lib.hid (HZ7.out.row (itemC (Sha.sum tx) (.slice A2 nt c2) dp).toArray)
   have hg8:w7.grownBy (w7.setRow w.heap.size (itemC (Sha.sum tx) (.slice A2 nt c2) dp).toArray) (some w.heap.size):=only_setRow (World.grownBy.refl w7 _) (Or.inl rfl) _
   have HR8:=Lib.hid (HR7.out.far hg8 HZ7.out (by have h1:=HLW.out;have h2:=HR3.out.ord;omega) (fun q hq=>by
    rcases List.mem_append.1 hq with hq | hq
    ·exact HOF.out q hq
    ·rw [List.mem_singleton.1 hq]
     exact off_of_new (by rw [←HNT.out];exact HNW.out) (Nat.lt_succ_self _)))
   have hk8:Kpt (fun x=>x=w.heap.size) w7 (w7.setRow w.heap.size (itemC (Sha.sum tx) (.slice A2 nt c2) dp).toArray):=Kpt.of_grown hg8 rfl
   have HI8:=Lib.hid (HI7.out.kpt hk8 (by have:=HLW.out;omega) (by have h1:=HLW.out;have h2:=HR3.out.ord;omega) (fun x hx=>by have h1:=HI3.out.bel.2;have h2:=HLW.out;omega))
   have HK8:=Lib.hid (Kpt.old HK7.out hk8 (fun x hx hl=>by omega))
   clear hg8 hk8
   generalize w7.setRow w.heap.size (itemC (Sha.sum tx) (.slice A2 nt c2) dp).toArray=w8 at HX8 HR8 HI8 HK8 ⊢
   simp only [Act.put]
   go_wp2
   refine bodyPost_ret (v:=.agg (itemC (Sha.sum tx) (.slice A2 nt c2) dp).toArray) (resultsP (t:=2) rfl (by rfl) HX8.out (by rw [List.size_toArray,itemC_len HS5.out])) rfl ?_
   unfold NextPost
   rw [HST3.out]
   exact ⟨⟨tx,dp,.slice A2 nt c2⟩,rfl,rfl,HR8.out,HI8.out,HK8.out,fun A n c e=>by
    injection e with e1 e2 e3
    rw [←e1,←e2,←HNT.out]
    exact HNW.out.mono (Nat.le_succ _)⟩
  ·simp only [if_neg had] at CM
   have hST:=HST2.out
   rw [if_neg had] at hST
   have HST3:=Lib.hid hST
   generalize Pk.adm (out.map Pk.It.item) tx=c at CM HST3
   clear hST had hlt
   generalize tx.length=nt at CM ⊢
   go_wp2_with (go_at_call 23;refine pause ?_)
   unfold Paused
   refine CM.mono ?_
   rintro e w3 ⟨rfl,hb3⟩
   have HI3:=Lib.hid (HI2.out.below hb3)
   have HR3:=Lib.hid (HR2.out.below hb3)
   have HK3:=Lib.hid (HK2.out.trans (Kpt.of_below hb3))
   clear hb3 CM p2
   go_wp2_with (with_reducible (show wpList _ _ _ (Oper.mk _ (Op.store 44 _ _) _ _ _ _::_) _ _);refine pause ?_)
   unfold Paused
   change wpList _ _ _ _ _ (w3.alloc (.cells (itemC zid nilV 0).toArray 44))
   refine wpList_store_row (by rfl) 44 (.tmp 5) (.tmp 19) (by rfl) w3.heap.size (itemC zid nilV 0).toArray (by rfl) (by rfl) 44 (itemC zid nilV 0).toArray (Blk.new w3 _ _) (by rw [zItem_size];exact item_size) (by rfl) (itemC_one rfl 0) ?_
   have b4:Below w3.heap.size w3 ((w3.alloc (.cells (itemC zid nilV 0).toArray 44)).setRow w3.heap.size (itemC zid nilV 0).toArray):=below_row ((Below.refl _ _).alloc (Nat.le_refl _) _) (Nat.le_refl _) _
   have HI4:=Lib.hid (HI3.out.below b4)
   have HR4:=Lib.hid (HR3.out.below b4)
   have HK4:=Lib.hid (HK3.out.trans (Kpt.of_below b4))
   generalize (w3.alloc (.cells (itemC zid nilV 0).toArray 44)).setRow w3.heap.size (itemC zid nilV 0).toArray=w4 at HI4 HR4 HK4 ⊢
   clear b4
   generalize w3.heap.size=g5
   simp only [Act.put]
   have CH:=hold_err (a (c - 1)) HR4.out HI4.out
   unfold ecode
   go_wp2_with (go_at_call 66;refine CH.mono ?_;rintro e w5 hF;have HE:=Ends.of (bB:=bB) hF HK4.out;obtain ⟨rfl,_,_⟩:=hF)
   exact ⟨rfl,by unfold NextPost;rw [HST3.out];exact HE⟩
theorem catchL_idle (q:Nat) (w:World) :
  CallsD Tryz.prog 77 #[.pointer (some ⟨q,0,none⟩)] .returning w fun e u' w'=>e=.returned (.tuple #[])∧u'=.returning∧w'=w:=by
 refine callsD_of_wpS Tryz.func77 rfl fun c₀ cs hu=>?_
 apply wpS_seq
 apply wpS_region
 simp [wpOpsS,go_sem,recoverD,hu,Tryz.ntmps77,Exit.thenS]
 rw [slots17]
 refine wpS_of_wp ?_
 go_wp2
 exact ⟨rfl,_,by rw [←hu],_,results_none rfl _ _ _,rfl,rfl,rfl⟩
theorem catchL_stop (q r:Nat) (older:List PanicEntry) (w:World) (hq:w.cell? ⟨q,0,none⟩=some (.pointer (some ⟨r,0,none⟩))) :
  CallsD Tryz.prog 77 #[.pointer (some ⟨q,0,none⟩)] (.panicking ({ v:=stopV r,recovered:=false }::older)) w fun e u' w'=>
   e=.returned (.tuple #[])∧u'=.panicking ({ v:=stopV r,recovered:=true }::older)∧Below w.heap.size w w':=by
 refine callsD_of_wpS Tryz.func77 rfl fun c₀ cs hu=>?_
 apply wpS_seq
 apply wpS_region
 simp [wpOpsS,go_sem,recoverD,hu,Tryz.ntmps77,Exit.thenS]
 rw [slots17]
 refine wpS_of_wp ?_
 have h1:=stop_eql r
 have h2:=stop_assert r
 have h3:=stop_neq r
 have hb:Hid (Below w.heap.size w (w.alloc (.cells #[.pointer (some ⟨r,0,none⟩)] 142))):=Lib.hid ((Below.refl _ _).alloc (Nat.le_refl _) _)
 have hq2:(w.alloc (.cells #[.pointer (some ⟨r,0,none⟩)] 142)).cell? ⟨q,0,none⟩=some (.pointer (some ⟨r,0,none⟩)):=(hb.out.cell (p:=⟨q,0,none⟩) (block_lt_of_cell hq)).trans hq
 go_wp2
 refine ⟨rfl,.panicking ({ v:=stopV r,recovered:=true }::older),rfl,.tuple #[],?_,rfl,rfl,hb.out⟩
 exact results_none rfl _ _ _
theorem runL_ok (K:Nat) (cap:Array Value) (r:Nat) (w:World) (R:Value→World→Prop) (hK:∀ args w,(callFunc K args).run Tryz.prog w=.ok (.enter K args) w)
  (hread:Calls Tryz.prog K (#[.pointer (some ⟨w.heap.size+1,0,none⟩)]++cap) (runBox w r) fun e w'=>∃ v,e=.returned v∧R v w') :
  Calls Tryz.prog 60 #[.pointer (some ⟨r,0,none⟩),.func (.func K) #[] cap] w fun e w'=>∃ v,e=.returned v∧R v w':=by
 have hmf:∀ (fn:Fn) (first cap:Array Value) (w:World),(Instr.makeFunc fn first cap).run Tryz.prog w=.ok (.func fn first cap) w:=fun _ _ _ _=>rfl
 go_enter_defers Tryz.func60,Tryz.ntmps60
 go_wp2_with (refine hread.mono ?_;rintro e w1 ⟨v,rfl,hr⟩;have HR:=Lib.hid hr;clear hr)
 refine leaves_cons (f:=77) (args:=#[.pointer (some ⟨w.heap.size,0,none⟩)]) (by simp) (by simp [go_sem]) ?_
 refine (catchL_idle w.heap.size _).mono ?_
 rintro e u' w'' ⟨rfl,rfl,rfl⟩
 refine ⟨_,results_tmp rfl _ _ _,?_⟩
 exact ⟨v,rfl,HR.out⟩
theorem runL_bad (K:Nat) (cap:Array Value) (r:Nat) (w:World) (R:World→Prop) (hK:∀ args w,(callFunc K args).run Tryz.prog w=.ok (.enter K args) w)
  (hread:Calls Tryz.prog K (#[.pointer (some ⟨w.heap.size+1,0,none⟩)]++cap) (runBox w r) fun e w'=>e=.panicked [{ v:=stopV r,recovered:=false }]∧R w')
  (hq:∀ a,R a→a.cell? ⟨w.heap.size,0,none⟩=some (.pointer (some ⟨r,0,none⟩))) (hR:∀ a b,R a→Below a.heap.size a b→R b) :
  Calls Tryz.prog 60 #[.pointer (some ⟨r,0,none⟩),.func (.func K) #[] cap] w fun e w'=>e=.returned (.slice none 0 0)∧R w':=by
 have hmf:∀ (fn:Fn) (first cap:Array Value) (w:World),(Instr.makeFunc fn first cap).run Tryz.prog w=.ok (.func fn first cap) w:=fun _ _ _ _=>rfl
 go_enter_defers Tryz.func60,Tryz.ntmps60
 go_wp2_with (refine hread.mono ?_;rintro e w1 ⟨rfl,hr⟩;have HR:=Lib.hid hr;clear hr)
 refine leaves_cons (f:=77) (args:=#[.pointer (some ⟨w.heap.size,0,none⟩)]) (by simp) (by simp [go_sem]) ?_
 refine (catchL_stop w.heap.size r [] _ (hq _ HR.out)).mono ?_
 rintro e u' w'' ⟨rfl,rfl,hb⟩
 exact ⟨_,results_tmp rfl _ _ _,rfl,hR _ _ HR.out hb⟩
theorem closeL_any (q r:Nat) (v0 v1 v2 v3:Value) (w:World) (hq:w.cell? ⟨q,0,none⟩=some (.pointer (some ⟨r,0,none⟩))) (hr:Blk w r 135 #[v0,v1,v2,v3]) :
  CallsD Tryz.prog 59 #[.pointer (some ⟨q,0,none⟩)] .returning w fun e u' w'=>u'=.returning∧(e=.returned (.tuple #[])∧w.grownBy w' (some r)):=by
 have HG:Hid (w.grownBy ((((w.setCell ⟨r,0,none⟩ (.slice none 0 0)).setCell ⟨r,1,none⟩ (.bool false)).setCell ⟨r,2,none⟩ (.bool false)).setCell ⟨r,3,none⟩ .nilIface) (some r)):=Lib.hid (only_setCell (p:=⟨r,3,none⟩) (only_setCell (p:=⟨r,2,none⟩) (only_setCell (p:=⟨r,1,none⟩) (only_setCell (p:=⟨r,0,none⟩) (World.grownBy.refl w (some r)) (Or.inl rfl) _) (Or.inl rfl) _) (Or.inl rfl) _) (Or.inl rfl) _)
 have c0:w.cell? ⟨r,0,none⟩=some v0:=hr.cell 0
 have c1:w.cell? ⟨r,1,none⟩=some v1:=hr.cell 1
 have c2:w.cell? ⟨r,2,none⟩=some v2:=hr.cell 2
 have c3:w.cell? ⟨r,3,none⟩=some v3:=hr.cell 3
 have z0:=hr.frozen 0
 have z1:=hr.frozen 1
 have z2:=hr.frozen 2
 have z3:=hr.frozen 3
 clear hr
 go_enter_d Tryz.func59,Tryz.ntmps59
 go_wp2
 go_end0
 exact ⟨rfl,HG.out⟩
theorem takeL_ok (K:Nat) (cap:Array Value) (S:Nat→Prop) (w0 w:World) (A:Option Addr) (n c:Nat) (xs:List Nat) (R:Nat→Value→World→Prop) (hK:∀ args w,(callFunc K args).run Tryz.prog w=.ok (.enter K args) w)
  (hw:Below w0.heap.size w0 w) (hv:Rd w0 (.slice A n c) xs) (hS:∀ b,S b→b < w.heap.size) (hread:ReadsTo K cap S w0 w xs [] R) (hR:∀ r u a b,R r u a→a.grownBy b (some r)→R r u b) :
  Calls Tryz.prog 38 #[.slice A n c,.func (.func K) #[] cap] w fun e w'=>∃ u r,e=.returned (.tuple #[u,.nilIface])∧w.heap.size≤r∧R r u w'∧Kpt S w w':=by
 have hmf:∀ (fn:Fn) (first cap:Array Value) (w:World),(Instr.makeFunc fn first cap).run Tryz.prog w=.ok (.func fn first cap) w:=fun _ _ _ _=>rfl
 have CR:=runL_ok K cap w.heap.size (takeBox w (.slice A n c)) (fun u w'=>InAt w0 w' ((takeBox w (.slice A n c)).heap.size+1) w.heap.size []∧Kpt (fun b=>b=w.heap.size∨S b) (runBox (takeBox w (.slice A n c)) w.heap.size) w'∧R w.heap.size u w') hK (hread _ _ _ (Nat.le_refl _) (by rw [takeBox_size];omega) (inAt_run hw hv) (below_takeRun w _))
 have HS:=Lib.hid hS
 have HRR:=Lib.hid hR
 clear hread hS hR
 go_enter_defers Tryz.func38,Tryz.ntmps38
 go_wp2_with (go_at_call 60;refine CR.mono ?_;rintro e w1 ⟨u,rfl,hi,hk,hr⟩;have p0:w1.cell? ⟨w.heap.size+1,0,none⟩=some (.pointer (some ⟨w.heap.size,0,none⟩)):=kpt_var HS.out hk;obtain ⟨vz,hz,⟨Az,cz,rfl,_,_⟩,_⟩:=hi;have p1:w1.cell? ⟨w.heap.size,2,none⟩=some (.bool false):=hz.r_.cell 2;have p2:w1.cell? ⟨w.heap.size,0,none⟩=some (.slice Az 0 cz):=hz.r_.cell 0;have HZ:=Lib.hid hz.r_;have HK:=Lib.hid hk;have HR:=Lib.hid hr;clear hz hk hr CR)
 refine leaves_cons (f:=59) (args:=#[.pointer (some ⟨w.heap.size+1,0,none⟩)]) (by simp) (by simp [go_sem]) ?_
 refine (closeL_any (w.heap.size+1) w.heap.size _ _ _ _ _ p0 HZ.out).mono ?_
 rintro e u' w'' ⟨rfl,rfl,hg⟩
 refine ⟨_,results_tmp2 rfl _ _ _,?_⟩
 exact ⟨u,w.heap.size,rfl,Nat.le_refl _,HRR.out _ _ _ _ HR.out hg,kpt_end HK.out hg⟩
theorem takeL_long (K:Nat) (cap:Array Value) (S:Nat→Prop) (w0 w:World) (A:Option Addr) (n c:Nat) (xs zs:List Nat) (aL:Addr) (hK:∀ args w,(callFunc K args).run Tryz.prog w=.ok (.enter K args) w)
  (hw:Below w0.heap.size w0 w) (hv:Rd w0 (.slice A n c) xs) (hS:∀ b,S b→b < w.heap.size) (hread:ReadsTo K cap S w0 w xs zs (fun _ _ _=>True)) (hz0:0 < zs.length) (hL:w0.cell? ⟨4,0,none⟩=some (ev aL)) :
  Calls Tryz.prog 38 #[.slice A n c,.func (.func K) #[] cap] w fun e w'=>e=.returned (.tuple #[.slice none 0 0,ev aL])∧Kpt S w w':=by
 have hmf:∀ (fn:Fn) (first cap:Array Value) (w:World),(Instr.makeFunc fn first cap).run Tryz.prog w=.ok (.func fn first cap) w:=fun _ _ _ _=>rfl
 have CR:=runL_ok K cap w.heap.size (takeBox w (.slice A n c)) (fun u w'=>InAt w0 w' ((takeBox w (.slice A n c)).heap.size+1) w.heap.size zs∧Kpt (fun b=>b=w.heap.size∨S b) (runBox (takeBox w (.slice A n c)) w.heap.size) w'∧True) hK (hread _ _ _ (Nat.le_refl _) (by rw [takeBox_size];omega) (inAt_run hw hv) (below_takeRun w _))
 have HS:=Lib.hid hS
 have i0:(0:Int) < (zs.length:Int):=by omega
 clear hread hS
 go_enter_defers Tryz.func38,Tryz.ntmps38
 go_wp2_with (go_at_call 60;refine CR.mono ?_;rintro e w1 ⟨u,rfl,hi,hk,_⟩;have p0:w1.cell? ⟨w.heap.size+1,0,none⟩=some (.pointer (some ⟨w.heap.size,0,none⟩)):=kpt_var HS.out hk;have p3:w1.cell? ⟨4,0,none⟩=some (ev aL):=(hi.bel.1.cell (block_lt_of_cell hL)).trans hL;obtain ⟨vz,hz,⟨Az,cz,rfl,_,_⟩,_⟩:=hi;have p1:w1.cell? ⟨w.heap.size,2,none⟩=some (.bool false):=hz.r_.cell 2;have p2:w1.cell? ⟨w.heap.size,0,none⟩=some (.slice Az zs.length cz):=hz.r_.cell 0;have HZ:=Lib.hid hz.r_;have HK:=Lib.hid hk;clear hz hk CR)
 go_quiet (fail)
 go_wp2
 refine leaves_cons (f:=59) (args:=#[.pointer (some ⟨w.heap.size+1,0,none⟩)]) (by simp) (by simp [go_sem]) ?_
 refine (closeL_any (w.heap.size+1) w.heap.size _ _ _ _ (w1.drewN nq) p0 (HZ.out.drewN nq)).mono ?_
 rintro e u' w'' ⟨rfl,rfl,hg⟩
 refine ⟨_,results_tmp2 rfl _ _ _,?_⟩
 exact ⟨rfl,kpt_end (HK.out.trans (Kpt.of_below (below_drewN (Below.refl _ _) nq))) hg⟩
theorem takeL_bad (K:Nat) (cap:Array Value) (S:Nat→Prop) (w0 w:World) (A:Option Addr) (n c:Nat) (xs:List Nat) (ae:Addr) (hK:∀ args w,(callFunc K args).run Tryz.prog w=.ok (.enter K args) w)
  (hw:Below w0.heap.size w0 w) (hv:Rd w0 (.slice A n c) xs) (hS:∀ b,S b→b < w.heap.size) (hread:ReadsBad K cap S w0 w xs ae) :
  Calls Tryz.prog 38 #[.slice A n c,.func (.func K) #[] cap] w fun e w'=>e=.returned (.tuple #[.slice none 0 0,ev ae])∧Kpt S w w':=by
 have hmf:∀ (fn:Fn) (first cap:Array Value) (w:World),(Instr.makeFunc fn first cap).run Tryz.prog w=.ok (.func fn first cap) w:=fun _ _ _ _=>rfl
 have CR:=runL_bad K cap w.heap.size (takeBox w (.slice A n c)) (fun w'=>Dead w' w.heap.size (ev ae)∧Kpt (fun b=>b=w.heap.size∨S b) (runBox (takeBox w (.slice A n c)) w.heap.size) w') hK (hread _ _ _ (Nat.le_refl _) (by rw [takeBox_size];omega) (inAt_run hw hv) (below_takeRun w _)) (fun a h=>kpt_var2 hS h.2) (fun a b h k=>⟨h.1.grown k,h.2.trans (Kpt.of_below k)⟩)
 have HS:=Lib.hid hS
 clear hread hS
 go_enter_defers Tryz.func38,Tryz.ntmps38
 go_wp2_with (go_at_call 60;refine CR.mono ?_;rintro e w1 ⟨rfl,hd,hk⟩;have p0:w1.cell? ⟨w.heap.size+1,0,none⟩=some (.pointer (some ⟨w.heap.size,0,none⟩)):=kpt_var HS.out hk;obtain ⟨vd,hd⟩:=hd;have p1:w1.cell? ⟨w.heap.size,2,none⟩=some (.bool true):=hd.cell 2;have p2:w1.cell? ⟨w.heap.size,3,none⟩=some (ev ae):=hd.cell 3;have HZ:=Lib.hid hd;have HK:=Lib.hid hk;clear hd hk CR)
 go_quiet (fail)
 go_wp2
 refine leaves_cons (f:=59) (args:=#[.pointer (some ⟨w.heap.size+1,0,none⟩)]) (by simp) (by simp [go_sem]) ?_
 refine (closeL_any (w.heap.size+1) w.heap.size _ _ _ _ (w1.drewN nq) p0 (HZ.out.drewN nq)).mono ?_
 rintro e u' w'' ⟨rfl,rfl,hg⟩
 refine ⟨_,results_tmp2 rfl _ _ _,?_⟩
 exact ⟨rfl,kpt_end (HK.out.trans (Kpt.of_below (below_drewN (Below.refl _ _) nq))) hg⟩
end Go.Proofs.YtndgadjeeinedaaGreatDoor
