/- An object is put behind a pack: (*writer).put. -/
import Derived.Maps.RangeWalk
import Derived.Test.YtndgadjeeinedaaGreatDoorMPk18s
namespace Go.Proofs.YtndgadjeeinedaaGreatDoor
open Go Go.RowKit
theorem wrC_33 {it:List Value} (h:it.length=34) (m:Option Nat) (v:Value) (k:Nat) (hk:k < 34):(wrC m it v).toArray[k+1]? = it[k]?:=by
 unfold wrC
 rw [List.getElem?_toArray,List.getElem?_cons_succ,List.getElem?_append_left (by omega)]
theorem wrC_set {it:List Value} (h:it.length=34) (m:Option Nat) (v u:Value):(wrC m it v).toArray.setIfInBounds 35 u=(wrC m it u).toArray:=by
 unfold wrC
 apply Array.ext'
 rw [Array.toList_setIfInBounds]
 show (Value.map m::(it++[v])).set 35 u=_
 rw [List.set_cons_succ,List.set_append_right _ _ (by omega),h]
 rfl
structure WrS (w0 w:World) (g mb B:Nat) (out:List Pk.It) (lid:List Nat) (last:Pk.It) (pk:List Nat) (v:Value):Prop where
 blk:Blk w g 46 (wrC (some mb) (itemC lid last.val last.depth) v).toArray
 map:MapO w mb out.length (fun id=>(Pk.fnd out id).map Pk.It.v)
 outs:∀ p∈out,p.val.oneCell'=true
 own:w.ownsRow B 5 1 v pk.length (cellsB pk)
 lst:Rd w0 last.val last.text∧Sha.Byte last.text∧last.text.length≤300∧last.depth≤5
 lid:Id32 lid∧(lid=Sha.sum last.text∨last.text=[])
 ord:mb < B∧w0.heap.size≤mb∧mb < g∧B≤w.heap.size
 bel:Below w0.heap.size w0 w
 few:out.length≤64∧pk.length≤1000 * (out.length+1)
section
variable {w0 w w':World} {g mb B:Nat} {out:List Pk.It} {lid:List Nat} {last:Pk.It} {pk:List Nat} {v:Value}
theorem WrS.below (h:WrS w0 w g mb B out lid last pk v) (hb:Below w.heap.size w w'):WrS w0 w' g mb B out lid last pk v:=
 ⟨h.blk.below hb h.blk.lt,h.map.below hb,h.outs,h.own.kept (only_of_below hb none) (by cases hv:v.ownBlock with | none=>exact Or.inl rfl | some g=>exact Or.inr (by simp)),h.lst,h.lid,⟨h.ord.1,h.ord.2.1,h.ord.2.2.1,Nat.le_trans h.ord.2.2.2 hb.size⟩,below_then h.bel hb,h.few⟩
theorem WrS.ne (h:WrS w0 w g mb B out lid last pk v):some g≠v.ownBlock∧some mb≠v.ownBlock:=by
 rcases h.own.2 with ⟨hv,_⟩ | ⟨x,cap,cur,hv,hb,hh,_⟩
 ·rw [hv];simp [Value.ownBlock]
 ·rw [hv]
  refine ⟨fun e=>?_,fun e=>?_⟩
  ·obtain rfl:g=x:=by simpa [Value.ownBlock] using e
   have:=h.blk.symm.trans hh
   injection this with this
   injection this with _ e _
   revert e;decide
  ·obtain rfl:mb=x:=by simpa [Value.ownBlock] using e
   have:=h.ord.1
   omega
theorem WrS.val (h:WrS w0 w g mb B out lid last pk v):∃ A c,last.val=.slice A last.text.length c:=by
 obtain ⟨⟨A,c,e,_⟩,_⟩:=h.lst
 exact ⟨A,c,e⟩
theorem WrS.c33 (h:WrS w0 w g mb B out lid last pk v):w.cell? ⟨g,33,none⟩=some last.val∧w.cell? ⟨g,34,none⟩=some (.int .i64 (last.depth:Int))∧w.cell? ⟨g,0,none⟩=some (.map (some mb))∧w.cell? ⟨g,35,none⟩=some v:=by
 have hl:=itemC_len h.lid.1 last.val last.depth
 have ha:=itemC_at lid h.lid.1 last.val last.depth
 rw [List.getElem?_toArray,List.getElem?_toArray] at ha
 exact ⟨(h.blk.cell 33).trans ((wrC_33 hl _ _ 32 (by omega)).trans ha.1),(h.blk.cell 34).trans ((wrC_33 hl _ _ 33 (by omega)).trans ha.2),h.blk.cell 0,(h.blk.cell 35).trans (wrC_at hl _ _)⟩
theorem WrS.next (h:WrS w0 w g mb B out lid last pk v) (hf:out.length < 64) {w1 w2 w3:World} {p:Pk.It} (hp:Rd w0 p.val p.text∧Sha.Byte p.text∧p.text.length≤300∧p.depth≤5) (hm:MapO w1 mb (out.length+1) (updO (fun id=>(Pk.fnd out id).map Pk.It.v) (Sha.sum p.text) p.v)) (h1:w.grownBy w1 (some mb)) (h2:w2=w1.setCells g 1 (itemC (Sha.sum p.text) p.val p.depth)) {bs:List Nat} (hbs:bs.length≤1000) {v':Value} (ho:w3.ownsRow B 5 1 v' (pk++bs).length (cellsB (pk++bs))) (h3:w2.grownBy w3 v.ownBlock) :
  WrS w0 (w3.setCell ⟨g,35,none⟩ v') g mb B (out++[p]) (Sha.sum p.text) p (pk++bs) v':=by
 have hne:=h.ne
 have hord:=h.ord
 have hgm:g≠mb:=by omega
 have g2:w1.grownBy w2 (some g):=by rw [h2];exact grown_cells g _ 1 w1 w1 (World.grownBy.refl w1 _)
 have b1:Blk w1 g 46 (wrC (some mb) (itemC lid last.val last.depth) v).toArray:=h.blk.grown h1 (fun e=>hgm (by injection e))
 have b2:Blk w2 g 46 (wrC (some mb) (itemC (Sha.sum p.text) p.val p.depth) v).toArray:=by
  rw [h2]
  exact blk_cells (t:=46) (g:=g) [v] (itemC (Sha.sum p.text) p.val p.depth) (itemC lid last.val last.depth) [.map (some mb)] 1 w1 (by rw [itemC_len h.lid.1,itemC_len (sum_id _)]) rfl (by simpa [wrC] using b1)
 have b3:Blk w3 g 46 (wrC (some mb) (itemC (Sha.sum p.text) p.val p.depth) v).toArray:=b2.grown h3 hne.1
 have b4:Blk (w3.setCell ⟨g,35,none⟩ v') g 46 (wrC (some mb) (itemC (Sha.sum p.text) p.val p.depth) v').toArray:=by
  have h5:=b3.set_ 35 v'
  rwa [wrC_set (itemC_len (sum_id _) _ _)] at h5
 have g4:w3.grownBy (w3.setCell ⟨g,35,none⟩ v') (some g):=grown_cell _ _ _ _
 have hvb:v'.ownBlock=none∨v'.ownBlock≠some g:=by
  rcases ho.2 with ⟨hv,_⟩ | ⟨x,cap,cur,hv,hb,hh,_⟩
  ·left;rw [hv];rfl
  ·right
   rw [hv]
   intro e
   obtain rfl:x=g:=by simpa [Value.ownBlock] using e
   have:=b3.symm.trans hh
   injection this with this
   injection this with _ e _
   revert e;decide
 have hlow:∀ x,v.ownBlock=some x→w0.heap.size≤x:=fun x hx=>by
  rcases h.own.2 with ⟨hv,_⟩ | ⟨y,cap,cur,hv,hb,hh,_⟩
  ·rw [hv] at hx;simp [Value.ownBlock] at hx
  ·rw [hv] at hx
   obtain rfl:y=x:=by simpa [Value.ownBlock] using hx
   omega
 have k1:Below w0.heap.size w0 w1:=low_kpt h.bel (Kpt.of_grown (S:=fun x=>x=mb) h1 rfl) (fun x hx=>by omega)
 have k2:Below w0.heap.size w0 w2:=low_kpt k1 (Kpt.of_grown (S:=fun x=>x=g) g2 rfl) (fun x hx=>by omega)
 have k3:Below w0.heap.size w0 w3:=low_kpt k2 (S:=fun x=>v.ownBlock=some x) ⟨h3.os,h3.tape,h3.output,h3.size,fun b hb hn=>h3.block b hb (fun e=>hn e.symm)⟩ (fun x hx=>hlow x hx)
 have k4:Below w0.heap.size w0 (w3.setCell ⟨g,35,none⟩ v'):=low_kpt k3 (Kpt.of_grown (S:=fun x=>x=g) g4 rfl) (fun x hx=>by omega)
 refine ⟨b4,?_,fun q hq=>?_,ho.kept g4 hvb,hp,⟨sum_id _,Or.inl rfl⟩,⟨by omega,by omega,by omega,?_⟩,k4,?_⟩
 ·have hm2:=hm.ext (g:=fun id=>(Pk.fnd (out++[p]) id).map Pk.It.v) (fun x _=>by
   unfold updO
   rw [Pk.fnd_snoc]
   split<;>rfl)
  rw [List.length_append]
  exact ((hm2.kept g2 (fun e=>hgm (by injection e with e;exact e.symm))).kept h3 hne.2).kept g4 (fun e=>hgm (by injection e with e;exact e.symm))
 ·rcases List.mem_append.1 hq with hq | hq
  ·exact h.outs q hq
  ·rw [List.mem_singleton.1 hq]
   obtain ⟨⟨A,c,e,_⟩,_⟩:=hp
   rw [e];rfl
 ·exact Nat.le_trans hord.2.2.2 (Nat.le_trans h1.size (Nat.le_trans g2.size (Nat.le_trans h3.size g4.size)))
 ·rw [List.length_append,List.length_append,List.length_singleton]
  have:=h.few
  omega
end
def PutPost (w0:World) (g mb B:Nat) (out:List Pk.It) (last:Pk.It) (pk:List Nat) (a:Nat→Addr) (t:List Nat) (tv:Value) (e:Ending) (w':World):Prop:=
 (Pk.adm (out.map Pk.It.item) t=0→∃ v',e=.returned .nilIface∧WrS w0 w' g mb B (out++[⟨t,(Pk.lays last.item t).2,tv⟩]) (Sha.sum t) ⟨t,(Pk.lays last.item t).2,tv⟩ (pk++(Pk.lays last.item t).1) v') ∧
 (Pk.adm (out.map Pk.It.item) t≠0→e=.returned (ecode a (Pk.adm (out.map Pk.It.item) t))∧Below w0.heap.size w0 w')
theorem fl_info:(Tryz.prog.info? 72).map (fun i=>(i.zero,i.size,i.bytes))=some (some (.agg #[.int .i64 0,.slice none 0 0]),2,32):=by kernel_rfl
theorem fill_two (zc:Array Value) (x0 x1 y0 y1:Value):Instr.fill (fun i=>some (i * 2,2)) ((Array.range (2 * 2)).map (zc[· % zc.size]!)) [(0,.agg #[x0,x1]),(1,.agg #[y0,y1])]=some #[x0,x1,y0,y1]:=by
 obtain ⟨old,ho⟩:∃ old:List Value,(Array.range (2 * 2)).map (zc[· % zc.size]!)=old.toArray:=⟨_,(Array.toArray_toList ..).symm⟩
 have hl:old.length=4:=by
  have:=congrArg Array.size ho
  simpa using this.symm
 rw [ho]
 match old,hl with
 | [a,b,c,d],_=>rfl
theorem fill_three (zc:Array Value) (x0 x1 y0 y1 z0 z1:Value):Instr.fill (fun i=>some (i * 2,2)) ((Array.range (3 * 2)).map (zc[· % zc.size]!)) [(0,.agg #[x0,x1]),(1,.agg #[y0,y1]),(2,.agg #[z0,z1])]=some #[x0,x1,y0,y1,z0,z1]:=by
 obtain ⟨old,ho⟩:∃ old:List Value,(Array.range (3 * 2)).map (zc[· % zc.size]!)=old.toArray:=⟨_,(Array.toArray_toList ..).symm⟩
 have hl:old.length=6:=by
  have:=congrArg Array.size ho
  simpa using this.symm
 rw [ho]
 match old,hl with
 | [a,b,c,d,e,f],_=>rfl
theorem wrC_id {w:World} {g t mb:Nat} {lid:List Nat} {x v:Value} {d:Nat} (h:Blk w g t (wrC (some mb) (itemC lid x d) v).toArray) (hl:Id32 lid):Rd w (.slice (some ⟨g,1,none⟩) 32 32) lid:=
 ⟨_,32,by rw [hl.1],by rw [hl.1];exact Nat.le_refl _,fun _=>⟨g,1,rfl,h.lt,fun i hi=>(h.cell (1+i)).trans (by
  rw [Nat.add_comm 1 i,wrC_33 (itemC_len hl _ _) _ _ i (by have:=hl.1;omega)]
  unfold itemC
  rw [List.getElem?_append_left (by rw [cellsB_len];exact hi)]
  exact cellsB_get hi)⟩⟩
theorem mk_len_le (base target:List Nat):(Dl.mk base target).length≤4+2 * target.length:=by
 obtain ⟨k,_,_,h⟩:=Dl.mk_count base target
 exact h
set_option maxRecDepth 100000 in
set_option maxHeartbeats 8000000 in
theorem pput_any {w0 w:World} {g mb B:Nat} {out:List Pk.It} {lid:List Nat} {last:Pk.It} {pk:List Nat} {v:Value} (a:Nat→Addr) (t:List Nat) (At:Option Addr) (nt ct:Nat) (h:WrS w0 w g mb B out lid last pk v) (hr:Rd w0 (.slice At nt ct) t) (hb:Sha.Byte t) (hz:t.length≤100000) (hf:out.length < 64) (ht:Tabs w0) (hS:KSents w0 a) (hm:∃ m,w0.cell? ⟨23,0,none⟩=some (.int .i64 m)) :
  Calls Tryz.prog 12 #[.pointer (some ⟨g,0,none⟩),.slice At nt ct] w (PutPost w0 g mb B out last pk a t (.slice At nt ct)):=by
 have hnt:nt=t.length:=by obtain ⟨_,_,hv,_⟩:=hr;injection hv
 have p0:w.cell? ⟨g,0,none⟩=some (.map (some mb)):=h.c33.2.2.1
 have CM:=admit_any mb out.length nt ct At t out a w (hr.below h.bel (Nat.le_refl _)) hb hz (ht.below h.bel (Nat.le_refl _)) (hS.at_ h.bel) h.map h.outs
 have HW:=Lib.hid h
 have HTX:=Lib.hid hr
 have HBT:=Lib.hid hb
 have HF64:=Lib.hid hf
 have HTB:=Lib.hid ht
 have HS:=Lib.hid hS
 have HMX:=Lib.hid hm
 have HNT:=Lib.hid hnt
 have HS5:=Lib.hid (sum_id t)
 have HLID:=Lib.hid h.lid.1
 clear h hr hb hz hf ht hS hm hnt
 by_cases had:Pk.adm (out.map Pk.It.item) t=0
 ·simp only [if_pos had] at CM
  have HAD:=Lib.hid had
  have HT300:Hid (t.length≤300):=Lib.hid (Pk.admit_zero had).1
  clear had
  go_enter Tryz.func12,Tryz.ntmps12
  go_wp2_with (go_at_call 23;refine pause ?_)
  unfold Paused
  refine CM.mono ?_
  rintro e w3 ⟨rfl,hb3⟩
  have HW3:=Lib.hid (HW.out.below hb3)
  clear hb3 CM p0
  go_wp2_with (with_reducible (show wpList _ _ _ (Oper.mk _ (Op.store 44 _ _) _ _ _ _::_) _ _);refine pause ?_)
  unfold Paused
  change wpList _ _ _ _ _ (w3.alloc (.cells (itemC zid nilV 0).toArray 44))
  refine wpList_store_row (by rfl) 44 (.tmp 5) (.tmp 16) (by rfl) w3.heap.size (itemC (Sha.sum t) (.slice At nt ct) 0).toArray (by rfl) (by rfl) 44 (itemC zid nilV 0).toArray (Blk.new w3 _ _) (by rw [List.size_toArray,itemC_len HS5.out];exact item_size) (by rw [List.size_toArray,List.size_toArray,itemC_len HS5.out];rfl) (itemC_one rfl 0) ?_
  have b4:Below w3.heap.size w3 ((w3.alloc (.cells (itemC zid nilV 0).toArray 44)).setRow w3.heap.size (itemC (Sha.sum t) (.slice At nt ct) 0).toArray):=below_row ((Below.refl _ _).alloc (Nat.le_refl _) _) (Nat.le_refl _) _
  have hX4:Blk ((w3.alloc (.cells (itemC zid nilV 0).toArray 44)).setRow w3.heap.size (itemC (Sha.sum t) (.slice At nt ct) 0).toArray) w3.heap.size 44 (itemC (Sha.sum t) (.slice At nt ct) 0).toArray:=(Blk.new w3 _ _).row _
  generalize (w3.alloc (.cells (itemC zid nilV 0).toArray 44)).setRow w3.heap.size (itemC (Sha.sum t) (.slice At nt ct) 0).toArray=w4 at hX4 b4 ⊢
  obtain ⟨g5,hg5⟩:∃ x,x=w3.heap.size:=⟨_,rfl⟩
  rw [←hg5] at hX4 ⊢
  have HG5:=Lib.hid hg5
  have HX4:=Lib.hid hX4
  have HB4:=Lib.hid b4
  have hW4:=HW3.out.below b4
  have HW4:=Lib.hid hW4
  obtain ⟨Al,cl,hval⟩:=hW4.val
  have p33:w4.cell? ⟨g,33,none⟩=some (.slice Al last.text.length cl):=by rw [←hval];exact hW4.c33.1
  have CMK:=dmake_any (.slice Al last.text.length cl) (.slice At nt ct) last.text t w4 (by rw [←hval];exact hW4.lst.1.below hW4.bel (Nat.le_refl _)) (HTX.out.below hW4.bel (Nat.le_refl _)) hW4.lst.2.1 HBT.out hW4.lst.2.2.1 HT300.out (by obtain ⟨m,hm⟩:=HMX.out;exact ⟨m,(hW4.bel.cell (block_lt_of_cell hm)).trans hm⟩)
  have HLD:Hid (last.depth≤5):=Lib.hid hW4.lst.2.2.2
  have HLB:Hid (Sha.Byte last.text∧last.text.length≤300):=Lib.hid ⟨hW4.lst.2.1,hW4.lst.2.2.1⟩
  have HML:Hid ((Dl.mk last.text t).length≤604):=Lib.hid (by have h1:=mk_len_le last.text t;have h2:=HT300.out;omega)
  have HLAY:Hid (Pk.lays last.item t=if last.depth < 5∧(Dl.mk last.text t).length+40≤t.length then ((1::Sha.sum last.text)++([(Dl.mk last.text t).length / 256,(Dl.mk last.text t).length % 256]++Dl.mk last.text t),last.depth+1) else (0::([t.length / 256,t.length % 256]++t),0)):=Lib.hid rfl
  have HMN:Hid (last.text=[]→t.length < (Dl.mk last.text t).length+40):=Lib.hid (fun h=>by rw [h];exact Pk.mk_none t)
  obtain ⟨d,hd⟩:∃ d,d=Dl.mk last.text t:=⟨_,rfl⟩
  rw [←hd] at CMK HML HLAY HMN
  generalize last.text.length=nl at p33 CMK hval
  clear hX4 b4 hg5 hW4 hd hval
  simp only [Act.put]
  go_wp2_with (go_at_call 24;refine pause ?_)
  unfold Paused
  refine CMK.mono ?_
  rintro e w5 ⟨v5,rfl,hp5⟩
  obtain ⟨A5,c5,rfl⟩:=hp5.len
  have HB5:=Lib.hid (HB4.out.trans (hp5.bel.mono HB4.out.size))
  have HD5:=Lib.hid hp5.rd
  have HX5:=Lib.hid (HX4.out.below hp5.bel HX4.out.lt)
  have p34:w5.cell? ⟨g,34,none⟩=some (.int .i64 (last.depth:Int)):=(HW3.out.below HB5.out).c33.2.1
  have HOD:Hid (OffB (.slice A5 d.length c5) g):=Lib.hid (off_of_new (newAt_own hp5.own) HW4.out.blk.lt)
  have HOD5:Hid (OffB (.slice A5 d.length c5) g5):=Lib.hid (off_of_new (newAt_own hp5.own) HX4.out.lt)
  clear hp5 CMK p33
  obtain ⟨nd,hnd⟩:∃ n,d.length=n:=⟨_,rfl⟩
  have HND:=Lib.hid hnd
  rw [hnd] at HML HLAY HMN HD5 HOD HOD5 ⊢
  clear hnd
  by_cases hsv:last.depth < 5∧nd+40≤nt
  ·have LAYEQ:Hid (Pk.lays last.item t=((1::Sha.sum last.text)++([nd / 256,nd % 256]++d),last.depth+1)):=Lib.hid (by have h1:=HLAY.out;rw [←HNT.out,if_pos hsv] at h1;exact h1)
   obtain ⟨q,hq⟩:∃ q,q=(1::Sha.sum last.text)++([nd / 256,nd % 256]++d):=⟨_,rfl⟩
   rw [←hq] at LAYEQ
   have HDP:Hid (last.depth+1≤5):=Lib.hid hsv.1
   have HLS:Hid (lid=Sha.sum last.text):=Lib.hid (by
    rcases HW3.out.lid.2 with h | h
    ·exact h
    ·have h1:=HMN.out h;rw [←HNT.out] at h1;omega)
   have HQL:Hid (q.length≤1000):=Lib.hid (by rw [hq];have h1:=HML.out;have h2:=HND.out;have h3:=HLS.out▸HLID.out.1;simp only [List.length_append,List.length_cons,List.length_nil];omega)
   have HQE:=Lib.hid hq
   clear hq
   have d1:(last.depth:Int) < 5:=by omega
   have w1:wrap64 ((nd:Int)+40)=(nd:Int)+40:=IntWalk.wrap64_in _ (by have h1:=HML.out;omega)
   have w2:wrap64 ((last.depth:Int)+1)=(last.depth:Int)+1:=IntWalk.wrap64_in _ (by omega)
   have d2:(nd:Int)+40≤(nt:Int):=by omega
   have p533:w5.cell? ⟨g5,33,none⟩=some (.int .i64 0):=(HX5.out.cell 33).trans (itemC_at _ HS5.out _ _).2
   have z533:w5.frozen? ⟨g5,33,none⟩=false:=HX5.out.frozen 33
   have hm:Tryz.prog.follows .mixedOrders=true:=by kernel_rfl
   clear hsv
   go_wp2_with (with_reducible (show wpList _ _ _ (Oper.mk _ (Op.store 3 _ _) _ _ _ _::_) _ _);refine pause ?_)
   unfold Paused
   go_wp2
   have hg6:w5.grownBy (w5.setCell ⟨g5,33,none⟩ (.int .i64 ((last.depth:Int)+1))) (some g5):=grown_cell _ _ _ _
   have HB6:Hid (Below w3.heap.size w3 (w5.setCell ⟨g5,33,none⟩ (.int .i64 ((last.depth:Int)+1)))):=Lib.hid (below_of_only HB5.out hg6 (Nat.le_of_eq HG5.out.symm))
   have HX6:Hid (Blk (w5.setCell ⟨g5,33,none⟩ (.int .i64 ((last.depth:Int)+1))) g5 44 (itemC (Sha.sum t) (.slice At nt ct) (last.depth+1)).toArray):=Lib.hid (by have h:=HX5.out.set_ 33 (.int .i64 ((last.depth+1:Nat):Int));rwa [itemC_set _ HS5.out] at h)
   have HD6:Hid (Rd (w5.setCell ⟨g5,33,none⟩ (.int .i64 ((last.depth:Int)+1))) (.slice A5 nd c5) d):=Lib.hid (rd_off HD5.out hg6 HOD5.out)
   clear hg6 p533 z533 p34 d1 d2 w1 w2
   generalize w5.setCell ⟨g5,33,none⟩ (.int .i64 ((last.depth:Int)+1))=w5b at HB6 HX6 HD6 ⊢
   refine wp_region_held (S:=fun _=>True) hm ?_
   change wpAnyH _ _ _ _ _ _ _ _ w5b.drew
   refine wpAnyH_take (i:=1) (v:=?_) rfl (by kernel_rfl) (by kernel_rfl) (by kernel_rfl) (fun _ _ _ h=>h) (Or.inl ⟨by rfl,?_⟩) trivial ?_
   rotate_left
   ·intro w' _;go_simp;with_reducible rfl
   try go_frame
   refine wpAnyH_take (i:=2) (v:=?_) rfl (by kernel_rfl) (by kernel_rfl) (by kernel_rfl) (fun _ _ _ h=>h) (Or.inl ⟨by rfl,?_⟩) trivial ?_
   rotate_left
   ·intro w' _;go_simp;with_reducible rfl
   try go_frame
   refine wpAnyH_take (i:=3) (v:=?_) rfl (by kernel_rfl) (by kernel_rfl) (by kernel_rfl) (fun _ _ _ h=>h) (Or.inl ⟨by rfl,?_⟩) trivial ?_
   rotate_left
   ·intro w' _;go_simp;with_reducible rfl
   try go_frame
   refine wpAnyH_take (i:=4) (v:=?_) rfl (by kernel_rfl) (by kernel_rfl) (by kernel_rfl) (fun _ _ _ h=>h) (Or.inl ⟨by rfl,?_⟩) trivial ?_
   rotate_left
   ·intro w' _;go_simp;with_reducible rfl
   try go_frame
   refine wpAnyH_take (i:=5) (v:=.slice (some ⟨g,1,none⟩) 32 32) rfl (by kernel_rfl) (by kernel_rfl) (by kernel_rfl) (fun _ _ _ h=>h) (Or.inl ⟨by rfl,?_⟩) trivial ?_
   ·intro w' _;go_simp
   try go_frame
   refine wpAnyH_take (i:=7) (v:=?_) rfl (by kernel_rfl) (by kernel_rfl) (by kernel_rfl) (fun _ _ _ h=>h) (Or.inl ⟨by rfl,?_⟩) trivial ?_
   rotate_left
   ·intro w' _;go_simp;with_reducible rfl
   try go_frame
   refine all_one (i:=0) (by kernel_rfl) rfl (by rfl) (fun K hK=>?_)
   go_simp
   refine (pnum_any 1 w5b.drew).mono ?_
   rintro e w5c ⟨rfl,hb⟩
   have hb1:=below_then (below_drewN (Below.refl _ w5b) 1) hb
   have HB6:=Lib.hid (below_then HB6.out hb1)
   have HX6:=Lib.hid (HX6.out.drew.below hb HX6.out.lt)
   have HD6:=Lib.hid (HD6.out.below hb1 (Nat.le_refl _))
   clear hb hb1
   refine hK _ _ trivial ?_
   try go_frame
   refine all_one (i:=6) (by kernel_rfl) rfl (by rfl) (fun K hK=>?_)
   go_simp
   refine (pbytes_any (some ⟨g,1,none⟩) 32 32 (Sha.sum last.text) w5c (HLS.out▸wrC_id (HW3.out.below HB6.out).blk HLID.out) (by rw [(sum_id _).1];omega)).mono ?_
   rintro e w5d ⟨A7,c7,rfl,hr,hb⟩
   have HB6:=Lib.hid (HB6.out.trans (hb.mono HB6.out.size))
   have HX6:=Lib.hid (HX6.out.below hb HX6.out.lt)
   have HD6:=Lib.hid (HD6.out.below hb (Nat.le_refl _))
   have HI6:=Lib.hid hr
   clear hb hr
   refine hK _ _ trivial ?_
   try go_frame
   refine all_one (i:=8) (by kernel_rfl) rfl (by rfl) (fun K hK=>?_)
   go_simp
   refine (pbytes_any A5 nd c5 d w5d HD6.out (by have h1:=HML.out;have h2:=HND.out;omega)).mono ?_
   rintro e w5e ⟨A8,c8,rfl,hr,hb⟩
   have HB6:=Lib.hid (HB6.out.trans (hb.mono HB6.out.size))
   have HX6:=Lib.hid (HX6.out.below hb HX6.out.lt)
   have HI6:=Lib.hid (HI6.out.below hb (Nat.le_refl _))
   have HD6:=Lib.hid hr
   clear hb hr
   refine hK _ _ trivial ?_
   try go_frame
   obtain ⟨ei,hei,hez,hes,heb⟩:=info_parts fl_info
   have HEI:=Lib.hid (And.intro hei (And.intro hez (And.intro hes heb)))
   clear hei hez hes heb
   refine all_one (i:=9) (by kernel_rfl) rfl (by rfl) (fun K hK=>?_)
   refine wp_buildSliceK 112 72 3 _ (by rfl) #[.int .i64 1,.slice none 0 0,.int .i64 0,.slice A7 (Sha.sum last.text).length c7,.int .i64 0,.slice A8 d.length c8] ei _ Tryz.underlying112 HEI.out.1 HEI.out.2.1 (by rw [HEI.out.2.2.1];decide) (by rw [HEI.out.2.2.1];decide) [(0,.agg #[.int .i64 1,.slice none 0 0]),(1,.agg #[.int .i64 0,.slice A7 (Sha.sum last.text).length c7]),(2,.agg #[.int .i64 0,.slice A8 d.length c8])] (by kernel_rfl) (by rw [HEI.out.2.2.1];exact fill_three _ _ _ _ _ _ _) ?_
   have CW:=write_bot (some ⟨w5e.heap.size,0,none⟩) w5e.heap.size 3 A7 A8 c7 c8 (Sha.sum last.text) d a _ (Blk.new w5e 72 #[.int .i64 1,.slice none 0 0,.int .i64 0,.slice A7 (Sha.sum last.text).length c7,.int .i64 0,.slice A8 d.length c8]) rfl (rd_alloc HI6.out _) (sum_id _).1 (rd_alloc HD6.out _) (by have h1:=HML.out;have h2:=HND.out;omega) (HS.out.at_ (below_then HW3.out.bel (below_then (HB6.out) ((Below.refl _ _).alloc (Nat.le_refl _) _))))
   have HB6:=Lib.hid (below_then HB6.out ((Below.refl w5e.heap.size w5e).alloc (Nat.le_refl _) (.cells #[.int .i64 1,.slice none 0 0,.int .i64 0,.slice A7 (Sha.sum last.text).length c7,.int .i64 0,.slice A8 d.length c8] 72)))
   have HX6:=Lib.hid (HX6.out.alloc (.cells #[.int .i64 1,.slice none 0 0,.int .i64 0,.slice A7 (Sha.sum last.text).length c7,.int .i64 0,.slice A8 d.length c8] 72))
   generalize (w5e.alloc (.cells #[.int .i64 1,.slice none 0 0,.int .i64 0,.slice A7 (Sha.sum last.text).length c7,.int .i64 0,.slice A8 d.length c8] 72))=w6 at CW HB6 HX6 ⊢
   rw [HND.out,←HQE.out] at CW
   refine hK _ _ trivial ?_
   try go_frame
   refine all_one (i:=10) (by kernel_rfl) rfl (by rfl) (fun K hK=>?_)
   go_simp
   refine CW.mono ?_
   rintro e w7 ⟨v7,rfl,hp7⟩
   obtain ⟨A6,c6,rfl⟩:=hp7.len
   have H37:=Lib.hid (HB6.out.trans (hp7.bel.mono HB6.out.size))
   have HX7:=Lib.hid (HX6.out.below hp7.bel HX6.out.lt)
   have HQ7:=Lib.hid hp7.rd
   have HOQ:Hid (OffB (.slice A6 q.length c6) g):=Lib.hid (off_of_new (newAt_own hp7.own) (by have h1:=HW3.out.blk.lt;have h2:=HB6.out.size;omega))
   clear hp7 CW
   refine hK _ _ trivial ?_
   try go_frame
   refine all_one (i:=11) (by kernel_rfl) rfl (by rfl) (fun K hK=>?_)
   go_simp
   refine hK _ _ trivial ?_
   try go_frame
   refine wpAnyH_take (i:=12) (v:=?_) rfl (by kernel_rfl) (by kernel_rfl) (by kernel_rfl) (fun _ _ _ h=>h) (Or.inl ⟨by rfl,?_⟩) trivial ?_
   rotate_left
   ·intro w' _;go_simp;with_reducible rfl
   try go_frame
   refine wpAnyH_take (i:=13) (v:=?_) rfl (by kernel_rfl) (by kernel_rfl) (by kernel_rfl) (fun _ _ _ h=>h) (Or.inl ⟨by rfl,?_⟩) trivial ?_
   rotate_left
   ·intro w' _;go_simp;with_reducible rfl
   try go_frame
   refine all_one (i:=14) (by kernel_rfl) rfl (by rfl) (fun K hK=>?_)
   go_simp
   refine hK _ _ trivial ?_
   try go_frame
   refine all_one (i:=15) (by kernel_rfl) rfl (by rfl) (fun K hK=>?_)
   go_simp
   refine hK _ _ trivial ?_
   try go_frame
   refine wpAnyH_done (by kernel_rfl) ?_ _
   go_wp2
   have h37:Below w3.heap.size w3 w7.drew:=below_drewN H37.out 1
   have HW7:=Lib.hid (HW3.out.below h37)
   have p1:w7.drew.cell? ⟨g,0,none⟩=some (.map (some mb)):=HW7.out.c33.2.2.1
   obtain ⟨w8,hrun,hm8,hg8⟩:=HW7.out.map.store Tryz.underlying40 (by have:=HW7.out.few;unfold maxLen;omega) HS5.out (.agg (itemC (Sha.sum t) (.slice At nt ct) (last.depth+1)).toArray)
   have hrun':(Instr.mapUpdate 40 (.map (some mb)) (.agg (cellsB (Sha.sum t)).toArray) (.agg (itemC (Sha.sum t) (.slice At nt ct) (last.depth+1)).toArray)).run Tryz.prog w7.drew=.ok () w8:=hrun
   have HM8:=Lib.hid hm8
   have HG8:=Lib.hid hg8
   have HX8:Hid (Blk w8 g5 44 (itemC (Sha.sum t) (.slice At nt ct) (last.depth+1)).toArray):=Lib.hid (HX7.out.drew.grown hg8 (fun e=>by injection e with e;have h1:=HW3.out.ord;have h2:=HG5.out;have h3:=HW3.out.blk.lt;omega))
   have HQ8:Hid (Rd w8 (.slice A6 q.length c6) q):=Lib.hid (rd_kpt (HQ7.out.below (below_drewN (Below.refl _ w7) 1) (Nat.le_refl _)) (Kpt.of_grown (S:=fun x=>x=mb) hg8 rfl) (fun x hx=>by subst hx;exact noU_map HW7.out.map))
   have HB8:Hid (Blk w8 g 46 (wrC (some mb) (itemC lid last.val last.depth) v).toArray):=Lib.hid (HW7.out.blk.grown hg8 (fun e=>by injection e with e;have h1:=HW3.out.ord;omega))
   clear hrun hm8 hg8 h37
   refine wp_region_upto (S:=fun w'=>w'=w7.drew) (b:=7) (by kernel_rfl) ?_
   change Upto _ _ _ _ _ _ _ _ _ w7.drew
   refine Upto.take (i:=0) (v:=?_) rfl (by kernel_rfl) (by kernel_rfl) (by kernel_rfl) (by kernel_rfl) (fun _ _ _ h=>h) (Or.inl ⟨by rfl,?_⟩) rfl ?_
   rotate_left
   ·rintro w' rfl;go_simp;with_reducible rfl
   try go_frame
   refine Upto.take (i:=1) (v:=?_) rfl (by kernel_rfl) (by kernel_rfl) (by kernel_rfl) (by kernel_rfl) (fun _ _ _ h=>h) (Or.inl ⟨by rfl,?_⟩) rfl ?_
   rotate_left
   ·rintro w' rfl;go_simp;with_reducible rfl
   try go_frame
   refine Upto.take (i:=2) (v:=?_) rfl (by kernel_rfl) (by kernel_rfl) (by kernel_rfl) (by kernel_rfl) (fun _ _ _ h=>h) (Or.inl ⟨by rfl,?_⟩) rfl ?_
   rotate_left
   ·rintro w' rfl;go_simp;with_reducible rfl
   try go_frame
   refine Upto.take (i:=3) (v:=?_) rfl (by kernel_rfl) (by kernel_rfl) (by kernel_rfl) (by kernel_rfl) (fun _ _ _ h=>h) (Or.inl ⟨by rfl,?_⟩) rfl ?_
   rotate_left
   ·rintro w' rfl;go_simp;with_reducible rfl
   try go_frame
   refine Upto.take (i:=4) (v:=?_) rfl (by kernel_rfl) (by kernel_rfl) (by kernel_rfl) (by kernel_rfl) (fun _ _ _ h=>h) (Or.inl ⟨by rfl,?_⟩) rfl ?_
   rotate_left
   ·rintro w' rfl;go_simp;with_reducible rfl
   try go_frame
   refine Upto.take (i:=5) (v:=.agg (cellsB (Sha.sum t)).toArray) rfl (by kernel_rfl) (by kernel_rfl) (by kernel_rfl) (by kernel_rfl) (fun _ _ _ h=>h) (takes_mid 42 (.tmp 84) rfl (by rfl) g5 0 rfl (cellsB (Sha.sum t)) _ (fun w' hw=>by rw [hw];exact item_idx HX7.out.drew) Tryz.underlying42 rfl (by rw [cellsB_len,HS5.out.1];exact oid_load)) rfl ?_
   try go_frame
   refine Upto.take (i:=6) (v:=.agg (itemC (Sha.sum t) (.slice At nt ct) (last.depth+1)).toArray) rfl (by kernel_rfl) (by kernel_rfl) (by kernel_rfl) (by kernel_rfl) (fun _ _ _ h=>h) (takes_row 44 (.tmp 5) rfl (by rfl) g5 rfl 44 (itemC (Sha.sum t) (.slice At nt ct) (last.depth+1)).toArray _ (fun w' hw=>by rw [hw];exact HX7.out.drew) Tryz.underlying44 rfl (by rw [List.size_toArray,itemC_len HS5.out];exact item_size)) rfl ?_
   try go_frame
   refine Upto.one (i:=7) (by kernel_rfl) rfl (by rfl) (fun K hK=>?_)
   go_simp
   refine hK _ _ (fun h=>absurd rfl h) ?_
   try go_frame
   refine Upto.done (by kernel_rfl) ?_ _
   clear hrun' p1
   go_wp2_with (with_reducible (show wpList _ _ _ (Oper.mk _ (Op.load 44 _) _ _ _ _::_) _ _);refine pause ?_)
   unfold Paused
   refine wpList_row_w (by rfl) 44 (.tmp 5) (by rfl) g5 (by rfl) 44 _ _ HX8.out Tryz.underlying44 (by rfl) (by rw [List.size_toArray,itemC_len HS5.out];exact item_size) ?_
   go_wp2_with (with_reducible (show wpList _ _ _ (Oper.mk _ (Op.store 44 _ _) _ _ _ _::_) _ _);refine pause ?_)
   unfold Paused
   refine wpList_store_mid (by rfl) 44 (.tmp 90) (.tmp 88) (by rfl) g 1 (itemC (Sha.sum t) (.slice At nt ct) (last.depth+1)).toArray (by rfl) (by rfl) (there_of HB8.out (by rw [List.size_toArray,List.size_toArray,itemC_len HS5.out,wrC_len (itemC_len HLID.out _ _)];omega)) (by rw [List.size_toArray,itemC_len HS5.out];exact item_size) (itemC_one rfl _) ?_
   obtain ⟨w9,hw9⟩:∃ w9,w9=w8.setCells g 1 (itemC (Sha.sum t) (.slice At nt ct) (last.depth+1)):=⟨_,rfl⟩
   have HW9:=Lib.hid hw9
   have hg9:w8.grownBy w9 (some g):=by rw [hw9];exact grown_cells g _ 1 w8 w8 (World.grownBy.refl w8 _)
   change wpList _ _ _ _ _ (w8.setCells g 1 (itemC (Sha.sum t) (.slice At nt ct) (last.depth+1)))
   rw [←hw9]
   have hQ9:Rd w9 (.slice A6 q.length c6) q:=rd_off HQ8.out hg9 (HOQ.out)
   have hO9:w9.ownsRow B 5 1 v pk.length (cellsB pk):=(HW7.out.own.kept HG8.out (Or.inr (fun e=>HW7.out.ne.2 e.symm))).kept hg9 (Or.inr (fun e=>HW7.out.ne.1 e.symm))
   have p35:w9.cell? ⟨g,35,none⟩=some v:=by
    have h9:Blk w9 g 46 (wrC (some mb) (itemC (Sha.sum t) (.slice At nt ct) (last.depth+1)) v).toArray:=by
     rw [hw9]
     exact blk_cells (t:=46) (g:=g) [v] (itemC (Sha.sum t) (.slice At nt ct) (last.depth+1)) (itemC lid last.val last.depth) [.map (some mb)] 1 w8 (by rw [itemC_len HLID.out,itemC_len HS5.out]) rfl (by simpa [wrC] using HB8.out)
    exact (h9.cell 35).trans (wrC_at (itemC_len HS5.out _ _) _ _)
   have hB9:B≤w9.heap.size:=Nat.le_trans HW7.out.ord.2.2.2 (Nat.le_trans HG8.out.size hg9.size)
   have HQ9:=Lib.hid hQ9
   have HO9:=Lib.hid hO9
   have HB9:=Lib.hid hB9
   have HGB:Hid (∃ cs:Array Value,Blk w9 g 46 cs):=Lib.hid (by rw [hw9];exact ⟨_,blk_cells (t:=46) (g:=g) [v] (itemC (Sha.sum t) (.slice At nt ct) (last.depth+1)) (itemC lid last.val last.depth) [.map (some mb)] 1 w8 (by rw [itemC_len HLID.out,itemC_len HS5.out]) rfl (by simpa [wrC] using HB8.out)⟩)
   clear hQ9 hO9 hB9 hw9 hg9
   simp only [Act.put]
   go_wp2_with (with_reducible (show wpList _ _ _ (Oper.mk _ (Op.call (Call.mk (Callee.builtin Builtin.append) _ _)) _ _ _ _::_) _ _);refine pause ?_)
   unfold Paused
   refine wpList_appendB rfl (.tmp 95) (.tmp 96) rfl B v pk rfl HO9.out HB9.out _ rfl q HQ9.out (by have h1:=HW3.out.few;have h2:=HQL.out;omega) ?_
   intro v10 w10 ho10 hg10
   obtain ⟨A10,n10,c10,rfl⟩:∃ A n c,v10=.slice A n c:=by
    rcases ho10.2 with ⟨hv,_⟩ | ⟨_,_,_,hv,_⟩
    ·exact ⟨_,_,_,hv⟩
    ·exact ⟨_,_,_,hv⟩
   have HF:Hid (WrS w0 (w10.setCell ⟨g,35,none⟩ (.slice A10 n10 c10)) g mb B (out++[⟨t,(last.depth+1),.slice At nt ct⟩]) (Sha.sum t) ⟨t,(last.depth+1),.slice At nt ct⟩ (pk++q) (.slice A10 n10 c10)):=Lib.hid (HW7.out.next HF64.out (p:=⟨t,(last.depth+1),.slice At nt ct⟩) ⟨HTX.out,HBT.out,HT300.out,HDP.out⟩ HM8.out HG8.out HW9.out HQL.out ho10 hg10)
   have p35:w10.cell? ⟨g,35,none⟩=some v:=by
    obtain ⟨cs,hcs⟩:=HGB.out
    exact hg10.cell p35 (fun e=>HW7.out.ne.1 e)
   have z35:w10.frozen? ⟨g,35,none⟩=false:=by
    obtain ⟨cs,hcs⟩:=HGB.out
    exact (hcs.grown hg10 HW7.out.ne.1).frozen 35
   clear ho10 hg10
   go_wp2
   go_ret
   exact ⟨fun _=>⟨_,rfl,by rw [LAYEQ.out];exact HF.out⟩,fun h=>absurd HAD.out h⟩
  ·skip
   have LAYEQ:Hid (Pk.lays last.item t=(0::([t.length / 256,t.length % 256]++t),0)):=Lib.hid (by have h1:=HLAY.out;rw [←HNT.out,if_neg hsv] at h1;rw [h1,HNT.out])
   obtain ⟨q,hq⟩:∃ q,q=0::([t.length / 256,t.length % 256]++t):=⟨_,rfl⟩
   rw [←hq] at LAYEQ
   have HDP:Hid (0≤5):=Lib.hid (Nat.zero_le _)
   have HQL:Hid (q.length≤1000):=Lib.hid (by rw [hq];have h1:=HT300.out;simp only [List.length_append,List.length_cons,List.length_nil];omega)
   have HQE:=Lib.hid hq
   clear hq
   have w1:wrap64 ((nd:Int)+40)=(nd:Int)+40:=IntWalk.wrap64_in _ (by have h1:=HML.out;omega)
   by_cases h5:last.depth < 5
   ·have d1:(last.depth:Int) < 5:=by omega
    have d2:¬(nd:Int)+40≤(nt:Int):=by have h1:¬nd+40≤nt:=fun h=>hsv ⟨h5,h⟩;omega
    have d3:(nt:Int) < (nd:Int)+40:=by omega
    clear hsv h5
    go_wp2_with (go_at_call 26;refine pause ?_)
    unfold Paused
    refine (pnum_any 0 w5).mono ?_
    rintro e w5c ⟨rfl,hb⟩
    have HB6:=Lib.hid (below_then HB5.out hb)
    have HX6:=Lib.hid (HX5.out.below hb HX5.out.lt)
    clear hb
    go_wp2_with (go_at_call 27;refine pause ?_)
    unfold Paused
    refine (pbytes_any At nt ct t w5c (HTX.out.below (below_then HW3.out.bel HB6.out) (Nat.le_refl _)) (by have h1:=HT300.out;omega)).mono ?_
    rintro e w5e ⟨A7,c7,rfl,hr,hb⟩
    have HB6:=Lib.hid (below_then HB6.out hb)
    have HX6:=Lib.hid (HX6.out.below hb HX6.out.lt)
    have HI6:=Lib.hid hr
    clear hb hr
    obtain ⟨ei,hei,hez,hes,heb⟩:=info_parts fl_info
    have HEI:=Lib.hid (And.intro hei (And.intro hez (And.intro hes heb)))
    clear hei hez hes heb
    simp only
    go_wp2_with (with_reducible (show wpList _ _ _ (Oper.mk _ (Op.buildSlice _ _ _) _ _ _ _::_) _ _);refine pause ?_)
    unfold Paused
    refine wpList_buildSliceK (by rfl) 112 72 2 _ (by rfl) #[.int .i64 0,.slice none 0 0,.int .i64 0,.slice A7 t.length c7] ei _ Tryz.underlying112 HEI.out.1 HEI.out.2.1 (by rw [HEI.out.2.2.1];decide) (by rw [HEI.out.2.2.1];decide) [(0,.agg #[.int .i64 0,.slice none 0 0]),(1,.agg #[.int .i64 0,.slice A7 t.length c7])] (by kernel_rfl) (by rw [HEI.out.2.2.1];exact fill_two _ _ _ _ _) ?_
    have CW:=write_bt (some ⟨w5e.heap.size,0,none⟩) w5e.heap.size 2 A7 c7 t a _ (Blk.new w5e 72 #[.int .i64 0,.slice none 0 0,.int .i64 0,.slice A7 t.length c7]) rfl (rd_alloc HI6.out _) (by have h1:=HT300.out;omega) (HS.out.at_ (below_then HW3.out.bel (below_then (HB6.out) ((Below.refl _ _).alloc (Nat.le_refl _) _))))
    have HB6:=Lib.hid (below_then HB6.out ((Below.refl w5e.heap.size w5e).alloc (Nat.le_refl _) (.cells #[.int .i64 0,.slice none 0 0,.int .i64 0,.slice A7 t.length c7] 72)))
    have HX6:=Lib.hid (HX6.out.alloc (.cells #[.int .i64 0,.slice none 0 0,.int .i64 0,.slice A7 t.length c7] 72))
    generalize (w5e.alloc (.cells #[.int .i64 0,.slice none 0 0,.int .i64 0,.slice A7 t.length c7] 72))=w6 at CW HB6 HX6 ⊢
    rw [←HQE.out] at CW
    go_wp2_with (go_at_call 25;refine pause ?_)
    unfold Paused
    refine CW.mono ?_
    rintro e w7 ⟨v7,rfl,hp7⟩
    obtain ⟨A6,c6,rfl⟩:=hp7.len
    have H37:=Lib.hid (HB6.out.trans (hp7.bel.mono HB6.out.size))
    have HX7:=Lib.hid (HX6.out.below hp7.bel HX6.out.lt)
    have HQ7:=Lib.hid hp7.rd
    have HOQ:Hid (OffB (.slice A6 q.length c6) g):=Lib.hid (off_of_new (newAt_own hp7.own) (by have h1:=HW3.out.blk.lt;have h2:=HB6.out.size;omega))
    clear hp7 CW
    simp only
    go_wp2
    have h37:Below w3.heap.size w3 w7.drew:=below_drewN H37.out 1
    have HW7:=Lib.hid (HW3.out.below h37)
    have p1:w7.drew.cell? ⟨g,0,none⟩=some (.map (some mb)):=HW7.out.c33.2.2.1
    obtain ⟨w8,hrun,hm8,hg8⟩:=HW7.out.map.store Tryz.underlying40 (by have:=HW7.out.few;unfold maxLen;omega) HS5.out (.agg (itemC (Sha.sum t) (.slice At nt ct) 0).toArray)
    have hrun':(Instr.mapUpdate 40 (.map (some mb)) (.agg (cellsB (Sha.sum t)).toArray) (.agg (itemC (Sha.sum t) (.slice At nt ct) 0).toArray)).run Tryz.prog w7.drew=.ok () w8:=hrun
    have HM8:=Lib.hid hm8
    have HG8:=Lib.hid hg8
    have HX8:Hid (Blk w8 g5 44 (itemC (Sha.sum t) (.slice At nt ct) 0).toArray):=Lib.hid (HX7.out.drew.grown hg8 (fun e=>by injection e with e;have h1:=HW3.out.ord;have h2:=HG5.out;have h3:=HW3.out.blk.lt;omega))
    have HQ8:Hid (Rd w8 (.slice A6 q.length c6) q):=Lib.hid (rd_kpt (HQ7.out.below (below_drewN (Below.refl _ w7) 1) (Nat.le_refl _)) (Kpt.of_grown (S:=fun x=>x=mb) hg8 rfl) (fun x hx=>by subst hx;exact noU_map HW7.out.map))
    have HB8:Hid (Blk w8 g 46 (wrC (some mb) (itemC lid last.val last.depth) v).toArray):=Lib.hid (HW7.out.blk.grown hg8 (fun e=>by injection e with e;have h1:=HW3.out.ord;omega))
    clear hrun hm8 hg8 h37
    refine wp_region_upto (S:=fun w'=>w'=w7.drew) (b:=7) (by kernel_rfl) ?_
    change Upto _ _ _ _ _ _ _ _ _ w7.drew
    refine Upto.take (i:=0) (v:=?_) rfl (by kernel_rfl) (by kernel_rfl) (by kernel_rfl) (by kernel_rfl) (fun _ _ _ h=>h) (Or.inl ⟨by rfl,?_⟩) rfl ?_
    rotate_left
    ·rintro w' rfl;go_simp;with_reducible rfl
    try go_frame
    refine Upto.take (i:=1) (v:=?_) rfl (by kernel_rfl) (by kernel_rfl) (by kernel_rfl) (by kernel_rfl) (fun _ _ _ h=>h) (Or.inl ⟨by rfl,?_⟩) rfl ?_
    rotate_left
    ·rintro w' rfl;go_simp;with_reducible rfl
    try go_frame
    refine Upto.take (i:=2) (v:=?_) rfl (by kernel_rfl) (by kernel_rfl) (by kernel_rfl) (by kernel_rfl) (fun _ _ _ h=>h) (Or.inl ⟨by rfl,?_⟩) rfl ?_
    rotate_left
    ·rintro w' rfl;go_simp;with_reducible rfl
    try go_frame
    refine Upto.take (i:=3) (v:=?_) rfl (by kernel_rfl) (by kernel_rfl) (by kernel_rfl) (by kernel_rfl) (fun _ _ _ h=>h) (Or.inl ⟨by rfl,?_⟩) rfl ?_
    rotate_left
    ·rintro w' rfl;go_simp;with_reducible rfl
    try go_frame
    refine Upto.take (i:=4) (v:=?_) rfl (by kernel_rfl) (by kernel_rfl) (by kernel_rfl) (by kernel_rfl) (fun _ _ _ h=>h) (Or.inl ⟨by rfl,?_⟩) rfl ?_
    rotate_left
    ·rintro w' rfl;go_simp;with_reducible rfl
    try go_frame
    refine Upto.take (i:=5) (v:=.agg (cellsB (Sha.sum t)).toArray) rfl (by kernel_rfl) (by kernel_rfl) (by kernel_rfl) (by kernel_rfl) (fun _ _ _ h=>h) (takes_mid 42 (.tmp 84) rfl (by rfl) g5 0 rfl (cellsB (Sha.sum t)) _ (fun w' hw=>by rw [hw];exact item_idx HX7.out.drew) Tryz.underlying42 rfl (by rw [cellsB_len,HS5.out.1];exact oid_load)) rfl ?_
    try go_frame
    refine Upto.take (i:=6) (v:=.agg (itemC (Sha.sum t) (.slice At nt ct) 0).toArray) rfl (by kernel_rfl) (by kernel_rfl) (by kernel_rfl) (by kernel_rfl) (fun _ _ _ h=>h) (takes_row 44 (.tmp 5) rfl (by rfl) g5 rfl 44 (itemC (Sha.sum t) (.slice At nt ct) 0).toArray _ (fun w' hw=>by rw [hw];exact HX7.out.drew) Tryz.underlying44 rfl (by rw [List.size_toArray,itemC_len HS5.out];exact item_size)) rfl ?_
    try go_frame
    refine Upto.one (i:=7) (by kernel_rfl) rfl (by rfl) (fun K hK=>?_)
    go_simp
    refine hK _ _ (fun h=>absurd rfl h) ?_
    try go_frame
    refine Upto.done (by kernel_rfl) ?_ _
    clear hrun' p1
    go_wp2_with (with_reducible (show wpList _ _ _ (Oper.mk _ (Op.load 44 _) _ _ _ _::_) _ _);refine pause ?_)
    unfold Paused
    refine wpList_row_w (by rfl) 44 (.tmp 5) (by rfl) g5 (by rfl) 44 _ _ HX8.out Tryz.underlying44 (by rfl) (by rw [List.size_toArray,itemC_len HS5.out];exact item_size) ?_
    go_wp2_with (with_reducible (show wpList _ _ _ (Oper.mk _ (Op.store 44 _ _) _ _ _ _::_) _ _);refine pause ?_)
    unfold Paused
    refine wpList_store_mid (by rfl) 44 (.tmp 90) (.tmp 88) (by rfl) g 1 (itemC (Sha.sum t) (.slice At nt ct) 0).toArray (by rfl) (by rfl) (there_of HB8.out (by rw [List.size_toArray,List.size_toArray,itemC_len HS5.out,wrC_len (itemC_len HLID.out _ _)];omega)) (by rw [List.size_toArray,itemC_len HS5.out];exact item_size) (itemC_one rfl _) ?_
    obtain ⟨w9,hw9⟩:∃ w9,w9=w8.setCells g 1 (itemC (Sha.sum t) (.slice At nt ct) 0):=⟨_,rfl⟩
    have HW9:=Lib.hid hw9
    have hg9:w8.grownBy w9 (some g):=by rw [hw9];exact grown_cells g _ 1 w8 w8 (World.grownBy.refl w8 _)
    change wpList _ _ _ _ _ (w8.setCells g 1 (itemC (Sha.sum t) (.slice At nt ct) 0))
    rw [←hw9]
    have hQ9:Rd w9 (.slice A6 q.length c6) q:=rd_off HQ8.out hg9 (HOQ.out)
    have hO9:w9.ownsRow B 5 1 v pk.length (cellsB pk):=(HW7.out.own.kept HG8.out (Or.inr (fun e=>HW7.out.ne.2 e.symm))).kept hg9 (Or.inr (fun e=>HW7.out.ne.1 e.symm))
    have p35:w9.cell? ⟨g,35,none⟩=some v:=by
     have h9:Blk w9 g 46 (wrC (some mb) (itemC (Sha.sum t) (.slice At nt ct) 0) v).toArray:=by
      rw [hw9]
      exact blk_cells (t:=46) (g:=g) [v] (itemC (Sha.sum t) (.slice At nt ct) 0) (itemC lid last.val last.depth) [.map (some mb)] 1 w8 (by rw [itemC_len HLID.out,itemC_len HS5.out]) rfl (by simpa [wrC] using HB8.out)
     exact (h9.cell 35).trans (wrC_at (itemC_len HS5.out _ _) _ _)
    have hB9:B≤w9.heap.size:=Nat.le_trans HW7.out.ord.2.2.2 (Nat.le_trans HG8.out.size hg9.size)
    have HQ9:=Lib.hid hQ9
    have HO9:=Lib.hid hO9
    have HB9:=Lib.hid hB9
    have HGB:Hid (∃ cs:Array Value,Blk w9 g 46 cs):=Lib.hid (by rw [hw9];exact ⟨_,blk_cells (t:=46) (g:=g) [v] (itemC (Sha.sum t) (.slice At nt ct) 0) (itemC lid last.val last.depth) [.map (some mb)] 1 w8 (by rw [itemC_len HLID.out,itemC_len HS5.out]) rfl (by simpa [wrC] using HB8.out)⟩)
    clear hQ9 hO9 hB9 hw9 hg9
    simp only [Act.put]
    go_wp2_with (with_reducible (show wpList _ _ _ (Oper.mk _ (Op.call (Call.mk (Callee.builtin Builtin.append) _ _)) _ _ _ _::_) _ _);refine pause ?_)
    unfold Paused
    refine wpList_appendB rfl (.tmp 95) (.tmp 96) rfl B v pk rfl HO9.out HB9.out _ rfl q HQ9.out (by have h1:=HW3.out.few;have h2:=HQL.out;omega) ?_
    intro v10 w10 ho10 hg10
    obtain ⟨A10,n10,c10,rfl⟩:∃ A n c,v10=.slice A n c:=by
     rcases ho10.2 with ⟨hv,_⟩ | ⟨_,_,_,hv,_⟩
     ·exact ⟨_,_,_,hv⟩
     ·exact ⟨_,_,_,hv⟩
    have HF:Hid (WrS w0 (w10.setCell ⟨g,35,none⟩ (.slice A10 n10 c10)) g mb B (out++[⟨t,0,.slice At nt ct⟩]) (Sha.sum t) ⟨t,0,.slice At nt ct⟩ (pk++q) (.slice A10 n10 c10)):=Lib.hid (HW7.out.next HF64.out (p:=⟨t,0,.slice At nt ct⟩) ⟨HTX.out,HBT.out,HT300.out,HDP.out⟩ HM8.out HG8.out HW9.out HQL.out ho10 hg10)
    have p35:w10.cell? ⟨g,35,none⟩=some v:=by
     obtain ⟨cs,hcs⟩:=HGB.out
     exact hg10.cell p35 (fun e=>HW7.out.ne.1 e)
    have z35:w10.frozen? ⟨g,35,none⟩=false:=by
     obtain ⟨cs,hcs⟩:=HGB.out
     exact (hcs.grown hg10 HW7.out.ne.1).frozen 35
    clear ho10 hg10
    go_wp2
    go_ret
    exact ⟨fun _=>⟨_,rfl,by rw [LAYEQ.out];exact HF.out⟩,fun h=>absurd HAD.out h⟩
   ·have d1:¬(last.depth:Int) < 5:=by omega
    have d3:(5:Int)≤(last.depth:Int):=by omega
    clear hsv h5
    go_wp2_with (go_at_call 26;refine pause ?_)
    unfold Paused
    refine (pnum_any 0 w5).mono ?_
    rintro e w5c ⟨rfl,hb⟩
    have HB6:=Lib.hid (below_then HB5.out hb)
    have HX6:=Lib.hid (HX5.out.below hb HX5.out.lt)
    clear hb
    go_wp2_with (go_at_call 27;refine pause ?_)
    unfold Paused
    refine (pbytes_any At nt ct t w5c (HTX.out.below (below_then HW3.out.bel HB6.out) (Nat.le_refl _)) (by have h1:=HT300.out;omega)).mono ?_
    rintro e w5e ⟨A7,c7,rfl,hr,hb⟩
    have HB6:=Lib.hid (below_then HB6.out hb)
    have HX6:=Lib.hid (HX6.out.below hb HX6.out.lt)
    have HI6:=Lib.hid hr
    clear hb hr
    obtain ⟨ei,hei,hez,hes,heb⟩:=info_parts fl_info
    have HEI:=Lib.hid (And.intro hei (And.intro hez (And.intro hes heb)))
    clear hei hez hes heb
    simp only
    go_wp2_with (with_reducible (show wpList _ _ _ (Oper.mk _ (Op.buildSlice _ _ _) _ _ _ _::_) _ _);refine pause ?_)
    unfold Paused
    refine wpList_buildSliceK (by rfl) 112 72 2 _ (by rfl) #[.int .i64 0,.slice none 0 0,.int .i64 0,.slice A7 t.length c7] ei _ Tryz.underlying112 HEI.out.1 HEI.out.2.1 (by rw [HEI.out.2.2.1];decide) (by rw [HEI.out.2.2.1];decide) [(0,.agg #[.int .i64 0,.slice none 0 0]),(1,.agg #[.int .i64 0,.slice A7 t.length c7])] (by kernel_rfl) (by rw [HEI.out.2.2.1];exact fill_two _ _ _ _ _) ?_
    have CW:=write_bt (some ⟨w5e.heap.size,0,none⟩) w5e.heap.size 2 A7 c7 t a _ (Blk.new w5e 72 #[.int .i64 0,.slice none 0 0,.int .i64 0,.slice A7 t.length c7]) rfl (rd_alloc HI6.out _) (by have h1:=HT300.out;omega) (HS.out.at_ (below_then HW3.out.bel (below_then (HB6.out) ((Below.refl _ _).alloc (Nat.le_refl _) _))))
    have HB6:=Lib.hid (below_then HB6.out ((Below.refl w5e.heap.size w5e).alloc (Nat.le_refl _) (.cells #[.int .i64 0,.slice none 0 0,.int .i64 0,.slice A7 t.length c7] 72)))
    have HX6:=Lib.hid (HX6.out.alloc (.cells #[.int .i64 0,.slice none 0 0,.int .i64 0,.slice A7 t.length c7] 72))
    generalize (w5e.alloc (.cells #[.int .i64 0,.slice none 0 0,.int .i64 0,.slice A7 t.length c7] 72))=w6 at CW HB6 HX6 ⊢
    rw [←HQE.out] at CW
    go_wp2_with (go_at_call 25;refine pause ?_)
    unfold Paused
    refine CW.mono ?_
    rintro e w7 ⟨v7,rfl,hp7⟩
    obtain ⟨A6,c6,rfl⟩:=hp7.len
    have H37:=Lib.hid (HB6.out.trans (hp7.bel.mono HB6.out.size))
    have HX7:=Lib.hid (HX6.out.below hp7.bel HX6.out.lt)
    have HQ7:=Lib.hid hp7.rd
    have HOQ:Hid (OffB (.slice A6 q.length c6) g):=Lib.hid (off_of_new (newAt_own hp7.own) (by have h1:=HW3.out.blk.lt;have h2:=HB6.out.size;omega))
    clear hp7 CW
    simp only
    go_wp2
    have h37:Below w3.heap.size w3 w7.drew:=below_drewN H37.out 1
    have HW7:=Lib.hid (HW3.out.below h37)
    have p1:w7.drew.cell? ⟨g,0,none⟩=some (.map (some mb)):=HW7.out.c33.2.2.1
    obtain ⟨w8,hrun,hm8,hg8⟩:=HW7.out.map.store Tryz.underlying40 (by have:=HW7.out.few;unfold maxLen;omega) HS5.out (.agg (itemC (Sha.sum t) (.slice At nt ct) 0).toArray)
    have hrun':(Instr.mapUpdate 40 (.map (some mb)) (.agg (cellsB (Sha.sum t)).toArray) (.agg (itemC (Sha.sum t) (.slice At nt ct) 0).toArray)).run Tryz.prog w7.drew=.ok () w8:=hrun
    have HM8:=Lib.hid hm8
    have HG8:=Lib.hid hg8
    have HX8:Hid (Blk w8 g5 44 (itemC (Sha.sum t) (.slice At nt ct) 0).toArray):=Lib.hid (HX7.out.drew.grown hg8 (fun e=>by injection e with e;have h1:=HW3.out.ord;have h2:=HG5.out;have h3:=HW3.out.blk.lt;omega))
    have HQ8:Hid (Rd w8 (.slice A6 q.length c6) q):=Lib.hid (rd_kpt (HQ7.out.below (below_drewN (Below.refl _ w7) 1) (Nat.le_refl _)) (Kpt.of_grown (S:=fun x=>x=mb) hg8 rfl) (fun x hx=>by subst hx;exact noU_map HW7.out.map))
    have HB8:Hid (Blk w8 g 46 (wrC (some mb) (itemC lid last.val last.depth) v).toArray):=Lib.hid (HW7.out.blk.grown hg8 (fun e=>by injection e with e;have h1:=HW3.out.ord;omega))
    clear hrun hm8 hg8 h37
    refine wp_region_upto (S:=fun w'=>w'=w7.drew) (b:=7) (by kernel_rfl) ?_
    change Upto _ _ _ _ _ _ _ _ _ w7.drew
    refine Upto.take (i:=0) (v:=?_) rfl (by kernel_rfl) (by kernel_rfl) (by kernel_rfl) (by kernel_rfl) (fun _ _ _ h=>h) (Or.inl ⟨by rfl,?_⟩) rfl ?_
    rotate_left
    ·rintro w' rfl;go_simp;with_reducible rfl
    try go_frame
    refine Upto.take (i:=1) (v:=?_) rfl (by kernel_rfl) (by kernel_rfl) (by kernel_rfl) (by kernel_rfl) (fun _ _ _ h=>h) (Or.inl ⟨by rfl,?_⟩) rfl ?_
    rotate_left
    ·rintro w' rfl;go_simp;with_reducible rfl
    try go_frame
    refine Upto.take (i:=2) (v:=?_) rfl (by kernel_rfl) (by kernel_rfl) (by kernel_rfl) (by kernel_rfl) (fun _ _ _ h=>h) (Or.inl ⟨by rfl,?_⟩) rfl ?_
    rotate_left
    ·rintro w' rfl;go_simp;with_reducible rfl
    try go_frame
    refine Upto.take (i:=3) (v:=?_) rfl (by kernel_rfl) (by kernel_rfl) (by kernel_rfl) (by kernel_rfl) (fun _ _ _ h=>h) (Or.inl ⟨by rfl,?_⟩) rfl ?_
    rotate_left
    ·rintro w' rfl;go_simp;with_reducible rfl
    try go_frame
    refine Upto.take (i:=4) (v:=?_) rfl (by kernel_rfl) (by kernel_rfl) (by kernel_rfl) (by kernel_rfl) (fun _ _ _ h=>h) (Or.inl ⟨by rfl,?_⟩) rfl ?_
    rotate_left
    ·rintro w' rfl;go_simp;with_reducible rfl
    try go_frame
    refine Upto.take (i:=5) (v:=.agg (cellsB (Sha.sum t)).toArray) rfl (by kernel_rfl) (by kernel_rfl) (by kernel_rfl) (by kernel_rfl) (fun _ _ _ h=>h) (takes_mid 42 (.tmp 84) rfl (by rfl) g5 0 rfl (cellsB (Sha.sum t)) _ (fun w' hw=>by rw [hw];exact item_idx HX7.out.drew) Tryz.underlying42 rfl (by rw [cellsB_len,HS5.out.1];exact oid_load)) rfl ?_
    try go_frame
    refine Upto.take (i:=6) (v:=.agg (itemC (Sha.sum t) (.slice At nt ct) 0).toArray) rfl (by kernel_rfl) (by kernel_rfl) (by kernel_rfl) (by kernel_rfl) (fun _ _ _ h=>h) (takes_row 44 (.tmp 5) rfl (by rfl) g5 rfl 44 (itemC (Sha.sum t) (.slice At nt ct) 0).toArray _ (fun w' hw=>by rw [hw];exact HX7.out.drew) Tryz.underlying44 rfl (by rw [List.size_toArray,itemC_len HS5.out];exact item_size)) rfl ?_
    try go_frame
    refine Upto.one (i:=7) (by kernel_rfl) rfl (by rfl) (fun K hK=>?_)
    go_simp
    refine hK _ _ (fun h=>absurd rfl h) ?_
    try go_frame
    refine Upto.done (by kernel_rfl) ?_ _
    clear hrun' p1
    go_wp2_with (with_reducible (show wpList _ _ _ (Oper.mk _ (Op.load 44 _) _ _ _ _::_) _ _);refine pause ?_)
    unfold Paused
    refine wpList_row_w (by rfl) 44 (.tmp 5) (by rfl) g5 (by rfl) 44 _ _ HX8.out Tryz.underlying44 (by rfl) (by rw [List.size_toArray,itemC_len HS5.out];exact item_size) ?_
    go_wp2_with (with_reducible (show wpList _ _ _ (Oper.mk _ (Op.store 44 _ _) _ _ _ _::_) _ _);refine pause ?_)
    unfold Paused
    refine wpList_store_mid (by rfl) 44 (.tmp 90) (.tmp 88) (by rfl) g 1 (itemC (Sha.sum t) (.slice At nt ct) 0).toArray (by rfl) (by rfl) (there_of HB8.out (by rw [List.size_toArray,List.size_toArray,itemC_len HS5.out,wrC_len (itemC_len HLID.out _ _)];omega)) (by rw [List.size_toArray,itemC_len HS5.out];exact item_size) (itemC_one rfl _) ?_
    obtain ⟨w9,hw9⟩:∃ w9,w9=w8.setCells g 1 (itemC (Sha.sum t) (.slice At nt ct) 0):=⟨_,rfl⟩
    have HW9:=Lib.hid hw9
    have hg9:w8.grownBy w9 (some g):=by rw [hw9];exact grown_cells g _ 1 w8 w8 (World.grownBy.refl w8 _)
    change wpList _ _ _ _ _ (w8.setCells g 1 (itemC (Sha.sum t) (.slice At nt ct) 0))
    rw [←hw9]
    have hQ9:Rd w9 (.slice A6 q.length c6) q:=rd_off HQ8.out hg9 (HOQ.out)
    have hO9:w9.ownsRow B 5 1 v pk.length (cellsB pk):=(HW7.out.own.kept HG8.out (Or.inr (fun e=>HW7.out.ne.2 e.symm))).kept hg9 (Or.inr (fun e=>HW7.out.ne.1 e.symm))
    have p35:w9.cell? ⟨g,35,none⟩=some v:=by
     have h9:Blk w9 g 46 (wrC (some mb) (itemC (Sha.sum t) (.slice At nt ct) 0) v).toArray:=by
      rw [hw9]
      exact blk_cells (t:=46) (g:=g) [v] (itemC (Sha.sum t) (.slice At nt ct) 0) (itemC lid last.val last.depth) [.map (some mb)] 1 w8 (by rw [itemC_len HLID.out,itemC_len HS5.out]) rfl (by simpa [wrC] using HB8.out)
     exact (h9.cell 35).trans (wrC_at (itemC_len HS5.out _ _) _ _)
    have hB9:B≤w9.heap.size:=Nat.le_trans HW7.out.ord.2.2.2 (Nat.le_trans HG8.out.size hg9.size)
    have HQ9:=Lib.hid hQ9
    have HO9:=Lib.hid hO9
    have HB9:=Lib.hid hB9
    have HGB:Hid (∃ cs:Array Value,Blk w9 g 46 cs):=Lib.hid (by rw [hw9];exact ⟨_,blk_cells (t:=46) (g:=g) [v] (itemC (Sha.sum t) (.slice At nt ct) 0) (itemC lid last.val last.depth) [.map (some mb)] 1 w8 (by rw [itemC_len HLID.out,itemC_len HS5.out]) rfl (by simpa [wrC] using HB8.out)⟩)
    clear hQ9 hO9 hB9 hw9 hg9
    simp only [Act.put]
    go_wp2_with (with_reducible (show wpList _ _ _ (Oper.mk _ (Op.call (Call.mk (Callee.builtin Builtin.append) _ _)) _ _ _ _::_) _ _);refine pause ?_)
    unfold Paused
    refine wpList_appendB rfl (.tmp 95) (.tmp 96) rfl B v pk rfl HO9.out HB9.out _ rfl q HQ9.out (by have h1:=HW3.out.few;have h2:=HQL.out;omega) ?_
    intro v10 w10 ho10 hg10
    obtain ⟨A10,n10,c10,rfl⟩:∃ A n c,v10=.slice A n c:=by
     rcases ho10.2 with ⟨hv,_⟩ | ⟨_,_,_,hv,_⟩
     ·exact ⟨_,_,_,hv⟩
     ·exact ⟨_,_,_,hv⟩
    have HF:Hid (WrS w0 (w10.setCell ⟨g,35,none⟩ (.slice A10 n10 c10)) g mb B (out++[⟨t,0,.slice At nt ct⟩]) (Sha.sum t) ⟨t,0,.slice At nt ct⟩ (pk++q) (.slice A10 n10 c10)):=Lib.hid (HW7.out.next HF64.out (p:=⟨t,0,.slice At nt ct⟩) ⟨HTX.out,HBT.out,HT300.out,HDP.out⟩ HM8.out HG8.out HW9.out HQL.out ho10 hg10)
    have p35:w10.cell? ⟨g,35,none⟩=some v:=by
     obtain ⟨cs,hcs⟩:=HGB.out
     exact hg10.cell p35 (fun e=>HW7.out.ne.1 e)
    have z35:w10.frozen? ⟨g,35,none⟩=false:=by
     obtain ⟨cs,hcs⟩:=HGB.out
     exact (hcs.grown hg10 HW7.out.ne.1).frozen 35
    clear ho10 hg10
    go_wp2
    go_ret
    exact ⟨fun _=>⟨_,rfl,by rw [LAYEQ.out];exact HF.out⟩,fun h=>absurd HAD.out h⟩
 ·simp only [if_neg had] at CM
  have HAD:=Lib.hid had
  generalize hc:Pk.adm (out.map Pk.It.item) t=c at CM
  have HC:=Lib.hid hc
  clear had hc
  unfold ecode at CM
  go_enter Tryz.func12,Tryz.ntmps12
  go_wp2_with (go_at_call 23;refine pause ?_)
  unfold Paused
  refine CM.mono ?_
  rintro e w3 ⟨rfl,hb3⟩
  have HB3:=Lib.hid (below_then HW.out.bel hb3)
  clear hb3 CM p0
  go_wp2_with (with_reducible (show wpList _ _ _ (Oper.mk _ (Op.store 44 _ _) _ _ _ _::_) _ _);refine pause ?_)
  unfold Paused
  change wpList _ _ _ _ _ (w3.alloc (.cells (itemC zid nilV 0).toArray 44))
  refine wpList_store_row (by rfl) 44 (.tmp 5) (.tmp 16) (by rfl) w3.heap.size (itemC zid nilV 0).toArray (by rfl) (by rfl) 44 (itemC zid nilV 0).toArray (Blk.new w3 _ _) (by rw [zItem_size];exact item_size) (by rfl) (itemC_one rfl 0) ?_
  have b4:Below w3.heap.size w3 ((w3.alloc (.cells (itemC zid nilV 0).toArray 44)).setRow w3.heap.size (itemC zid nilV 0).toArray):=below_row ((Below.refl _ _).alloc (Nat.le_refl _) _) (Nat.le_refl _) _
  have HB4:=Lib.hid (below_then HB3.out b4)
  clear b4
  generalize (w3.alloc (.cells (itemC zid nilV 0).toArray 44)).setRow w3.heap.size (itemC zid nilV 0).toArray=w4 at HB4 ⊢
  generalize w3.heap.size=g5
  simp only [Act.put]
  go_wp2
  go_ret
  exact ⟨fun h=>absurd h HAD.out,fun _=>⟨by rw [HC.out];rfl,HB4.out⟩⟩
end Go.Proofs.YtndgadjeeinedaaGreatDoor
