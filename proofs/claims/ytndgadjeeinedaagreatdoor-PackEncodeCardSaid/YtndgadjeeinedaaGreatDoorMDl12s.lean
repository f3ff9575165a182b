/- The iterator over copies: it goes through all of them. -/
import Derived.Maps.RangeWalk
import Derived.Test.YtndgadjeeinedaaGreatDoorMDl9s
namespace Go.Proofs.YtndgadjeeinedaaGreatDoor
open Go Go.RowKit Go.Shelf
attribute [local go_sem] Oper.semAt_some
theorem KpC.below {n₀ bB bT:Nat} {W W':World} (h:Below W.heap.size W W') (h1:n₀≤W.heap.size) (h2:bB < W.heap.size) (h3:bT < W.heap.size):KpC n₀ bB bT W W':=
 ⟨h.mono h1,fun k hk=>h.block k (by rcases hk with rfl | rfl<;>assumption),fun k cs z e=>(h.block k (Array.getElem?_eq_some_iff.1 e).1).trans e⟩
theorem CIn.keep {w w':World} {bB bT n₀:Nat} {bv tv:Value} {base target:List Nat} (h:CIn w bB bT bv tv base target) (k:KpC n₀ bB bT w w') (hn:∃ wx:World,n₀=wx.heap.size∧Below n₀ wx w∧Rd wx bv base∧Rd wx tv target∧∃ m,wx.cell? ⟨23,0,none⟩=some (.int .i64 m)):CIn w' bB bT bv tv base target:=by
 obtain ⟨wx,rfl,hb,r1,r2,m,hm⟩:=hn
 have hb':=hb.trans k.1
 exact ⟨(k.2.1 bB (.inl rfl)).trans h.bb,(k.2.1 bT (.inr rfl)).trans h.bt,r1.below hb' (Nat.le_refl _),r2.below hb' (Nat.le_refl _),m,(hb'.cell (p:=⟨23,0,none⟩) (block_lt_of_cell hm)).trans hm⟩
set_option maxRecDepth 100000 in
set_option maxHeartbeats 2000000 in
theorem copies1_runs (n:Nat) (bB bT n₀:Nat) (bv tv:Value) (base target:List Nat) (w wx:World) (hC:CIn w bB bT bv tv base target) (bb:Sha.Byte base) (bt:Sha.Byte target) (lb:base.length≤300) (lt:target.length≤300)
  (hwx:n₀=wx.heap.size∧Below n₀ wx w∧Rd wx bv base∧Rd wx tv target∧∃ m,wx.cell? ⟨23,0,none⟩=some (.int .i64 m)) :
  Runs n Tryz.prog 72 #[.pointer (some ⟨bT,0,none⟩),.pointer (some ⟨bB,0,none⟩)] cpV (KpC n₀ bB bT) (Dl.cps base target 0) w:=by
 intro l J W0 hW hJ hY h0
 have kW:KpC n₀ bB bT w W0:=KpC.below hW (by have h:=hwx.2.1.size;have e:=hwx.1;omega) hC.bb.lt hC.bt.lt
 have hC0:=hC.keep kW ⟨wx,hwx⟩
 have HX0:∃ wx:World,n₀=wx.heap.size∧Below n₀ wx W0∧Rd wx bv base∧Rd wx tv target∧∃ m,wx.cell? ⟨23,0,none⟩=some (.int .i64 m):=⟨wx,hwx.1,hwx.2.1.trans kW.1,hwx.2.2⟩
 have HC0:=Lib.hid hC0
 have HXX:=Lib.hid HX0
 obtain ⟨At,ct,htv,hct,hAt⟩:=hC0.rt
 have HTV:=Lib.hid htv
 have HCT:=Lib.hid hct
 have HAT:=Lib.hid hAt
 have hbl:bB < W0.heap.size∧bT < W0.heap.size∧n₀≤W0.heap.size:=⟨hC0.bb.lt,hC0.bt.lt,by obtain ⟨wx,e,hb,_⟩:=HX0;rw [e];exact hb.size⟩
 clear hC kW hC0 HX0 hwx hW htv hct hAt
 refine callsIn_of_wp Tryz.func72 rfl trivial ?_ rfl
 simp only [Tryz.ntmps72,List.size_toArray,List.length_cons,List.length_nil,Nat.reduceAdd,Nat.reduceSub,Array.replicate_succ,Array.replicate_zero,List.push_toArray,List.append_toArray,List.nil_append,List.cons_append]
 gi_wp2
 gi_loopw [4] (fun v wr=>∃ p pre,p≤target.length∧v=.int .i64 (p:Nat)∧Hid (Dl.cps base target 0=pre++Dl.cps base target p)∧J pre wr∧Hid (KpC n₀ bB bT W0 wr)∧Hid (W0.heap.size≤wr.heap.size)) (fun v _=>target.length - (intOf v).toNat)
 case atStart=>exact ⟨0,[],Nat.zero_le _,rfl,Lib.hid rfl,h0,Lib.hid (KpC.refl _ _ _ _),Lib.hid (Nat.le_refl _)⟩
 case round=>
  obtain ⟨p,pre,hp,rfl,HE,hJs,HK,HSZ⟩:=hrel
  have hCr:=HC0.out.keep HK.out HXX.out
  have HCR:=Lib.hid hCr
  have cT:=hCr.bt.cell
  have cB:=hCr.bb.cell
  rw [HTV.out] at cT
  have hJW:=Lib.hid hJs
  by_cases hlt:p < target.length
  ·obtain ⟨b2,o2,hA2,_,_⟩:=HAT.out (by omega)
   rw [hA2] at cT
   have S1:∀ w',(Instr.slice 25 (.slice (some ⟨b2,o2,none⟩) target.length ct) (some (.int .i64 (p:Int))) none none).run Tryz.prog w'=.ok (.slice (some ⟨b2,o2+p,none⟩) (target.length - p) (ct - p)) w':=fun w'=>sl_lo b2 o2 target.length ct p w' hp (by have:=HCT.out;omega) rfl
   have CL:∀ w',Below wr.heap.size wr w'→Calls Tryz.prog 73 #[bv,.slice (some ⟨b2,o2+p,none⟩) (target.length - p) (ct - p)] w' fun e w''=>e=.returned (.agg #[.int .i64 ((Dl.lg base (target.drop p)).1:Int),.slice none 0 0,.int .i64 ((Dl.lg base (target.drop p)).2:Int)])∧Below w'.heap.size w' w'':=fun w' h=>by
    have hrt:=HCR.out.rt
    rw [HTV.out,hA2] at hrt
    have h2:=(hrt.below h (Nat.le_refl _)).cut (k:=p) hp
    rw [if_neg (by have:=HCT.out;omega),Option.map_some,Addr.add_mid] at h2
    obtain ⟨m,hm⟩:=HCR.out.mx
    exact longest_all bv _ base (target.drop p) w' (HCR.out.rb.below h (Nat.le_refl _)) h2 bb (fun i=>by rw [Sha.getD_drop];exact bt _) (by omega) (by rw [List.length_drop];omega) ⟨m,(h.cell (p:=⟨23,0,none⟩) (block_lt_of_cell hm)).trans hm⟩
   obtain ⟨sn,hsn⟩:∃ sn,sn=(Dl.lg base (target.drop p)).1:=⟨_,rfl⟩
   obtain ⟨sf,hsf⟩:∃ sf,sf=(Dl.lg base (target.drop p)).2:=⟨_,rfl⟩
   rw [←hsn,←hsf] at CL
   have HSN:=Lib.hid hsn
   have HSF:=Lib.hid hsf
   have HP:=Lib.hid hlt
   have hsl:sn≤target.length - p∧sn≤127:=by
    rw [hsn]
    have hb:=Dl.lg_best base (target.drop p)
    rcases hb with ⟨h1,_⟩ | ⟨_,_,h3,_⟩
    ·rw [h1];omega
    ·have:=Dl.cmn_le (base.drop (Dl.lg base (target.drop p)).2) (target.drop p) 127
     rw [List.length_drop,List.length_drop] at this
     omega
   obtain ⟨nt,hnt⟩:∃ nt,nt=target.length:=⟨_,rfl⟩
   have HNT:=Lib.hid hnt
   have hn3:nt≤300:=by omega
   have cB':∀ w',Below wr.heap.size wr w'→w'.cell? ⟨bB,0,none⟩=some bv:=fun w' h=>(h.cell (p:=⟨bB,0,none⟩) HCR.out.bb.lt).trans cB
   have cT':∀ w',Below wr.heap.size wr w'→w'.cell? ⟨bT,0,none⟩=some (.slice (some ⟨b2,o2,none⟩) nt ct):=fun w' h=>by rw [hnt];exact (h.cell (p:=⟨bT,0,none⟩) HCR.out.bt.lt).trans cT
   rw [←hnt] at cT hp hlt hsl S1 CL ⊢
   clear hsn hsf hnt hCr hJs lb lt bb bt
   have hm:Tryz.prog.follows .mixedOrders=true:=by kernel_rfl
   have p0:(p:Int) < nt:=by omega
   gi_wp2
   refine wpIn_wide.2 (wp_region_held (S:=fun w'=>Below wr.heap.size wr w') hm ?_)
   change wpAnyH _ _ _ _ _ _ _ _ wr.drew
   refine wpAnyH_take (i:=0) (v:=?_) rfl (by kernel_rfl) (by kernel_rfl) (by kernel_rfl) (fun _ _ _ h=>h) (Or.inl ⟨by rfl,?_⟩) (below_drewN (Below.refl _ wr) 1) ?_
   rotate_left
   ·intro w' hw;go_simp;with_reducible rfl
   try go_frame
   refine wpAnyH_take (i:=1) (v:=?_) rfl (by kernel_rfl) (by kernel_rfl) (by kernel_rfl) (fun _ _ _ h=>h) (Or.inl ⟨by rfl,?_⟩) (below_drewN (Below.refl _ wr) 1) ?_
   rotate_left
   ·intro w' hw;go_simp;with_reducible rfl
   try go_frame
   refine wpAnyH_take (i:=2) (v:=?_) rfl (by kernel_rfl) (by kernel_rfl) (by kernel_rfl) (fun _ _ _ h=>h) (Or.inl ⟨by rfl,?_⟩) (below_drewN (Below.refl _ wr) 1) ?_
   rotate_left
   ·intro w' hw;go_simp;with_reducible rfl
   try go_frame
   refine wpAnyH_take (i:=3) (v:=?_) rfl (by kernel_rfl) (by kernel_rfl) (by kernel_rfl) (fun _ _ _ h=>h) (Or.inl ⟨by rfl,?_⟩) (below_drewN (Below.refl _ wr) 1) ?_
   rotate_left
   ·intro w' hw;go_simp;with_reducible rfl
   try go_frame
   refine all_two (i:=4) (j:=5) (by kernel_rfl) rfl rfl (by rfl) (by rfl) (fun K hK=>?_) (fun K hK=>?_)
   ·go_simp
    refine (CL _ (below_drewN (Below.refl _ wr) 1)).mono ?_
    rintro e w5 ⟨rfl,hb5⟩
    have hb6:Below wr.heap.size wr w5:=(below_drewN (Below.refl _ wr) 1).trans hb5
    refine hK _ _ hb6 ?_
    try go_frame
    refine all_one (i:=5) (by kernel_rfl) rfl (by rfl) (fun K hK=>?_)
    go_simp
    refine hK _ _ (hb6.alloc hb6.size _) ?_
    try go_frame
    refine all_one (i:=6) (by kernel_rfl) rfl (by rfl) (fun K hK=>?_)
    go_simp
    have hB7:Blk (w5.alloc (.cells #[.int .i64 (sn:Int),.slice none 0 0,.int .i64 (sf:Int)] 111)) w5.heap.size 111 #[.int .i64 (sn:Int),.slice none 0 0,.int .i64 (sf:Int)]:=Blk.new _ _ _
    have hb7:Below wr.heap.size wr (w5.alloc (.cells #[.int .i64 (sn:Int),.slice none 0 0,.int .i64 (sf:Int)] 111)):=hb6.alloc hb6.size _
    generalize w5.alloc (.cells #[.int .i64 (sn:Int),.slice none 0 0,.int .i64 (sf:Int)] 111)=W6 at hB7 hb7 ⊢
    generalize w5.heap.size=Bs at hB7 ⊢
    refine hK _ _ hb7 ?_
    clear hK K
    try go_frame
    refine wpAnyH_done (by kernel_rfl) ?_ _
    have x0:W6.cell? ⟨Bs,0,none⟩=some (.int .i64 (sn:Int)):=hB7.cell 0
    have x1:W6.cell? ⟨Bs,1,none⟩=some (.slice none 0 0):=hB7.cell 1
    have x2:W6.cell? ⟨Bs,2,none⟩=some (.int .i64 (sf:Int)):=hB7.cell 2
    have HB7:=Lib.hid hB7
    have HBE:=Lib.hid hb7
    have HJ6:=Lib.hid (hJ pre wr W6 none hJW.out (only_of_below hb7 none) (fun r e=>by cases e))
    have HK6:Hid (KpC n₀ bB bT W0 W6):=Lib.hid (HK.out.trans (KpC.below hb7 (Nat.le_trans hbl.2.2 HSZ.out) HCR.out.bb.lt HCR.out.bt.lt))
    have HS6:=Lib.hid (show W0.heap.size≤W6.heap.size from Nat.le_trans HSZ.out hb7.size)
    clear hB7 hb7
    by_cases h0:0 < sn
    ·have HEV:Hid (Dl.cps base target 0=pre++(p,sn,sf)::Dl.cps base target (p+sn)):=Lib.hid (by rw [HE.out,Dl.cps_copy HP.out (by rw [←HSN.out];exact h0),←HSN.out,←HSF.out])
     obtain ⟨fn,tmps,assign,body,hy,hR⟩:=hY pre (p,sn,sf) _ W6 HEV.out HJ6.out
     dsimp only [cpV] at hy
     have g1:(0:Int) < sn:=by omega
     have g2:(1:Int)≤sn:=by omega
     have g3:¬(sn:Int)≤0:=by omega
     gi_wp2
     refine ⟨(fun e=>by cases e),hR.mono ?_⟩
     rintro e W3 ⟨rfl,hJ3,hk3⟩
     have y0:W3.cell? ⟨Bs,0,none⟩=some (.int .i64 (sn:Int)):=Blk.cell (cs:=#[.int .i64 (sn:Int),.slice none 0 0,.int .i64 (sf:Int)]) (hk3.2.2 Bs _ _ HB7.out) 0
     have HJ3:=Lib.hid hJ3
     have HK3:=Lib.hid hk3
     clear hJ3 hk3 hR hy
     have g4:max (sn:Int) 1=sn:=by omega
     gi_wp2
     clear g4
     go_roundw
     case rel=>exact ⟨p+sn,_,by have h9:=HNT.out;omega,by go_num,Lib.hid (by rw [HEV.out];simp),HJ3.out,Lib.hid (HK6.out.trans HK3.out),Lib.hid (Nat.le_trans HS6.out HK3.out.1.size)⟩
     case measure=>have h9:=HNT.out;simp [intOf];omega
    ·have e0:sn=0:=by omega
     have HEV:Hid (Dl.cps base target 0=pre++Dl.cps base target (p+1)):=Lib.hid (by rw [HE.out,Dl.cps_skip HP.out (by rw [←HSN.out];exact e0)])
     subst e0
     have g5:max (0:Int) 1=1:=by decide
     gi_wp2
     refine ⟨fun _ h=>(by cases h),?_⟩
     gi_wp2
     go_roundw
     case rel=>exact ⟨p+1,_,by have h9:=HNT.out;omega,by go_num,HEV,HJ6.out,HK6,HS6⟩
     case measure=>have h9:=HNT.out;simp [intOf];omega
   ·go_simp
    refine hK _ _ ((below_drewN (Below.refl _ wr) 1).alloc (Nat.le_refl _) _) ?_
    try go_frame
    refine all_one (i:=4) (by kernel_rfl) rfl (by rfl) (fun K hK=>?_)
    go_simp
    refine (CL _ ((below_drewN (Below.refl _ wr) 1).alloc (Nat.le_refl _) _)).mono ?_
    rintro e w5 ⟨rfl,hb5⟩
    have hb6:Below wr.heap.size wr w5:=((below_drewN (Below.refl _ wr) 1).alloc (Nat.le_refl _) (.cells #[.int .i64 0,.slice none 0 0,.int .i64 0] 111)).trans (hb5.mono (by simp))
    have hB5:Blk w5 wr.heap.size 111 #[.int .i64 0,.slice none 0 0,.int .i64 0]:=Blk.below (Blk.new wr.drew _ _) hb5 (by simp)
    refine hK _ _ hb6 ?_
    try go_frame
    have y0:=hB5.cell 0
    have y1:=hB5.cell 1
    have y2:=hB5.cell 2
    have z0:=hB5.frozen 0
    have z1:=hB5.frozen 1
    have z2:=hB5.frozen 2
    refine all_one (i:=6) (by kernel_rfl) rfl (by rfl) (fun K hK=>?_)
    go_simp
    have hB7:Blk (((w5.setCell ⟨wr.heap.size,0,none⟩ (.int .i64 (sn:Int))).setCell ⟨wr.heap.size,1,none⟩ (.slice none 0 0)).setCell ⟨wr.heap.size,2,none⟩ (.int .i64 (sf:Int))) wr.heap.size 111 #[.int .i64 (sn:Int),.slice none 0 0,.int .i64 (sf:Int)]:=by
     have h2:=((hB5.set_ 0 (.int .i64 (sn:Int))).set_ 1 (.slice none 0 0)).set_ 2 (.int .i64 (sf:Int))
     simpa only [List.setIfInBounds_toArray,List.set_cons_zero,List.set_cons_succ] using h2
    have hb7:Below wr.heap.size wr (((w5.setCell ⟨wr.heap.size,0,none⟩ (.int .i64 (sn:Int))).setCell ⟨wr.heap.size,1,none⟩ (.slice none 0 0)).setCell ⟨wr.heap.size,2,none⟩ (.int .i64 (sf:Int))):=((hb6.setCell (p:=⟨wr.heap.size,0,none⟩) (Nat.le_refl _) _).setCell (p:=⟨wr.heap.size,1,none⟩) (Nat.le_refl _) _).setCell (p:=⟨wr.heap.size,2,none⟩) (Nat.le_refl _) _
    generalize ((w5.setCell ⟨wr.heap.size,0,none⟩ (.int .i64 (sn:Int))).setCell ⟨wr.heap.size,1,none⟩ (.slice none 0 0)).setCell ⟨wr.heap.size,2,none⟩ (.int .i64 (sf:Int))=W6 at hB7 hb7 ⊢
    clear y0 y1 y2 z0 z1 z2 hB5
    obtain ⟨Bs,hBs⟩:∃ Bs,Bs=wr.heap.size:=⟨_,rfl⟩
    rw [←hBs] at hB7 ⊢
    clear hBs
    refine hK _ _ hb7 ?_
    clear hK K
    try go_frame
    refine wpAnyH_done (by kernel_rfl) ?_ _
    have x0:W6.cell? ⟨Bs,0,none⟩=some (.int .i64 (sn:Int)):=hB7.cell 0
    have x1:W6.cell? ⟨Bs,1,none⟩=some (.slice none 0 0):=hB7.cell 1
    have x2:W6.cell? ⟨Bs,2,none⟩=some (.int .i64 (sf:Int)):=hB7.cell 2
    have HB7:=Lib.hid hB7
    have HBE:=Lib.hid hb7
    have HJ6:=Lib.hid (hJ pre wr W6 none hJW.out (only_of_below hb7 none) (fun r e=>by cases e))
    have HK6:Hid (KpC n₀ bB bT W0 W6):=Lib.hid (HK.out.trans (KpC.below hb7 (Nat.le_trans hbl.2.2 HSZ.out) HCR.out.bb.lt HCR.out.bt.lt))
    have HS6:=Lib.hid (show W0.heap.size≤W6.heap.size from Nat.le_trans HSZ.out hb7.size)
    clear hB7 hb7
    by_cases h0:0 < sn
    ·have HEV:Hid (Dl.cps base target 0=pre++(p,sn,sf)::Dl.cps base target (p+sn)):=Lib.hid (by rw [HE.out,Dl.cps_copy HP.out (by rw [←HSN.out];exact h0),←HSN.out,←HSF.out])
     obtain ⟨fn,tmps,assign,body,hy,hR⟩:=hY pre (p,sn,sf) _ W6 HEV.out HJ6.out
     dsimp only [cpV] at hy
     have g1:(0:Int) < sn:=by omega
     have g2:(1:Int)≤sn:=by omega
     have g3:¬(sn:Int)≤0:=by omega
     gi_wp2
     refine ⟨(fun e=>by cases e),hR.mono ?_⟩
     rintro e W3 ⟨rfl,hJ3,hk3⟩
     have y0:W3.cell? ⟨Bs,0,none⟩=some (.int .i64 (sn:Int)):=Blk.cell (cs:=#[.int .i64 (sn:Int),.slice none 0 0,.int .i64 (sf:Int)]) (hk3.2.2 Bs _ _ HB7.out) 0
     have HJ3:=Lib.hid hJ3
     have HK3:=Lib.hid hk3
     clear hJ3 hk3 hR hy
     have g4:max (sn:Int) 1=sn:=by omega
     gi_wp2
     clear g4
     go_roundw
     case rel=>exact ⟨p+sn,_,by have h9:=HNT.out;omega,by go_num,Lib.hid (by rw [HEV.out];simp),HJ3.out,Lib.hid (HK6.out.trans HK3.out),Lib.hid (Nat.le_trans HS6.out HK3.out.1.size)⟩
     case measure=>have h9:=HNT.out;simp [intOf];omega
    ·have e0:sn=0:=by omega
     have HEV:Hid (Dl.cps base target 0=pre++Dl.cps base target (p+1)):=Lib.hid (by rw [HE.out,Dl.cps_skip HP.out (by rw [←HSN.out];exact e0)])
     subst e0
     have g5:max (0:Int) 1=1:=by decide
     gi_wp2
     refine ⟨fun _ h=>(by cases h),?_⟩
     gi_wp2
     go_roundw
     case rel=>exact ⟨p+1,_,by have h9:=HNT.out;omega,by go_num,HEV,HJ6.out,HK6,HS6⟩
     case measure=>have h9:=HNT.out;simp [intOf];omega
  ·have e:Dl.cps base target p=[]:=Dl.cps_end (by omega)
   have HE2:=HE.out
   rw [e,List.append_nil] at HE2
   have HE3:=Lib.hid HE2
   clear e HE2
   have p1:¬(p:Int) < target.length:=by omega
   gi_wp2
   go_end0
   exact ⟨⟨_,rfl⟩,by rw [HE3.out];exact hJs⟩
end Go.Proofs.YtndgadjeeinedaaGreatDoor
/- slices.Chunk at bytes: it goes through a text's parts of at most 127 bytes. -/
namespace Go.Proofs.YtndgadjeeinedaaGreatDoor
open Go Go.RowKit Go.Shelf
attribute [local go_sem] Oper.semAt_some
theorem sl_full (b o len cap l h : Nat) (w : World) (_h1 : l ≤ h) (h2 : h ≤ cap) (h3 : l < h) {lo hi mx : Int} (el : lo = l) (eh : hi = h) (em : mx = h) :
    (Instr.slice 25 (.slice (some ⟨b, o, none⟩) len cap) (some (.int .i64 lo)) (some (.int .i64 hi)) (some (.int .i64 mx))).run Tryz.prog w = .ok (.slice (some ⟨b, o + l, none⟩) (h - l) (h - l)) w := by
  subst el eh em
  cases hq : Tryz.prog.info? 5 with
  | none => have h : (Tryz.prog.info? 5).map (·.size) = some 1 := by kernel_rfl
            simp [hq] at h
  | some i =>
    have hs : i.size = 1 := by have h : (Tryz.prog.info? 5).map (·.size) = some 1 := by kernel_rfl
                               simpa [hq] using h
    have hn : ((l : Nat) : Int) ≤ h := by omega
    have hm : ((h : Nat) : Int) ≤ cap := by omega
    have hc : ¬ h = l := by omega
    simp [Instr.slice, run_underlying Tryz.underlying25, Instr.sliceBounds, run_sliceBound, sizeOf, typeInfo, hq, hs, hn, hm, hc, Addr.add_mid]
namespace Dl
def chF (n:Nat):Nat→Nat→List (Nat×Nat)
 | 0,_=>[]
 | f+1,p=>if p < n then (p,min 127 (n - p))::chF n f (p+127) else []
theorem chF_succ (n f p:Nat):chF n (f+1) p=if p < n then (p,min 127 (n - p))::chF n f (p+127) else []:=rfl
theorem chF_more (n:Nat):∀ (f p:Nat),n≤p+f→∀ g,f≤g→chF n g p=chF n f p
 | 0,p,h,g,_=>by
  cases g with
  | zero=>rfl
  | succ g=>rw [chF_succ,if_neg (by omega)];rfl
 | f+1,p,h,g,hg=>by
  cases g with
  | zero=>omega
  | succ g=>
   rw [chF_succ,chF_succ]
   by_cases hp:p < n
   ·rw [if_pos hp,if_pos hp,chF_more n f _ (by omega) g (by omega)]
   ·rw [if_neg hp,if_neg hp]
def chk (n p:Nat):List (Nat×Nat):=chF n (n - p) p
theorem chk_end {n p:Nat} (h:n≤p):chk n p=[]:=by unfold chk;rw [show n - p=0 by omega];rfl
theorem chk_step {n p:Nat} (h:p < n):chk n p=(p,min 127 (n - p))::chk n (p+127):=by
 unfold chk
 obtain ⟨f,hf⟩:∃ f,n - p=f+1:=⟨n - p - 1,by omega⟩
 rw [hf,chF_succ,if_pos h,chF_more n (n - (p+127)) _ (by omega) f (by omega)]
 rw [hf]
theorem chF_in {n:Nat}:∀ (f p:Nat) (x:Nat×Nat),x∈chF n f p→0 < x.2∧x.2≤127∧x.1+x.2≤n
 | 0,p,x,h=>by simp [chF] at h
 | f+1,p,x,h=>by
  rw [chF_succ] at h
  split at h
  ·rcases List.mem_cons.1 h with rfl | h
   ·exact ⟨by simp;omega,by simp;omega,by simp;omega⟩
   ·exact chF_in f _ x h
  ·simp at h
end Dl
def chV (b o:Nat) (x:Nat×Nat):Array Value:=#[.slice (some ⟨b,o+x.1,none⟩) x.2 x.2]
theorem chunk_any (v:Value) (w:World) (hv:∃ A n c,v=.slice A n c) :
  Calls Tryz.prog 74 #[v,.int .i64 127] w fun e w'=>e=.returned (.func (.func 93) #[] #[.pointer (some ⟨w.heap.size,0,none⟩),.pointer (some ⟨w.heap.size+1,0,none⟩)])∧w'=(w.alloc (.cells #[v] 25)).alloc (.cells #[.int .i64 127] 3):=by
 obtain ⟨A,m,c,rfl⟩:=hv
 go_enter Tryz.func74,Tryz.ntmps74
 go_wp2
 go_ret
 exact ⟨rfl,rfl⟩
set_option maxRecDepth 100000 in
set_option maxHeartbeats 2000000 in
theorem chunk1_runs (n:Nat) (bS bN n₀ b o c nt:Nat) (A:Option Addr) (w:World) (hS:Boxed w bS 25 (.slice A nt c)) (hN:Boxed w bN 3 (.int .i64 127)) (hA:0 < nt→A=some ⟨b,o,none⟩) (hc:nt≤c) (hn:nt≤1000000) (hn0:n₀≤w.heap.size) :
  Runs n Tryz.prog 93 #[.pointer (some ⟨bS,0,none⟩),.pointer (some ⟨bN,0,none⟩)] (chV b o) (KpC n₀ bS bN) (Dl.chk nt 0) w:=by
 intro l J W0 hW hJ hY h0
 have kW:KpC n₀ bS bN w W0:=KpC.below hW hn0 hS.lt hN.lt
 have hS0:Boxed W0 bS 25 (.slice A nt c):=(kW.2.1 bS (.inl rfl)).trans hS
 have hN0:Boxed W0 bN 3 (.int .i64 127):=(kW.2.1 bN (.inr rfl)).trans hN
 clear hS hN kW hW hn0
 refine callsIn_of_wp Tryz.func93 rfl trivial ?_ rfl
 simp only [Tryz.ntmps93,List.size_toArray,List.length_cons,List.length_nil,Nat.reduceAdd,Nat.reduceSub,Array.replicate_succ,Array.replicate_zero,List.push_toArray,List.append_toArray,List.nil_append,List.cons_append]
 gi_wp2
 gi_loopw [4] (fun v wr=>∃ p pre,p≤nt+127∧v=.int .i64 (p:Nat)∧Hid (Dl.chk nt 0=pre++Dl.chk nt p)∧J pre wr∧Boxed wr bS 25 (.slice A nt c)∧Boxed wr bN 3 (.int .i64 127)) (fun v _=>nt+127 - (intOf v).toNat)
 case atStart=>exact ⟨0,[],Nat.zero_le _,rfl,Lib.hid rfl,h0,hS0,hN0⟩
 case round=>
  obtain ⟨p,pre,hp,rfl,HE,hJs,hS1,hN1⟩:=hrel
  have cS:=hS1.cell
  have cN:=hN1.cell
  by_cases hlt:p < nt
  ·obtain rfl:=hA (by omega)
   obtain ⟨e,he⟩:∃ e,e=min 127 (nt - p):=⟨_,rfl⟩
   have HEV:Hid (Dl.chk nt 0=pre++(p,e)::Dl.chk nt (p+127)):=Lib.hid (by rw [HE.out,Dl.chk_step hlt,←he])
   have S1:∀ w',(Instr.slice 25 (.slice (some ⟨b,o,none⟩) nt c) (some (.int .i64 (p:Int))) none none).run Tryz.prog w'=.ok (.slice (some ⟨b,o+p,none⟩) (nt - p) (c - p)) w':=fun w'=>sl_lo b o nt c p w' (by omega) (by omega) rfl
   have S2:∀ w',(Instr.slice 25 (.slice (some ⟨b,o,none⟩) nt c) (some (.int .i64 (p:Int))) (some (.int .i64 ((p:Int)+(e:Int)))) (some (.int .i64 ((p:Int)+(e:Int))))).run Tryz.prog w'=.ok (.slice (some ⟨b,o+p,none⟩) e e) w':=fun w'=>by
    have h:=sl_full b o nt c p (p+e) w' (by omega) (by omega) (by omega) (lo:=(p:Int)) (hi:=(p:Int)+(e:Int)) (mx:=(p:Int)+(e:Int)) rfl (by omega) (by omega)
    rwa [show p+e - p=e by omega] at h
   have hJd:=hJ pre wr wr.drew none hJs (only_of_below (below_drewN (Below.refl _ wr) 1) none) (fun r e=>by cases e)
   obtain ⟨fn,tmps,assign,body,hy,hR⟩:=hY pre (p,e) _ wr.drew HEV.out hJd
   dsimp only [chV] at hy
   have p0:(p:Int) < nt:=by omega
   have p2:(p:Int)+(e:Int)≤1000000:=by omega
   have e2:e≤127:=by omega
   have HS1:=Lib.hid hS1
   have HN1:=Lib.hid hN1
   have m1:(min (127:Int) ((nt - p:Nat):Int))=(e:Int):=by omega
   clear he hJd hJs
   gi_wp2
   refine wpIn_wide.2 ?_
   go_region
   all_goals gi_wp2
   all_goals
    refine ⟨(fun e=>by cases e),hR.mono ?_⟩
    rintro e3 W3 ⟨rfl,hJ3,hk3⟩
    have hS3:Boxed W3 bS 25 (.slice (some ⟨b,o,none⟩) nt c):=(hk3.2.1 bS (.inl rfl)).trans HS1.out
    have hN3:Boxed W3 bN 3 (.int .i64 127):=(hk3.2.1 bN (.inr rfl)).trans HN1.out
    have cS3:=hS3.cell
    have cN3:=hN3.cell
    have HJ3:=Lib.hid hJ3
    have HS3:=Lib.hid hS3
    have HN3:=Lib.hid hN3
    clear hJ3 hk3 hR hy hS3 hN3 cS cN hS1 hN1 m1
    gi_wp2
    go_roundw
    case rel=>exact ⟨p+127,_,by omega,by go_num,Lib.hid (by rw [HEV.out];simp),HJ3.out,HS3.out,HN3.out⟩
    case measure=>simp [intOf];omega
  ·have e:Dl.chk nt p=[]:=Dl.chk_end (by omega)
   have HE2:=HE.out
   rw [e,List.append_nil] at HE2
   have HE3:=Lib.hid HE2
   clear e HE2
   have p1:¬(p:Int) < nt:=by omega
   gi_wp2
   go_end0
   exact ⟨⟨_,rfl⟩,by rw [HE3.out];exact hJs⟩
end Go.Proofs.YtndgadjeeinedaaGreatDoor
