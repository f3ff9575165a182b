/- The document's Encode of packs. -/
import Derived.Maps.RangeWalk
import Derived.Test.YtndgadjeeinedaaGreatDoorMPk31
import Derived.Test.YtndgadjeeinedaaGreatDoorMPk20s
import Derived.Test.YtndgadjeeinedaaGreatDoorMDl26
namespace Go.Proofs.YtndgadjeeinedaaGreatDoor
open Go Go.RowKit
def REncPost (l:List (List Nat)) (w:World) (e:Ending) (w':World):Prop:=
 Below w.heap.size w w'∧(∀ c,Pk.encode l=.bad c→e=.returned (.tuple #[.slice none 0 0,.int .i64 (c:Int)]))∧(∀ b,Pk.encode l=.ok b→∃ v,e=.returned (.tuple #[v,.int .i64 0])∧Pad w.heap.size w v b w')
theorem renc_bad {l:List (List Nat)} {w w':World} {c:Nat} (hb:Below w.heap.size w w') (hp:Pk.encode l=.bad c) {v:Value} (he:v=.tuple #[.slice none 0 0,.int .i64 (c:Int)]):REncPost l w (.returned v) w':=
 ⟨hb,fun c' hc=>(by rw [hp] at hc;injection hc with hc;subst hc;rw [he]),fun b hb'=>(by rw [hp] at hb';cases hb')⟩
theorem fldP_info:(Tryz.prog.info? 59).map (fun i=>(i.zero,i.size,i.bytes))=some (some (.agg #[.int .i64 0,.slice none 0 0]),2,32):=by kernel_rfl
theorem bts_size:(Tryz.prog.info? 25).map (·.size)=some 1:=by kernel_rfl
set_option maxRecDepth 100000 in
set_option maxHeartbeats 16000000 in
theorem rencode_any (A:Option Addr) (n c:Nat) (its:List Pk.It) (w:World) (h:Txts w (.slice A n c) its) (hn:its.length≤100) (hl:∀ p∈its,p.text.length≤100000) :
  Calls Tryz.prog 7 #[.slice A n c] w (REncPost (its.map (·.text)) w):=by
 have hnl:n=its.length:=by
  obtain ⟨A',c',hv,_⟩:=h.row
  injection hv with e1 e2 e3
  rw [e2,List.length_map]
 have hcc:n≤c:=by
  obtain ⟨A',c',hv,hc,_⟩:=h.row
  injection hv with e1 e2 e3
  omega
 obtain ⟨l,hlt⟩:∃ l,l=its.map (·.text):=⟨_,rfl⟩
 have hll:n=l.length:=by rw [hlt,List.length_map];exact hnl
 have HX:=Lib.hid h
 have HL:=Lib.hid hl
 have HCC:=Lib.hid hcc
 have HNL:=Lib.hid hnl
 have HLL:=Lib.hid hll
 have HLE:=Lib.hid hlt
 rw [←hlt]
 have HN:Hid (n≤100):=Lib.hid (by omega)
 obtain ⟨ip,hip,hpz,hps,hpb⟩:=info_parts fldP_info
 have HIP:Hid (_∧_∧_∧_):=Lib.hid ⟨hip,hpz,hps,hpb⟩
 clear h hn hl hnl hcc hlt hll hip hpz hps hpb
 go_enter Tryz.func7,Tryz.ntmps7
 by_cases h64:64 < n
 ·have i1:(64:Int) < (n:Int):=by omega
  have HP:Hid (Pk.encode l=.bad 22):=Lib.hid (Pk.enc_full (by rw [←HLL.out];exact h64))
  clear h64
  go_wp2
  go_ret2
  exact renc_bad (Below.refl _ _) HP.out rfl
 have i1:¬(64:Int) < (n:Int):=by omega
 have H64:Hid (l.length≤64):=Lib.hid (by rw [←HLL.out];omega)
 have HN64:Hid (n≤64):=Lib.hid (by omega)
 clear h64
 go_wp2
 clear i1
 go_loopw [24] (fun i wr=>∃ k:Nat,k≤n∧i=.int .i64 k∧Hid (Below w.heap.size w wr)∧Hid (Pk.AdmTo l k)) (fun i _=>n - (intOf i).toNat)
 case atStart=>exact ⟨0,Nat.zero_le _,rfl,Lib.hid (Below.refl _ _),Lib.hid (fun j _ hj=>by omega)⟩
 case round=>
  obtain ⟨k,hk,rfl,HB,HAT⟩:=hrel
  by_cases hlt:k < n
  ·have hki:k < its.length:=by rw [←HNL.out];exact hlt
   obtain ⟨b,o,rfl,hbl,hcell,hrd,hby⟩:=HX.out.at_ hki
   have hte:l[k]'(by rw [←HLL.out];exact hlt)=its[k].text:=(List.getElem_of_eq HLE.out _).trans (by simp)
   have hsz:=HL.out _ (List.getElem_mem hki)
   have pc:=(HB.out.cell (p:=⟨b,o+k,none⟩) hbl).trans hcell
   generalize its[k]=p at hcell hrd hby hte hsz pc
   obtain ⟨At,ct,hval⟩:∃ A1 c1,p.val=.slice A1 p.text.length c1:=by obtain ⟨A1,c1,h,_⟩:=hrd;exact ⟨A1,c1,h⟩
   rw [hval] at pc hrd
   obtain ⟨t,htx⟩:∃ t,t=p.text:=⟨_,rfl⟩
   rw [←htx] at pc hrd hby hte hsz
   obtain ⟨nt,hnt⟩:∃ n,n=t.length:=⟨_,rfl⟩
   rw [←hnt] at pc hrd hsz
   have HNT:=Lib.hid hnt
   have HTT:=Lib.hid hrd
   have HTB:=Lib.hid hby
   have HSZ:=Lib.hid hsz
   have HLT:Hid (k+1≤n):=Lib.hid hlt
   have HKL:Hid (∃ hk:k < l.length,l[k]=t):=Lib.hid ⟨by rw [←HLL.out];exact hlt,hte⟩
   have HBAD:Hid (∀ c,Pk.adm (Pk.flat (l.take k)) t=c→c≠0→Pk.encode l=.bad c):=Lib.hid (fun c hc h0=>Pk.enc_bad H64.out (by rw [←HLL.out];exact hlt) HAT.out (by rw [hte];exact hc) h0)
   have HTW:Hid (∀ w',Below w.heap.size w w'→Rd w' (.slice At nt ct) t):=Lib.hid (fun w' hb=>HTT.out.below hb (Nat.le_refl _))
   have i1:((k:Nat):Int) < n:=by omega
   have i2:(0:Int)≤((k:Nat):Int):=by omega
   have i3:((n:Nat):Int)≤64:=by have:=HN64.out;omega
   have HIK:Hid (k≤n∧k≤its.length):=Lib.hid ⟨by omega,by omega⟩
   clear hki hbl hcell hrd hby hte hsz hval htx hk hlt
   by_cases hlg:300 < nt
   ·have CP:=rparse_large At nt ct wr hlg
    have HE:=Lib.hid (HBAD.out 13 (by unfold Pk.adm;rw [if_pos (by omega)]) (by decide))
    clear hnt
    go_wp2_with (go_at_call 13;refine pause ?_)
    unfold Paused
    refine CP.mono ?_
    rintro e w8 ⟨rfl,hb8⟩
    have HB8:=Lib.hid (below_next HB.out hb8)
    clear hb8 CP hlg pc HB
    clear wr
    go_wp2_with (with_reducible (show wpList _ _ _ (Oper.mk _ (Op.store 51 _ _) _ _ _ _::_) _ _);refine pause ?_)
    unfold Paused
    change wpList _ _ _ _ _ (w8.alloc (.cells zc0 51))
    refine wpList_store_row (by rfl) 51 (.tmp 6) (.tmp 32) (by rfl) w8.heap.size zc0 (by rfl) (by rfl) 51 zc0 (Blk.new w8 _ _) (by kernel_rfl) (by rfl) (by kernel_rfl) ?_
    have b9:Below w8.heap.size w8 ((w8.alloc (.cells zc0 51)).setRow w8.heap.size zc0):=below_row ((Below.refl _ _).alloc (Nat.le_refl _) _) (Nat.le_refl _) _
    have HB9:=Lib.hid (below_next HB8.out b9)
    clear b9 HB8
    generalize (w8.alloc (.cells zc0 51)).setRow w8.heap.size zc0=w9 at HB9 ⊢
    generalize w8.heap.size=g9
    clear w8
    simp only [Act.put]
    go_wp2
    go_ret2
    exact renc_bad HB9.out HE.out rfl
   have hz300:t.length≤300:=by omega
   have CP:=rparse_any t At ct wr (by rw [←hnt];exact HTW.out _ HB.out) (oc_bytes HTB.out) hz300
   rw [←hnt] at CP
   unfold RPost at CP
   cases hpt:Ob.parse t with
   | bad q=>
    have hc0:=Pk.parse_bad_pos hpt
    have HE:=Lib.hid (HBAD.out q (by unfold Pk.adm;rw [if_neg (by omega),hpt]) (by omega))
    have gc:((q:Int) != 0)=true:=by simp;omega
    have gc2:¬((q:Nat):Int)=0:=by omega
    have HPT:=Lib.hid hpt
    clear hnt hz300 hlg hc0 hpt
    go_wp2_with (go_at_call 13;refine pause ?_)
    unfold Paused
    refine CP.mono ?_
    rintro e w8 ⟨hb8,h2,h3⟩
    obtain rfl:=h2 q HPT.out
    have HB8:=Lib.hid (below_next HB.out hb8)
    clear hb8 h2 h3 CP pc HB
    clear wr
    go_wp2_with (with_reducible (show wpList _ _ _ (Oper.mk _ (Op.store 51 _ _) _ _ _ _::_) _ _);refine pause ?_)
    unfold Paused
    change wpList _ _ _ _ _ (w8.alloc (.cells zc0 51))
    refine wpList_store_row (by rfl) 51 (.tmp 6) (.tmp 32) (by rfl) w8.heap.size zc0 (by rfl) (by rfl) 51 zc0 (Blk.new w8 _ _) (by kernel_rfl) (by rfl) (by kernel_rfl) ?_
    have b9:Below w8.heap.size w8 ((w8.alloc (.cells zc0 51)).setRow w8.heap.size zc0):=below_row ((Below.refl _ _).alloc (Nat.le_refl _) _) (Nat.le_refl _) _
    have HB9:=Lib.hid (below_next HB8.out b9)
    clear b9 HB8
    generalize (w8.alloc (.cells zc0 51)).setRow w8.heap.size zc0=w9 at HB9 ⊢
    generalize w8.heap.size=g9
    clear w8
    simp only [Act.put]
    go_wp2
    go_ret2
    exact renc_bad HB9.out HE.out rfl
   | ok ob=>
   have HAD:Hid (Pk.adm (Pk.flat (l.take k)) t=if (Pk.idx (its.take k) (Sha.sum t) (its.take k).length).isSome then 20 else 0):=Lib.hid (by
    unfold Pk.adm
    rw [if_neg (by omega),hpt]
    dsimp only
    rw [fnd_isSome_texts (its.take k) (Pk.flat (l.take k)) (by rw [Pk.flat_texts,HLE.out,List.map_take])])
   have HPT:=Lib.hid hpt
   clear hnt hz300 hlg hpt
   go_wp2_with (go_at_call 13;refine pause ?_)
   unfold Paused
   refine CP.mono ?_
   rintro e w8 ⟨hb8,h2,h3⟩
   obtain ⟨cs,T1,tc,E1,ec,P1,pcc,rfl,hfit,_,hob⟩:=h3 ob HPT.out
   have HC36:=Lib.hid (hob.size hfit)
   have HC1:Hid (cs.all (·.oneCell')=true):=Lib.hid (by rw [hob.cells];exact cellsOb_one _ _ _ _ _ _ _ _ _ _ _)
   have HB8:=Lib.hid (below_next HB.out hb8)
   clear hb8 h2 h3 CP hfit hob HPT pc HB
   clear wr
   go_wp2_with (with_reducible (show wpList _ _ _ (Oper.mk _ (Op.store 51 _ _) _ _ _ _::_) _ _);refine pause ?_)
   unfold Paused
   change wpList _ _ _ _ _ (w8.alloc (.cells zc0 51))
   refine wpList_store_row (by rfl) 51 (.tmp 6) (.tmp 32) (by rfl) w8.heap.size cs (by rfl) (by rfl) 51 zc0 (Blk.new w8 _ _) (by rw [HC36.out];kernel_rfl) (by rw [HC36.out];rfl) HC1.out ?_
   have b9:Below w8.heap.size w8 ((w8.alloc (.cells zc0 51)).setRow w8.heap.size cs):=below_row ((Below.refl _ _).alloc (Nat.le_refl _) _) (Nat.le_refl _) _
   have HB9:=Lib.hid (below_next HB8.out b9)
   clear b9 HB8
   generalize (w8.alloc (.cells zc0 51)).setRow w8.heap.size cs=w9 at HB9 ⊢
   generalize w8.heap.size=g9
   clear w8
   simp only [Act.put]
   clear HC36 HC1
   have CID:=rid_any (.slice At nt ct) t w9 (HTW.out _ HB9.out) HTB.out (by rw [←HNT.out];have:=HSZ.out;omega)
   go_wp2_with (go_at_call 14;refine pause ?_)
   unfold Paused
   refine CID.mono ?_
   rintro e w10 ⟨rfl,hb10⟩
   have HB10:=Lib.hid (below_next HB9.out hb10)
   have HS:=Lib.hid (sum_id t)
   clear hb10 CID HB9
   clear w9
   obtain ⟨su,hsu⟩:∃ su,su=Sha.sum t:=⟨_,rfl⟩
   rw [←hsu] at HS HAD ⊢
   clear hsu
   go_wp2_with (with_reducible (show wpList _ _ _ (Oper.mk _ (Op.store 41 _ _) _ _ _ _::_) _ _);refine pause ?_)
   unfold Paused
   change wpList _ _ _ _ _ (w10.alloc (.cells (u8s (List.replicate 32 0)) 41))
   refine wpList_store_row (by rfl) 41 (.tmp 8) (.tmp 38) (by rfl) w10.heap.size (u8s su) (by rfl) (by rfl) 41 (u8s (List.replicate 32 0)) (Blk.new w10 _ _) (by rw [u8s_size,HS.out.1];exact id_size) (by rw [u8s_size,u8s_size,HS.out.1];rfl) (u8s_one _) ?_
   have b11:Below w10.heap.size w10 ((w10.alloc (.cells (u8s (List.replicate 32 0)) 41)).setRow w10.heap.size (u8s su)):=below_row ((Below.refl _ _).alloc (Nat.le_refl _) _) (Nat.le_refl _) _
   have HB11:=Lib.hid (below_next HB10.out b11)
   have HBK:Hid (Blk ((w10.alloc (.cells (u8s (List.replicate 32 0)) 41)).setRow w10.heap.size (u8s su)) w10.heap.size 41 (u8s su)):=Lib.hid ((Blk.new w10 _ _).row _)
   clear b11 HB10
   generalize (w10.alloc (.cells (u8s (List.replicate 32 0)) 41)).setRow w10.heap.size (u8s su)=w11 at HB11 HBK ⊢
   generalize w10.heap.size=g11 at HBK ⊢
   clear w10
   simp only [Act.put]
   obtain ⟨T11,hT11⟩:∃ T,T=textOf su:=⟨_,rfl⟩
   have HT11:=Lib.hid hT11
   clear hT11
   go_wp2_with fail
   have HD:Hid (Below w11.heap.size w11 w11.drew):=Lib.hid (below_drewN (Below.refl _ _) 1)
   refine wp_region_held (S:=fun w'=>Below w11.heap.size w11 w') (by kernel_rfl) ?_
   change wpAnyH _ _ _ _ _ _ _ _ w11.drew
   refine wpAnyH_take (i:=0) (v:=?_) rfl (by kernel_rfl) (by kernel_rfl) (by kernel_rfl) (fun _ _ _ h=>h) (Or.inl ⟨by rfl,?_⟩) HD.out ?_
   rotate_left
   ·intro w' hS;go_simp;with_reducible rfl
   try go_frame
   refine wpAnyH_take (i:=1) (v:=?_) rfl (by kernel_rfl) (by kernel_rfl) (by kernel_rfl) (fun _ _ _ h=>h) (Or.inl ⟨by rfl,?_⟩) HD.out ?_
   rotate_left
   ·intro w' hS;go_simp;with_reducible rfl
   try go_frame
   refine wpAnyH_take (i:=2) (v:=.slice (some ⟨b,o,none⟩) k c) rfl (by kernel_rfl) (by kernel_rfl) (by kernel_rfl) (fun _ _ _ h=>h) (takes_sliceHiT (.tmp 39) (.tmp 40) rfl (by rfl) (.slice (some ⟨b,o,none⟩) n c) (.int .i64 (k:Int)) _ (by rfl) (by rfl) (fun w'=>run_sliceHi Tryz.underlying22 bts_size (some ⟨b,o,none⟩) n c k (by have:=HIK.out.1;have:=HCC.out;omega) rfl w')) HD.out ?_
   try go_frame
   refine wpAnyH_take (i:=3) (v:=?_) rfl (by kernel_rfl) (by kernel_rfl) (by kernel_rfl) (fun _ _ _ h=>h) (Or.inl ⟨by rfl,?_⟩) HD.out ?_
   rotate_left
   ·intro w' hS;go_simp;with_reducible rfl
   try go_frame
   refine wpAnyH_take (i:=4) (v:=.string T11) rfl (by kernel_rfl) (by kernel_rfl) (by kernel_rfl) (fun _ _ _ h=>h) (Or.inl ⟨by rfl,?_⟩) HD.out ?_
   ·intro w' hS;have q1:(convert 25 9 (.slice (some ⟨g11,0,none⟩) 32 32)).run Tryz.prog w'=.ok (.string T11) w':=(by have hr:=rd_blk (HBK.out.below hS HBK.out.lt) (by rw [HS.out.1];decide);rw [HS.out.1] at hr;rw [HT11.out];exact conv_rd hr);first | (go_simp;done) | (go_simp;with_reducible rfl)
   try go_frame
   have CF:=pfind_any (some ⟨b,o,none⟩) k c (its.take k) su T11 w11.drew HT11.out HS.out.2 ((HX.out.below (below_next HB11.out HD.out)).upto HIK.out.2) (by rw [List.length_take];have:=HNL.out;have:=HN.out;omega) (fun p hp=>HL.out p (List.mem_of_mem_take hp))
   unfold RFindPost at CF
   cases hix:Pk.idx (its.take k) su (its.take k).length with
   | some i=>
    rw [hix] at CF
    have HE:=Lib.hid (HBAD.out 20 (by rw [HAD.out,hix];rfl) (by decide))
    have gi:(0:Int)≤(i:Int):=by omega
    simp only [Pk.at_] at CF
    clear hix
    refine all_one (i:=5) (by kernel_rfl) rfl (by rfl) (fun K hK=>?_)
    go_simp
    refine CF.mono ?_
    rintro e w12 ⟨rfl,hb12⟩
    have HD12:Hid (Below w11.heap.size w11 w12):=Lib.hid (below_next HD.out hb12)
    clear hb12 CF
    dsimp only
    refine hK _ _ HD12.out ?_;clear hK K
    try go_frame
    refine wpAnyH_take (i:=6) (v:=.bool true) rfl (by kernel_rfl) (by kernel_rfl) (by kernel_rfl) (fun _ _ _ h=>h) (Or.inl ⟨by rfl,?_⟩) HD12.out ?_
    ·intro w' hS;first | (go_simp;done) | (go_simp;with_reducible rfl)
    try go_frame
    refine wpAnyH_done (by kernel_rfl) ?_ _
    have HF:=Lib.hid (below_next HB11.out HD12.out)
    go_wp2
    go_ret2
    exact renc_bad HF.out HE.out rfl
   | none=>
    rw [hix] at CF
    have HA1:Hid (Pk.AdmTo l (k+1)):=Lib.hid (by
     obtain ⟨hk,he⟩:=HKL.out
     exact HAT.out.next hk (by rw [he,HAD.out,hix];rfl))
    simp only [Pk.at_] at CF
    clear hix
    refine all_one (i:=5) (by kernel_rfl) rfl (by rfl) (fun K hK=>?_)
    go_simp
    refine CF.mono ?_
    rintro e w12 ⟨rfl,hb12⟩
    have HD12:Hid (Below w11.heap.size w11 w12):=Lib.hid (below_next HD.out hb12)
    clear hb12 CF
    dsimp only
    refine hK _ _ HD12.out ?_;clear hK K
    try go_frame
    refine wpAnyH_take (i:=6) (v:=.bool false) rfl (by kernel_rfl) (by kernel_rfl) (by kernel_rfl) (fun _ _ _ h=>h) (Or.inl ⟨by rfl,?_⟩) HD12.out ?_
    ·intro w' hS;first | (go_simp;done) | (go_simp;with_reducible rfl)
    try go_frame
    refine wpAnyH_done (by kernel_rfl) ?_ _
    have HF:=Lib.hid (below_next HB11.out HD12.out)
    clear HD HD12 HBK HB11 HAD HAT HBAD
    clear w11
    go_wp2
    go_roundw
    case rel=>exact ⟨k+1,HLT.out,by go_num,HF,HA1⟩
    case measure=>have h5:=HLT.out;simp [intOf];omega
  ·obtain rfl:k=n:=by omega
   have ik:¬((k:Nat):Int) < k:=by omega
   have HAL:Hid (Pk.AdmTo l l.length):=Lib.hid (by rw [←HLL.out];exact HAT.out)
   have HSHT:=Lib.hid (HAL.out.short)
   have HALL:=Lib.hid (Pk.enc_all H64.out HAL.out)
   have q8:IntKind.u8.wrap (k:Int)=(k:Int):=small_u8b k (by have:=HN64.out;omega)
   clear hk hlt HAT
   go_wp2
   clear q8 ik
   have hown:Pad w.heap.size w (.slice (some ⟨wr.heap.size,0,none⟩) 1 1) [k] (wr.alloc (.cells #[.int .u8 (k:Int)] 5)):=⟨own_one wr w.heap.size k HB.out.size,HB.out.alloc (HB.out.size) _⟩
   have HQ0:=Lib.hid hown
   clear hown HB
   generalize wr.alloc (.cells #[.int .u8 (k:Int)] 5)=wz at HQ0 ⊢
   generalize wr.heap.size=gz at HQ0 ⊢
   clear wr
   obtain ⟨n,hkn⟩:∃ n,n=k:=⟨_,rfl⟩
   subst hkn
   go_loopw [9,10,53] (fun v d i wr=>∃ k:Nat,k≤n∧i=.int .i64 k∧d=.int .i64 (((Pk.laidK l k).1.2:Nat):Int)∧Hid (Pad w.heap.size w v (Pk.laidK l k).2 wr)) (fun _ _ i _=>n - (intOf i).toNat)
   case atStart=>exact ⟨0,Nat.zero_le _,rfl,rfl,by show Hid (Pad _ _ _ [l.length] _);rw [←HLL.out];exact HQ0⟩
   case round=>
    obtain ⟨k,hk,rfl,rfl,HQ⟩:=hrel
    by_cases hlt:k < n
    ·have hki:k < its.length:=by rw [←HNL.out];exact hlt
     obtain ⟨b,o,rfl,hbl,hcell,hrd,hby⟩:=HX.out.at_ hki
     have hkl:k < l.length:=by rw [←HLL.out];exact hlt
     have hte:l[k]'hkl=its[k].text:=(List.getElem_of_eq HLE.out _).trans (by simp)
     have hsh:=HSHT.out _ (List.getElem_mem hkl)
     have pc:=(HQ.out.bel.cell (p:=⟨b,o+k,none⟩) hbl).trans hcell
     generalize its[k]=p at hcell hrd hby hte pc
     obtain ⟨At,ct,hval⟩:∃ A1 c1,p.val=.slice A1 p.text.length c1:=by obtain ⟨A1,c1,h,_⟩:=hrd;exact ⟨A1,c1,h⟩
     rw [hval] at pc hrd
     obtain ⟨t,htx⟩:∃ t,t=p.text:=⟨_,rfl⟩
     rw [←htx] at pc hrd hby hte
     rw [hte] at hsh
     obtain ⟨nt,hnt⟩:∃ n,n=t.length:=⟨_,rfl⟩
     rw [←hnt] at pc hrd hsh
     have HNT:=Lib.hid hnt
     have HSH:=Lib.hid hsh
     have HTB:=Lib.hid hby
     have HTW:Hid (∀ w',Below w.heap.size w w'→Rd w' (.slice At nt ct) t):=Lib.hid (fun w' hb=>hrd.below hb (Nat.le_refl _))
     have HLT:Hid (k+1≤n):=Lib.hid hlt
     have HKN:Hid (k≤64):=Lib.hid (by have:=HN64.out;omega)
     have HPL:=Lib.hid (Pk.laidK_few HSHT.out k)
     have HNX:Hid (Pk.laidK l (k+1)=((t,(Pk.lays (Pk.laidK l k).1 t).2),(Pk.laidK l k).2++(Pk.lays (Pk.laidK l k).1 t).1)):=Lib.hid (by rw [Pk.laidK_next hkl,hte])
     have HKL:Hid (k < l.length∧k < its.length):=Lib.hid ⟨hkl,hki⟩
     have i1:((k:Nat):Int) < n:=by omega
     have i2:(0:Int)≤((k:Nat):Int):=by omega
     have i3:((n:Nat):Int)≤64:=by have:=HN64.out;omega
     obtain ⟨dp,hdp⟩:∃ dp,dp=(Pk.laidK l k).1.2:=⟨_,rfl⟩
     rw [←hdp]
     have HDP:=Lib.hid hdp
     have j1:((dp:Nat):Int)≤5:=by have:=Pk.laidK_depth l k;omega
     clear hki hbl hcell hrd hby hte hval htx hk hlt hkl hnt hsh hdp
     by_cases hd:0 < k∧dp < 5
     ·obtain ⟨k',rfl⟩:∃ k',k=k'+1:=⟨k - 1,by omega⟩
      have g0:(0:Int) < ((k'+1:Nat):Int):=by omega
      have g5:((dp:Nat):Int) < 5:=by omega
      have hki:k' < its.length:=by have:=HKL.out.2;omega
      have hkl:k' < l.length:=by have:=HKL.out.1;omega
      obtain ⟨b2,o2,hA2,hbl,hcell,hrd,hby⟩:=HX.out.at_ hki
      injection hA2 with hA2
      injection hA2 with hA3 hA4 _
      subst hA3 hA4
      have hte:l[k']'hkl=its[k'].text:=(List.getElem_of_eq HLE.out _).trans (by simp)
      have hsh:=HSHT.out _ (List.getElem_mem hkl)
      have pq:=(HQ.out.bel.cell (p:=⟨b,o+k',none⟩) hbl).trans hcell
      generalize its[k']=p' at hcell hrd hby hte pq
      obtain ⟨A2,c2,hval⟩:∃ A1 c1,p'.val=.slice A1 p'.text.length c1:=by obtain ⟨A1,c1,h,_⟩:=hrd;exact ⟨A1,c1,h⟩
      rw [hval] at pq hrd
      obtain ⟨t2,htx⟩:∃ t,t=p'.text:=⟨_,rfl⟩
      rw [←htx] at pq hrd hby hte
      rw [hte] at hsh
      obtain ⟨n2,hnt⟩:∃ n,n=t2.length:=⟨_,rfl⟩
      rw [←hnt] at pq hrd hsh
      have HN2:=Lib.hid hnt
      have HSH2:=Lib.hid hsh
      have HTB2:=Lib.hid hby
      have HTW2:Hid (∀ w',Below w.heap.size w w'→Rd w' (.slice A2 n2 c2) t2):=Lib.hid (fun w' hb=>hrd.below hb (Nat.le_refl _))
      have HLAST:Hid ((Pk.laidK l (k'+1)).1.1=t2):=Lib.hid (by rw [Pk.laidK_last hkl,hte])
      have hwr:wrap64 (((k'+1:Nat):Int) - 1)=((k':Nat):Int):=by rw [show (((k'+1:Nat):Int) - 1)=((k':Nat):Int) by omega];exact IntWalk.wrap64_in _ (by have:=HKN.out;omega)
      have hwr2:IntKind.i64.wrap (((k'+1:Nat):Int) - 1)=((k':Nat):Int):=(IntWalk.i64_left _).trans hwr
      have l1:((k':Nat):Int) < n:=by omega
      have l2:(0:Int)≤((k':Nat):Int):=by omega
      have CM:=rmake_any A2 At n2 c2 nt ct t2 t wr (HTW2.out _ HQ.out.bel) (HTW.out _ HQ.out.bel) HTB2.out HTB.out HSH2.out HSH.out
      have H5:Hid (dp < 5):=Lib.hid hd.2
      clear hki hkl hbl hcell hrd hby hte hval htx hnt hsh hd
      go_wp2_with (go_at_call 16;refine pause ?_)
      unfold Paused
      refine CM.mono ?_
      rintro r w5 ⟨v5,rfl,hp5⟩
      obtain ⟨Ad,cd,hvd⟩:=own_slice hp5.own
      subst hvd
      have HQ5:=Lib.hid (HQ.out.nextP rfl hp5.bel)
      have HD5:=Lib.hid hp5.rd
      have pq5:=(hp5.bel.cell (p:=⟨b,o+k',none⟩) (block_lt_of_cell pq)).trans pq
      obtain ⟨d,hdd⟩:∃ d,d=Dl.mk t2 t:=⟨_,rfl⟩
      rw [←hdd] at HD5 ⊢
      have HDD:=Lib.hid hdd
      obtain ⟨nd,hnd⟩:∃ n,n=d.length:=⟨_,rfl⟩
      rw [←hnd] at HD5 ⊢
      have HND:=Lib.hid hnd
      clear hp5 CM HQ pc pq hdd hnd
      clear wr
      by_cases hs:nd+40≤nt
      ·have s1:((nd:Nat):Int)+40≤((nt:Nat):Int):=by omega
       have s2:wrap64 (((nd:Nat):Int)+40)=((nd:Nat):Int)+40:=IntWalk.wrap64_in _ (by have:=HSH.out;omega)
       have s3:IntKind.i64.wrap (((nd:Nat):Int)+40)=((nd:Nat):Int)+40:=(IntWalk.i64_left _).trans s2
       have HLAY:Hid (Pk.laidK l (k'+1+1)=((t,dp+1),(Pk.laidK l (k'+1)).2++((1::Sha.sum t2)++([nd / 256,nd % 256]++d)))):=Lib.hid (by
        rw [HNX.out,Pk.lays_yes (by rw [←HDP.out];exact H5.out) (by rw [HLAST.out,←HDD.out,←HND.out,←HNT.out];exact hs),HLAST.out,←HDD.out,←HND.out,←HDP.out])
       have HDS:Hid (nd≤260):=Lib.hid (by have:=HSH.out;omega)
       have CID:=rid_any (.slice A2 n2 c2) t2 w5 (HTW2.out _ HQ5.out.bel) HTB2.out (by rw [←HN2.out];have:=HSH2.out;omega)
       clear hs
       go_wp2_with (go_at_call 14;refine pause ?_)
       unfold Paused
       refine CID.mono ?_
       rintro e w6 ⟨rfl,hb6⟩
       have HQ6:=Lib.hid (HQ5.out.nextP rfl hb6)
       have HD6:=Lib.hid (HD5.out.below hb6 (Nat.le_refl _))
       have HS:=Lib.hid (sum_id t2)
       clear hb6 CID HQ5 HD5 pq5
       clear w5
       obtain ⟨su,hsu⟩:∃ su,su=Sha.sum t2:=⟨_,rfl⟩
       rw [←hsu] at HS HLAY ⊢
       clear hsu
       go_wp2_with (with_reducible (show wpList _ _ _ (Oper.mk _ (Op.store 41 _ _) _ _ _ _::_) _ _);refine pause ?_)
       unfold Paused
       change wpList _ _ _ _ _ (w6.alloc (.cells (u8s (List.replicate 32 0)) 41))
       refine wpList_store_row (by rfl) 41 (.tmp 14) (.tmp 82) (by rfl) w6.heap.size (u8s su) (by rfl) (by rfl) 41 (u8s (List.replicate 32 0)) (Blk.new w6 _ _) (by rw [u8s_size,HS.out.1];exact id_size) (by rw [u8s_size,u8s_size,HS.out.1];rfl) (u8s_one _) ?_
       have b7:Below w6.heap.size w6 ((w6.alloc (.cells (u8s (List.replicate 32 0)) 41)).setRow w6.heap.size (u8s su)):=below_row ((Below.refl _ _).alloc (Nat.le_refl _) _) (Nat.le_refl _) _
       have HQ7:=Lib.hid (HQ6.out.nextP rfl b7)
       have HD7:=Lib.hid (HD6.out.below b7 (Nat.le_refl _))
       have HBK:Hid (Blk ((w6.alloc (.cells (u8s (List.replicate 32 0)) 41)).setRow w6.heap.size (u8s su)) w6.heap.size 41 (u8s su)):=Lib.hid ((Blk.new w6 _ _).row _)
       clear b7 HQ6 HD6
       generalize (w6.alloc (.cells (u8s (List.replicate 32 0)) 41)).setRow w6.heap.size (u8s su)=w7 at HQ7 HD7 HBK ⊢
       generalize w6.heap.size=g7 at HBK ⊢
       clear w6
       simp only [Act.put]
       go_wp2_with (with_reducible (show wpList _ _ _ (Oper.mk _ (Op.build 59 _) _ _ _ _::_) _ _);refine pause ?_)
       unfold Paused
       refine wpList_buildK (by rfl) 59 _ (by rfl) [(0,.int .i64 1)] (by kernel_rfl) _ (fldP_num 1) ?_
       go_wp2_with (with_reducible (show wpList _ _ _ (Oper.mk _ (Op.build 59 _) _ _ _ _::_) _ _);refine pause ?_)
       unfold Paused
       refine wpList_buildK (by rfl) 59 _ (by rfl) [(1,.slice (some ⟨g7,0,none⟩) 32 32)] (by kernel_rfl) _ (fldP_bytes _ 32 32) ?_
       go_wp2_with (with_reducible (show wpList _ _ _ (Oper.mk _ (Op.build 59 _) _ _ _ _::_) _ _);refine pause ?_)
       unfold Paused
       refine wpList_buildK (by rfl) 59 _ (by rfl) [(1,.slice Ad nd cd)] (by kernel_rfl) _ (fldP_bytes Ad nd cd) ?_
       go_wp2_with (with_reducible (show wpList _ _ _ (Oper.mk _ (Op.buildSlice _ _ _) _ _ _ _::_) _ _);refine pause ?_)
       unfold Paused
       refine wpList_buildSliceK (by rfl) 60 59 3 _ (by rfl) #[.int .i64 1,.slice none 0 0,.int .i64 0,.slice (some ⟨g7,0,none⟩) 32 32,.int .i64 0,.slice Ad nd cd] ip (.agg #[.int .i64 0,.slice none 0 0]) Tryz.underlying60 HIP.out.1 HIP.out.2.1 (by rw [HIP.out.2.2.1];decide) (by rw [HIP.out.2.2.1];decide) _ (by kernel_rfl) (by rw [HIP.out.2.2.1];exact fill_three _ _ _ _ _ _ _) ?_
       have hbb:Below w7.heap.size w7 (w7.alloc (.cells #[.int .i64 1,.slice none 0 0,.int .i64 0,.slice (some ⟨g7,0,none⟩) 32 32,.int .i64 0,.slice Ad nd cd] 59)):=(Below.refl _ _).alloc (Nat.le_refl _) _
       have HQb:=Lib.hid (HQ7.out.nextP rfl hbb)
       have HXb:=Lib.hid (Blk.new w7 59 #[.int .i64 1,.slice none 0 0,.int .i64 0,.slice (some ⟨g7,0,none⟩) 32 32,.int .i64 0,.slice Ad nd cd])
       have HDb:=Lib.hid (HD7.out.below hbb (Nat.le_refl _))
       have HKb:=Lib.hid (HBK.out.below hbb HBK.out.lt)
       clear hbb HQ7 HD7 HBK
       generalize w7.alloc (.cells #[.int .i64 1,.slice none 0 0,.int .i64 0,.slice (some ⟨g7,0,none⟩) 32 32,.int .i64 0,.slice Ad nd cd] 59)=wb at HQb HXb HDb HKb ⊢
       generalize w7.heap.size=gb at HXb ⊢
       clear w7
       have hru:=rd_blk HKb.out (by rw [HS.out.1];decide)
       have CW:=rwrite_bot (some ⟨gb,0,none⟩) gb 3 (some ⟨g7,0,none⟩) Ad 32 cd su d wb (by rw [HS.out.1,←HND.out];exact HXb.out) rfl (by rw [HS.out.1] at hru ⊢;exact hru) HS.out.1 (by rw [←HND.out];exact HDb.out) (by rw [←HND.out];have:=HDS.out;omega)
       rw [←HND.out] at CW
       clear hru
       go_wp2_with (go_at_call 17;refine pause ?_)
       unfold Paused
       refine CW.mono ?_
       rintro r wc ⟨vc,rfl,hpc⟩
       have HQc:=Lib.hid (HQb.out.nextP rfl hpc.bel)
       have HRc:=Lib.hid hpc.rd
       clear hpc CW HQb HXb HDb HKb
       clear wb
       go_wp2_with (with_reducible (show wpList _ _ _ (Oper.mk _ (Op.call (Call.mk (Callee.builtin Builtin.append) _ _)) _ _ _ _::_) _ _);refine pause ?_)
       unfold Paused
       refine wpList_padP (by rfl) (.tmp 93) (.tmp 94) (by rfl) rfl (by rfl) HQc.out (by rfl) HRc.out (by have h1:=HPL.out;have h2:=HDS.out;have h3:=HND.out;have h4:=HKN.out;have h5:=HS.out.1;simp only [List.length_append,List.length_cons,List.length_nil];omega) ?_
       intro vd wd hpd
       have HQd:Hid (Pad w.heap.size w vd (Pk.laidK l (k'+1+1)).2 wd):=Lib.hid (by rw [HLAY.out];exact hpd)
       have HDEP:Hid ((Pk.laidK l (k'+1+1)).1.2=dp+1):=Lib.hid (by rw [HLAY.out])
       clear hpd HQc HRc
       clear wc
       simp only [Act.put]
       go_wp2
       go_roundw
       case rel=>exact ⟨k'+1+1,HLT.out,by go_num,by rw [HDEP.out];go_num,HQd⟩
       case measure=>have h5:=HLT.out;simp [intOf];omega
      ·have s1:¬((nd:Nat):Int)+40≤((nt:Nat):Int):=by omega
       have HNDM:Hid (nd≤4+2 * nt):=Lib.hid (by rw [HND.out,HDD.out,HNT.out];exact mk_len_le t2 t)
       have s2:wrap64 (((nd:Nat):Int)+40)=((nd:Nat):Int)+40:=IntWalk.wrap64_in _ (by have:=HSH.out;have:=HNDM.out;omega)
       have s3:IntKind.i64.wrap (((nd:Nat):Int)+40)=((nd:Nat):Int)+40:=(IntWalk.i64_left _).trans s2
       have HLAY:Hid ((Pk.laidK l (k'+1+1)).2=(Pk.laidK l (k'+1)).2++(0::([nt / 256,nt % 256]++t))):=Lib.hid (by
        rw [HNX.out,Pk.lays_no (by rw [HLAST.out,←HDD.out,←HND.out,←HNT.out];exact fun h=>hs h.2),←HNT.out])
       have HDEP:Hid ((Pk.laidK l (k'+1+1)).1.2=0):=Lib.hid (by
        rw [HNX.out,Pk.lays_no (by rw [HLAST.out,←HDD.out,←HND.out,←HNT.out];exact fun h=>hs h.2)])
       have HTq:=Lib.hid (HTW.out _ HQ5.out.bel)
       have HQ:=HQ5
       clear HQ5 HD5 pq5 hs HNX HKL HLAST
       generalize w5=wq at HQ HTq ⊢
       go_wp2_with (with_reducible (show wpList _ _ _ (Oper.mk _ (Op.build 59 _) _ _ _ _::_) _ _);refine pause ?_)
       unfold Paused
       refine wpList_buildK (by rfl) 59 _ (by rfl) [(0,.int .i64 0)] (by kernel_rfl) _ (fldP_num 0) ?_
       go_wp2_with (with_reducible (show wpList _ _ _ (Oper.mk _ (Op.build 59 _) _ _ _ _::_) _ _);refine pause ?_)
       unfold Paused
       refine wpList_buildK (by rfl) 59 _ (by rfl) [(1,.slice At nt ct)] (by kernel_rfl) _ (fldP_bytes At nt ct) ?_
       go_wp2_with (with_reducible (show wpList _ _ _ (Oper.mk _ (Op.buildSlice _ _ _) _ _ _ _::_) _ _);refine pause ?_)
       unfold Paused
       refine wpList_buildSliceK (by rfl) 60 59 2 _ (by rfl) #[.int .i64 0,.slice none 0 0,.int .i64 0,.slice At nt ct] ip (.agg #[.int .i64 0,.slice none 0 0]) Tryz.underlying60 HIP.out.1 HIP.out.2.1 (by rw [HIP.out.2.2.1];decide) (by rw [HIP.out.2.2.1];decide) _ (by kernel_rfl) (by rw [HIP.out.2.2.1];exact fill_two _ _ _ _ _) ?_
       have hbb:Below wq.heap.size wq (wq.alloc (.cells #[.int .i64 0,.slice none 0 0,.int .i64 0,.slice At nt ct] 59)):=(Below.refl _ _).alloc (Nat.le_refl _) _
       have HQb:=Lib.hid (HQ.out.nextP rfl hbb)
       have HXb:=Lib.hid (Blk.new wq 59 #[.int .i64 0,.slice none 0 0,.int .i64 0,.slice At nt ct])
       have HTb:=Lib.hid (HTq.out.below hbb (Nat.le_refl _))
       clear hbb HQ HTq
       generalize wq.alloc (.cells #[.int .i64 0,.slice none 0 0,.int .i64 0,.slice At nt ct] 59)=wb at HQb HXb HTb ⊢
       generalize wq.heap.size=gb at HXb ⊢
       clear wq
       have CW:=rwrite_bt (some ⟨gb,0,none⟩) gb 2 At ct t wb (by rw [←HNT.out];exact HXb.out) rfl (by rw [←HNT.out];exact HTb.out) (by rw [←HNT.out];have:=HSH.out;omega)
       rw [←HNT.out] at CW
       go_wp2_with (go_at_call 17;refine pause ?_)
       unfold Paused
       refine CW.mono ?_
       rintro r wc ⟨vc,rfl,hpc⟩
       have HQc:=Lib.hid (HQb.out.nextP rfl hpc.bel)
       have HRc:=Lib.hid hpc.rd
       clear hpc CW HQb HXb HTb
       clear wb
       go_wp2_with (with_reducible (show wpList _ _ _ (Oper.mk _ (Op.call (Call.mk (Callee.builtin Builtin.append) _ _)) _ _ _ _::_) _ _);refine pause ?_)
       unfold Paused
       refine wpList_padP (by rfl) (.tmp 106) (.tmp 107) (by rfl) rfl (by rfl) HQc.out (by rfl) HRc.out (by have h1:=HPL.out;have h2:=HSH.out;have h3:=HNT.out;have h4:=HKN.out;simp only [List.length_append,List.length_cons,List.length_nil];omega) ?_
       intro vd wd hpd
       have HQd:Hid (Pad w.heap.size w vd (Pk.laidK l (k'+1+1)).2 wd):=Lib.hid (by rw [HLAY.out,HNT.out] at *;exact hpd)
       clear hpd HQc HRc
       clear wc
       simp only [Act.put]
       go_wp2
       go_roundw
       case rel=>exact ⟨k'+1+1,HLT.out,by go_num,by rw [HDEP.out];rfl,HQd⟩
       case measure=>have h5:=HLT.out;simp [intOf];omega
     ·have g0:(0 < k→False)∨dp=5:=by
       rcases Nat.lt_or_ge 0 k with h | h
       ·exact Or.inr (by omega)
       ·exact Or.inl (by omega)
      have HLAY:Hid ((Pk.laidK l (k+1)).2=(Pk.laidK l k).2++(0::([nt / 256,nt % 256]++t))∧(Pk.laidK l (k+1)).1.2=0):=Lib.hid (by
       have hno:¬((Pk.laidK l k).1.2 < 5∧(Dl.mk (Pk.laidK l k).1.1 t).length+40≤t.length):=by
        rintro ⟨h1,h2⟩
        rw [←HDP.out] at h1
        rcases Nat.eq_zero_or_pos k with hk0 | hk0
        ·subst hk0
         have h3:(Dl.mk [] t).length+40≤t.length:=h2
         have:=Pk.mk_none t
         omega
        ·exact hd ⟨hk0,h1⟩
       rw [HNX.out,Pk.lays_no hno,←HNT.out]
       exact ⟨rfl,rfl⟩)
      have HDEP:Hid ((Pk.laidK l (k+1)).1.2=0):=Lib.hid HLAY.out.2
      have HLAY:=Lib.hid HLAY.out.1
      have HTq:=Lib.hid (HTW.out _ HQ.out.bel)
      clear HNX HKL
      generalize wr=wq at HQ HTq pc ⊢
      by_cases hk0:0 < k
      ·have g1:(0:Int) < ((k:Nat):Int):=by omega
       have g2:¬((dp:Nat):Int) < 5:=by omega
       clear hd g0 hk0
       go_wp2_with (with_reducible (show wpList _ _ _ (Oper.mk _ (Op.build 59 _) _ _ _ _::_) _ _);refine pause ?_)
       unfold Paused
       clear pc
       refine wpList_buildK (by rfl) 59 _ (by rfl) [(0,.int .i64 0)] (by kernel_rfl) _ (fldP_num 0) ?_
       go_wp2_with (with_reducible (show wpList _ _ _ (Oper.mk _ (Op.build 59 _) _ _ _ _::_) _ _);refine pause ?_)
       unfold Paused
       refine wpList_buildK (by rfl) 59 _ (by rfl) [(1,.slice At nt ct)] (by kernel_rfl) _ (fldP_bytes At nt ct) ?_
       go_wp2_with (with_reducible (show wpList _ _ _ (Oper.mk _ (Op.buildSlice _ _ _) _ _ _ _::_) _ _);refine pause ?_)
       unfold Paused
       refine wpList_buildSliceK (by rfl) 60 59 2 _ (by rfl) #[.int .i64 0,.slice none 0 0,.int .i64 0,.slice At nt ct] ip (.agg #[.int .i64 0,.slice none 0 0]) Tryz.underlying60 HIP.out.1 HIP.out.2.1 (by rw [HIP.out.2.2.1];decide) (by rw [HIP.out.2.2.1];decide) _ (by kernel_rfl) (by rw [HIP.out.2.2.1];exact fill_two _ _ _ _ _) ?_
       have hbb:Below wq.heap.size wq (wq.alloc (.cells #[.int .i64 0,.slice none 0 0,.int .i64 0,.slice At nt ct] 59)):=(Below.refl _ _).alloc (Nat.le_refl _) _
       have HQb:=Lib.hid (HQ.out.nextP rfl hbb)
       have HXb:=Lib.hid (Blk.new wq 59 #[.int .i64 0,.slice none 0 0,.int .i64 0,.slice At nt ct])
       have HTb:=Lib.hid (HTq.out.below hbb (Nat.le_refl _))
       clear hbb HQ HTq
       generalize wq.alloc (.cells #[.int .i64 0,.slice none 0 0,.int .i64 0,.slice At nt ct] 59)=wb at HQb HXb HTb ⊢
       generalize wq.heap.size=gb at HXb ⊢
       clear wq
       have CW:=rwrite_bt (some ⟨gb,0,none⟩) gb 2 At ct t wb (by rw [←HNT.out];exact HXb.out) rfl (by rw [←HNT.out];exact HTb.out) (by rw [←HNT.out];have:=HSH.out;omega)
       rw [←HNT.out] at CW
       go_wp2_with (go_at_call 17;refine pause ?_)
       unfold Paused
       refine CW.mono ?_
       rintro r wc ⟨vc,rfl,hpc⟩
       have HQc:=Lib.hid (HQb.out.nextP rfl hpc.bel)
       have HRc:=Lib.hid hpc.rd
       clear hpc CW HQb HXb HTb
       clear wb
       go_wp2_with (with_reducible (show wpList _ _ _ (Oper.mk _ (Op.call (Call.mk (Callee.builtin Builtin.append) _ _)) _ _ _ _::_) _ _);refine pause ?_)
       unfold Paused
       refine wpList_padP (by rfl) (.tmp 106) (.tmp 107) (by rfl) rfl (by rfl) HQc.out (by rfl) HRc.out (by have h1:=HPL.out;have h2:=HSH.out;have h3:=HNT.out;have h4:=HKN.out;simp only [List.length_append,List.length_cons,List.length_nil];omega) ?_
       intro vd wd hpd
       have HQd:Hid (Pad w.heap.size w vd (Pk.laidK l (k+1)).2 wd):=Lib.hid (by rw [HLAY.out,HNT.out] at *;exact hpd)
       clear hpd HQc HRc
       clear wc
       simp only [Act.put]
       go_wp2
       go_roundw
       case rel=>exact ⟨k+1,HLT.out,by go_num,by rw [HDEP.out];rfl,HQd⟩
       case measure=>have h5:=HLT.out;simp [intOf];omega
      ·have g1:¬(0:Int) < ((k:Nat):Int):=by omega
       clear hd g0 hk0
       go_wp2_with (with_reducible (show wpList _ _ _ (Oper.mk _ (Op.build 59 _) _ _ _ _::_) _ _);refine pause ?_)
       unfold Paused
       clear pc
       refine wpList_buildK (by rfl) 59 _ (by rfl) [(0,.int .i64 0)] (by kernel_rfl) _ (fldP_num 0) ?_
       go_wp2_with (with_reducible (show wpList _ _ _ (Oper.mk _ (Op.build 59 _) _ _ _ _::_) _ _);refine pause ?_)
       unfold Paused
       refine wpList_buildK (by rfl) 59 _ (by rfl) [(1,.slice At nt ct)] (by kernel_rfl) _ (fldP_bytes At nt ct) ?_
       go_wp2_with (with_reducible (show wpList _ _ _ (Oper.mk _ (Op.buildSlice _ _ _) _ _ _ _::_) _ _);refine pause ?_)
       unfold Paused
       refine wpList_buildSliceK (by rfl) 60 59 2 _ (by rfl) #[.int .i64 0,.slice none 0 0,.int .i64 0,.slice At nt ct] ip (.agg #[.int .i64 0,.slice none 0 0]) Tryz.underlying60 HIP.out.1 HIP.out.2.1 (by rw [HIP.out.2.2.1];decide) (by rw [HIP.out.2.2.1];decide) _ (by kernel_rfl) (by rw [HIP.out.2.2.1];exact fill_two _ _ _ _ _) ?_
       have hbb:Below wq.heap.size wq (wq.alloc (.cells #[.int .i64 0,.slice none 0 0,.int .i64 0,.slice At nt ct] 59)):=(Below.refl _ _).alloc (Nat.le_refl _) _
       have HQb:=Lib.hid (HQ.out.nextP rfl hbb)
       have HXb:=Lib.hid (Blk.new wq 59 #[.int .i64 0,.slice none 0 0,.int .i64 0,.slice At nt ct])
       have HTb:=Lib.hid (HTq.out.below hbb (Nat.le_refl _))
       clear hbb HQ HTq
       generalize wq.alloc (.cells #[.int .i64 0,.slice none 0 0,.int .i64 0,.slice At nt ct] 59)=wb at HQb HXb HTb ⊢
       generalize wq.heap.size=gb at HXb ⊢
       clear wq
       have CW:=rwrite_bt (some ⟨gb,0,none⟩) gb 2 At ct t wb (by rw [←HNT.out];exact HXb.out) rfl (by rw [←HNT.out];exact HTb.out) (by rw [←HNT.out];have:=HSH.out;omega)
       rw [←HNT.out] at CW
       go_wp2_with (go_at_call 17;refine pause ?_)
       unfold Paused
       refine CW.mono ?_
       rintro r wc ⟨vc,rfl,hpc⟩
       have HQc:=Lib.hid (HQb.out.nextP rfl hpc.bel)
       have HRc:=Lib.hid hpc.rd
       clear hpc CW HQb HXb HTb
       clear wb
       go_wp2_with (with_reducible (show wpList _ _ _ (Oper.mk _ (Op.call (Call.mk (Callee.builtin Builtin.append) _ _)) _ _ _ _::_) _ _);refine pause ?_)
       unfold Paused
       refine wpList_padP (by rfl) (.tmp 106) (.tmp 107) (by rfl) rfl (by rfl) HQc.out (by rfl) HRc.out (by have h1:=HPL.out;have h2:=HSH.out;have h3:=HNT.out;have h4:=HKN.out;simp only [List.length_append,List.length_cons,List.length_nil];omega) ?_
       intro vd wd hpd
       have HQd:Hid (Pad w.heap.size w vd (Pk.laidK l (k+1)).2 wd):=Lib.hid (by rw [HLAY.out,HNT.out] at *;exact hpd)
       clear hpd HQc HRc
       clear wc
       simp only [Act.put]
       go_wp2
       go_roundw
       case rel=>exact ⟨k+1,HLT.out,by go_num,by rw [HDEP.out];rfl,HQd⟩
       case measure=>have h5:=HLT.out;simp [intOf];omega
    ·obtain rfl:k=n:=by omega
     have ik2:¬((k:Nat):Int) < k:=by omega
     have hq:=HQ.out
     have ha:=HALL.out
     rw [←HLL.out] at ha
     obtain ⟨pk,hpk⟩:∃ pk,pk=(Pk.laidK l k).2:=⟨_,rfl⟩
     rw [←hpk] at hq ha
     obtain ⟨Av,cv,hvv⟩:=own_slice hq.own
     subst hvv
     have HQF:=Lib.hid hq
     obtain ⟨np,hnp⟩:∃ n,n=pk.length:=⟨_,rfl⟩
     rw [←hnp] at ha ⊢
     have HNP:=Lib.hid hnp
     have HA:=Lib.hid ha
     clear hk hlt hq ha hpk HQ hnp
     by_cases hbig:2000 < np
     ·have s1:(2000:Int) < ((np:Nat):Int):=by omega
      have HE:Hid (Pk.encode l=.bad 13):=Lib.hid (by rw [HA.out,if_pos hbig])
      clear hbig
      go_wp2
      go_ret2
      exact renc_bad HQF.out.bel HE.out rfl
     ·have s1:¬(2000:Int) < ((np:Nat):Int):=by omega
      have HE:Hid (Pk.encode l=.ok pk):=Lib.hid (by rw [HA.out,if_neg hbig])
      clear hbig
      go_wp2
      go_ret2
      exact ⟨HQF.out.bel,fun c hc=>(by rw [HE.out] at hc;cases hc),fun b hb=>(by rw [HE.out] at hb;injection hb with hb;subst hb;exact ⟨.slice Av pk.length cv,by rw [←HNP.out];rfl,HQF.out⟩)⟩
end Go.Proofs.YtndgadjeeinedaaGreatDoor
