/- The document's Make, walked. -/
import Derived.Maps.RangeWalk
import Derived.Test.YtndgadjeeinedaaGreatDoorMPk20s
namespace Go.Proofs.YtndgadjeeinedaaGreatDoor
open Go Go.RowKit Go.Shelf
theorem cell_byte {w:World} {y:Nat}:(w.alloc (.cells (u8s [y]) 5)).cell? ⟨w.heap.size,0,none⟩=some (.int .u8 (y:Int)):=by
 rw [cell_of_row _ _ _ _ _ _ (heap_alloc_new w _)];rfl
def KS (base text:List Nat) (k n f:Nat):Prop:=
 (n=0∧f=0∧∀ j,Dl.cmn (base.drop j) text 127≤k)∨(4≤n∧n≤text.length∧n≤127∧f≤base.length∧Dl.lg base text=(n,f))
set_option maxRecDepth 100000 in
set_option maxHeartbeats 4000000 in
theorem rmake_any (A A2:Option Addr) (nb cb nt ct:Nat) (base target:List Nat) (w:World) (hB:Rd w (.slice A nb cb) base) (hT:Rd w (.slice A2 nt ct) target) (bb:Sha.Byte base) (bt:Sha.Byte target) (lb:nb≤300) (lt:nt≤300) :
  Calls Tryz.prog 16 #[.slice A nb cb,.slice A2 nt ct] w fun e w'=>∃ v,e=.returned v∧Pad w.heap.size w v (Dl.mk base target) w':=by
 have en:nb=base.length:=by obtain ⟨_,_,hv,_⟩:=hB;injection hv
 have et:nt=target.length:=by obtain ⟨_,_,hv,_⟩:=hT;injection hv
 have HB:=Lib.hid hB
 have HT:=Lib.hid hT
 have HBB:=Lib.hid bb
 have HBT:=Lib.hid bt
 have HEN:=Lib.hid en
 have HET:=Lib.hid et
 obtain ⟨q1,hq1⟩:∃ q,q=nb / 256:=⟨_,rfl⟩
 obtain ⟨r1,hr1⟩:∃ q,q=nb % 256:=⟨_,rfl⟩
 obtain ⟨q2,hq2⟩:∃ q,q=nt / 256:=⟨_,rfl⟩
 obtain ⟨r2,hr2⟩:∃ q,q=nt % 256:=⟨_,rfl⟩
 have f1:(nb:Int) / 256=(q1:Int):=by omega
 have f2:(nb:Int) % 256=(r1:Int):=by omega
 have f3:(nt:Int) / 256=(q2:Int):=by omega
 have f4:(nt:Int) % 256=(r2:Int):=by omega
 have f1':(nb:Int).tdiv 256=(q1:Int):=by rw [Int.tdiv_eq_ediv_of_nonneg (by omega)];exact f1
 have f2':(nb:Int).tmod 256=(r1:Int):=by rw [Int.tmod_eq_emod_of_nonneg (by omega)];exact f2
 have f3':(nt:Int).tdiv 256=(q2:Int):=by rw [Int.tdiv_eq_ediv_of_nonneg (by omega)];exact f3
 have f4':(nt:Int).tmod 256=(r2:Int):=by rw [Int.tmod_eq_emod_of_nonneg (by omega)];exact f4
 have b1:q1 < 256:=by omega
 have b2:r1 < 256:=by omega
 have b3:q2 < 256:=by omega
 have b4:r2 < 256:=by omega
 have HFR:Hid (Dl.front base target=[q1,r1,q2,r2]):=Lib.hid (by unfold Dl.front;rw [←en,←et,hq1,hr1,hq2,hr2])
 clear hB hT bb bt en et hq1 hr1 hq2 hr2
 go_enter Tryz.func16,Tryz.ntmps16
 go_wp2
 have HG0:Hid (TwoR w (.slice (some ⟨w.heap.size,0,none⟩) 4 4) (Dl.front base target) (.slice (some ⟨w.heap.size+1,0,none⟩) 0 0) [] ((w.alloc (.cells #[.int .u8 (q1:Int),.int .u8 (r1:Int),.int .u8 (q2:Int),.int .u8 (r2:Int)] 5)).alloc (.cells #[] 5))∧Dl.MR base target (Dl.front base target) [] 0):=Lib.hid (by
  refine ⟨⟨⟨?_,?_⟩,?_,?_⟩,Dl.MR.start _ _⟩
  ·rw [HFR.out]
   exact ownsRow_alloc ⟨rfl,Or.inr ⟨w.heap.size,4,_,rfl,Nat.le_refl _,heap_alloc_new w _,Nat.le_refl _,by decide,rfl,rfl⟩⟩ _
  ·refine ⟨w.heap.size+1,0,0,#[],rfl,Nat.le_succ _,?_,Nat.le_refl _,by decide,Nat.le_refl _,rfl⟩
   have h:=heap_alloc_new (w.alloc (.cells #[.int .u8 (q1:Int),.int .u8 (r1:Int),.int .u8 (q2:Int),.int .u8 (r2:Int)] 5)) (.cells #[] 5)
   rwa [World.size_alloc] at h
  ·intro e
   have:w.heap.size=w.heap.size+1:=by injection e
   omega
  ·exact ((Below.refl _ w).alloc (Nat.le_refl _) _).alloc (by simp) _)
 clear f1 f2 f3 f4 f1' f2' f3' f4' b1 b2 b3 b4 HFR
 go_loopw [5,6,7] (fun v5 v6 v7 wr=>∃ (p:Nat) (ys fs:List Nat),p≤nt∧v7=.int .i64 p∧Hid (TwoR w v5 ys v6 fs wr∧Dl.MR base target ys fs p)) (fun _ _ v7 _=>nt+1 - (intOf v7).toNat)
 case atStart=>exact ⟨0,_,[],Nat.zero_le _,rfl,HG0⟩
 case round=>
  obtain ⟨p,ys,fs,hpn,rfl,HG⟩:=hrel
  obtain ⟨wo,rfl⟩:∃ wo,wo=wr:=⟨_,rfl⟩
  obtain ⟨A5,c5,rfl⟩:=own_formD HG.out.1.1.1
  obtain ⟨g6,k6,c6,cur6,e6,_⟩:=HG.out.1.1.2
  subst e6
  obtain ⟨l5,hl5⟩:∃ x,x=ys.length:=⟨_,rfl⟩
  obtain ⟨l6,hl6⟩:∃ x,x=fs.length:=⟨_,rfl⟩
  have hy5:l5≤4+2 * 300:=by have:=HG.out.2.len;rw [hl5];rw [←HET.out] at this;omega
  have hf6:l6≤p:=by rw [hl6];exact HG.out.2.1
  rw [←hl5,←hl6] at HG ⊢
  have HL5:=Lib.hid hl5
  have HL6:=Lib.hid hl6
  clear hl5 hl6 HG0
  have HBEL:=Lib.hid HG.out.1.2.2
  have htl:(target.drop p).length=nt - p:=by rw [List.length_drop,←HET.out]
  have HTL:=Lib.hid htl
  obtain ⟨text,htext⟩:∃ t,t=target.drop p:=⟨_,rfl⟩
  rw [←htext] at HTL
  have HTX:=Lib.hid htext
  have HK0:Hid (KS base text 127 0 0):=Lib.hid (.inl ⟨rfl,rfl,fun j=>(Dl.cmn_le _ _ _).1⟩)
  have gpn:(p:Int)≤(nt:Int):=by omega
  clear htl htext
  go_wp2
  go_loopw [8,9,10] (fun vn vf vk wr=>∃ k n f m:Nat,3≤k∧k≤127∧n≤127∧f≤300∧vn=.int .i64 n∧vf=.int .i64 f∧vk=.int .i64 k∧wr=wo.drewN m∧Hid (KS base text k n f)) (fun _ _ vk _=>(intOf vk).toNat)
  case atStart=>exact ⟨127,0,0,0,by omega,by omega,by omega,by omega,rfl,rfl,rfl,rfl,HK0⟩
  case round=>
   obtain ⟨k,n,f,m,hk3,hk127,hn127,hf300,rfl,rfl,rfl,rfl,HK⟩:=hrel
   by_cases hn0:n=0
   ·subst hn0
    have gn0:(((0:Nat):Int) == 0)=true:=rfl
    by_cases hk4:4≤k
    ·have gk4:(4:Int)≤(k:Int):=by omega
     obtain ⟨rfl,hall⟩:f=0∧∀ j,Dl.cmn (base.drop j) text 127≤k:=by
      rcases HK.out with ⟨_,h1,h⟩ | ⟨h,_⟩
      ·exact ⟨h1,h⟩
      ·omega
     have HALL:=Lib.hid hall
     clear hall
     by_cases hpk:p+k≤nt
     ·have gpk:(p:Int)+(k:Int)≤(nt:Int):=by omega
      obtain ⟨e0,hc,b,o,rfl,hbw,hx⟩:=HT.out.blk (by rw [←HET.out];omega)
      clear e0 hx hbw
      have S1:∀ w',(Instr.slice 25 (.slice (some ⟨b,o,none⟩) nt ct) (some (.int .i64 (p:Int))) (some (.int .i64 ((p:Int)+(k:Int)))) none).run Tryz.prog w'=.ok (.slice (some ⟨b,o+p,none⟩) k (ct - p)) w':=fun w'=>by
       have h:=sl_lohi b o nt ct p (p+k) w' (by omega) (by omega) (by omega) (lo:=(p:Int)) (hi:=(p:Int)+(k:Int)) rfl (by omega)
       rwa [show p+k - p=k by omega] at h
      have hRS:Rd (wo.drewN m) (.slice (some ⟨b,o+p,none⟩) k (ct - p)) (text.take k):=by
       have h:=(HT.out.below (below_drewN HBEL.out m) (Nat.le_refl _)).cut (k:=p) (by rw [←HET.out];omega)
       rw [if_neg (by omega),Option.map_some,Addr.add_mid,←HTX.out] at h
       exact h.cutHi (by rw [HTL.out];omega)
      have FD:=rfind_any A _ nb cb k _ base (text.take k) (wo.drewN m) (HB.out.below (below_drewN HBEL.out m) (Nat.le_refl _)) hRS HBB.out (Dl.byte_of_mem fun x hx=>Dl.mem_byte HBT.out x (by rw [HTX.out] at hx;exact List.mem_of_mem_drop (List.mem_of_mem_take hx))) (by omega) (by omega) hk127
      clear hRS hc
      go_wp2_with (go_at_call 31;refine pause ?_)
      unfold Paused
      refine FD.mono ?_
      rintro e w' ⟨⟨m',rfl⟩,hpost⟩
      rcases hpost with ⟨i,rfl,_,hocc,hmin⟩ | ⟨rfl,hno⟩
      ·have hlg:=Dl.lg_found hk4 (by rw [HTL.out];omega) hk127 hocc hmin HALL.out
       have hi3:i≤300:=by have:=hocc.1;rw [←HEN.out] at this;omega
       have HKN:Hid (KS base text (k - 1) k i):=Lib.hid (.inr ⟨hk4,by rw [HTL.out];omega,hk127,by rw [←HEN.out];have:=hocc.1;rw [←HEN.out] at this;omega,hlg⟩)
       have gi:(0:Int)≤(i:Int):=by omega
       clear hlg hocc hmin FD S1
       go_wp2
       go_roundw
       case rel=>exact ⟨k - 1,k,i,m+m',by omega,by omega,hk127,hi3,by go_num,by go_num,by go_num,by simp,HKN⟩
       case measure=>simp [intOf];omega
      ·have HKN:Hid (KS base text (k - 1) 0 0):=Lib.hid (.inl ⟨rfl,rfl,fun j=>by
        have h1:=HALL.out j
        have h2:¬k≤Dl.cmn (base.drop j) text 127:=fun h=>hno j ((Dl.occ_cmn (by rw [HTL.out];omega) hk127 (by omega)).2 h)
        omega⟩)
       clear hno FD S1
       go_wp2
       go_roundw
       case rel=>exact ⟨k - 1,0,0,m+m',by omega,by omega,by omega,by omega,rfl,rfl,by go_num,by simp,HKN⟩
       case measure=>simp [intOf];omega
     ·have gpk:¬(p:Int)+(k:Int)≤(nt:Int):=by omega
      have HKN:Hid (KS base text (k - 1) 0 0):=Lib.hid (.inl ⟨rfl,rfl,fun j=>by
       have h1:=HALL.out j
       have h2:=Dl.cmn_le (base.drop j) text 127
       rw [HTL.out] at h2
       omega⟩)
      go_wp2
      go_roundw
      case rel=>exact ⟨k - 1,0,0,m,by omega,by omega,by omega,by omega,rfl,rfl,by go_num,rfl,HKN⟩
      case measure=>simp [intOf];omega
    ·have gk4:¬(4:Int)≤(k:Int):=by omega
     obtain ⟨rfl,hall⟩:f=0∧∀ j,Dl.cmn (base.drop j) text 127≤k:=by
      rcases HK.out with ⟨_,h1,h⟩ | ⟨h,_⟩
      ·exact ⟨h1,h⟩
      ·omega
     have HLG:Hid (Dl.lg base text=(0,0)):=Lib.hid (Dl.lg_none fun j=>by have:=hall j;omega)
     have HTR:Hid (TwoR w (.slice A5 l5 c5) ys (.slice (some ⟨g6,k6,none⟩) l6 c6) fs (wo.drewN m)):=Lib.hid (HG.out.1.drewN m)
     clear hall HK
     generalize wo.drewN m=wi at HTR ⊢
     by_cases hpe:p=nt
     ·have gpe:(((p:Nat):Int) == (nt:Int))=true:=by simp;omega
      obtain ⟨Y,hY⟩:∃ Y,Y=ys++Dl.fr fs:=⟨_,rfl⟩
      obtain ⟨ly,hly⟩:∃ x,x=Y.length:=⟨_,rfl⟩
      have hyl:ly≤2000:=by
       have h1:=Dl.fr_len fs
       rw [hly,hY,List.length_append,←HL5.out]
       rw [←HL6.out] at h1
       omega
      have HYL:Hid (Y.length=ly∧ly≤2000):=Lib.hid ⟨hly.symm,hyl⟩
      have HY:=Lib.hid hY
      have HF0:Hid (TwoR w (.slice A5 l5 c5) ys (.slice (some ⟨g6,k6,none⟩) l6 c6) fs wi∧ys++Dl.fr fs=Y):=Lib.hid ⟨HTR.out,HY.out.symm⟩
      clear hY hly hyl
      go_wp2
      go_loopw [5,6] (fun v5 v6 wr=>∃ ys' fs':List Nat,fs'.length≤300∧ys'.length≤2000∧Hid (TwoR w v5 ys' v6 fs' wr∧ys'++Dl.fr fs'=Y)) (fun _ v6 _=>match v6 with | .slice _ n _=>n | _=>0)
      case atStart=>exact ⟨ys,fs,by rw [←HL6.out];omega,by rw [←HL5.out];omega,HF0⟩
      case round=>
       obtain ⟨ys',fs',hfl,hyl2,HG2⟩:=hrel
       obtain ⟨A7,c7,rfl⟩:=own_formD HG2.out.1.1.1
       obtain ⟨g8,k8,c8,cur8,e8,_⟩:=HG2.out.1.1.2
       subst e8
       obtain ⟨l7,hl7⟩:∃ x,x=ys'.length:=⟨_,rfl⟩
       obtain ⟨l8,hl8⟩:∃ x,x=fs'.length:=⟨_,rfl⟩
       have hc8:l8≤c8:=by
        have hr:=HG2.out.1.1.2.rd
        obtain ⟨_,_,hv,h,_⟩:=hr
        injection hv with _ _ e3
        rw [hl8,e3];exact h
       rw [←hl8] at hfl
       rw [←hl7] at hyl2
       rw [←hl7,←hl8] at HG2 ⊢
       have HL7:=Lib.hid hl7
       have HL8:=Lib.hid hl8
       clear hl7 hl8 HF0
       by_cases h8:0 < l8
       ·have g8':(0:Int) < (l8:Int):=by omega
        have hm:Tryz.prog.follows .mixedOrders=true:=by kernel_rfl
        by_cases h127:127 < l8
        ·have g127:(127:Int) < (l8:Int):=by omega
         have HTA:Hid (TwoR w (.slice A7 l7 c7) ys' (.slice (some ⟨g8,k8,none⟩) l8 c8) fs' (wr.drew.alloc (.cells (u8s [127]) 5))):=Lib.hid ((HG2.out.1.drewN 1).alloc _)
         have HOA:=Lib.hid HTA.out.1.1
         have HSA:=Lib.hid HTA.out.2.2.size
         have HRM:=Lib.hid (rd_of_lit wr.drew [127] 5 (by simp))
         have HZ1:Hid (ys'.length+[127].length≤70368744177664):=Lib.hid (by rw [←HL7.out];simp;omega)
         have S2:∀ w',(Instr.slice 25 (.slice (some ⟨g8,k8,none⟩) l8 c8) none (some (.int .i64 (127:Int))) none).run Tryz.prog w'=.ok (.slice (some ⟨g8,k8,none⟩) 127 c8) w':=fun w'=>sl_hi g8 k8 l8 c8 127 w' (by omega) rfl
         obtain ⟨A9,hA9⟩:∃ x,x=(if c8=127 then some (⟨g8,k8,none⟩:Addr) else (some (⟨g8,k8,none⟩:Addr)).map (·.add 127)):=⟨_,rfl⟩
         have S3:∀ w',(Instr.slice 25 (.slice (some ⟨g8,k8,none⟩) l8 c8) (some (.int .i64 (127:Int))) none none).run Tryz.prog w'=.ok (.slice A9 (l8 - 127) (c8 - 127)) w':=fun w'=>by rw [hA9];exact sl_exact (some ⟨g8,k8,none⟩) l8 c8 127 (by omega) w'
         have HA9:=Lib.hid hA9
         clear hA9
         go_wp2
         refine wp_region_held (S:=fun _=>True) hm ?_
         change wpAnyH _ _ _ _ _ _ _ _ wr.drew
         refine wpAnyH_take (i:=0) (v:=?_) rfl (by kernel_rfl) (by kernel_rfl) (by kernel_rfl) (fun _ _ _ h=>h) (Or.inl ⟨by rfl,?_⟩) trivial ?_
         rotate_left
         ·intro w' hw;go_simp;with_reducible rfl
         try go_frame
         refine wpAnyH_take (i:=1) (v:=?_) rfl (by kernel_rfl) (by kernel_rfl) (by kernel_rfl) (fun _ _ _ h=>h) (Or.inl ⟨by rfl,?_⟩) trivial ?_
         rotate_left
         ·intro w' hw;go_simp;with_reducible rfl
         try go_frame
         refine wpAnyH_take (i:=2) (v:=?_) rfl (by kernel_rfl) (by kernel_rfl) (by kernel_rfl) (fun _ _ _ h=>h) (Or.inl ⟨by rfl,?_⟩) trivial ?_
         rotate_left
         ·intro w' hw;go_simp;with_reducible rfl
         try go_frame
         refine wpAnyH_take (i:=5) (v:=?_) rfl (by kernel_rfl) (by kernel_rfl) (by kernel_rfl) (fun _ _ _ h=>h) (Or.inl ⟨by rfl,?_⟩) trivial ?_
         rotate_left
         ·intro w' hw;go_simp;with_reducible rfl
         try go_frame
         refine wpAnyH_take (i:=6) (v:=?_) rfl (by kernel_rfl) (by kernel_rfl) (by kernel_rfl) (fun _ _ _ h=>h) (Or.inl ⟨by rfl,?_⟩) trivial ?_
         rotate_left
         ·intro w' hw;go_simp;with_reducible rfl
         try go_frame
         refine wpAnyH_take (i:=7) (v:=?_) rfl (by kernel_rfl) (by kernel_rfl) (by kernel_rfl) (fun _ _ _ h=>h) (Or.inl ⟨by rfl,?_⟩) trivial ?_
         rotate_left
         ·intro w' hw;go_simp;with_reducible rfl
         try go_frame
         refine all_one (i:=3) (by kernel_rfl) rfl (by rfl) (fun K hK=>?_)
         go_simp
         refine hK _ _ trivial ?_
         try go_frame
         refine all_one (i:=4) (by kernel_rfl) rfl (by rfl) (fun K hK=>?_)
         refine Dl.appendL (.tmp 76) (.tmp 79) (by rfl) w.heap.size _ ys' (by rfl) HOA.out HSA.out _ (by rfl) [127] HRM.out (by simp) HZ1.out ?_
         intro ga ca wa hoa hga hba
         obtain ⟨la9,hla9⟩:∃ x,x=ys'.length+[127].length:=⟨_,rfl⟩
         rw [←hla9] at hoa ⊢
         clear hla9
         have T1:=TwoR.out HTA.out hoa hga hba
         have HT1:=Lib.hid T1
         have hra:=T1.1.2.rd.cutHi (k:=127) (by rw [←HL8.out];omega)
         have HOB:=Lib.hid T1.1.1
         have HSB:=Lib.hid T1.2.2.size
         have HRB:=Lib.hid hra
         have hlk:(fs'.take 127).length=127:=by rw [List.length_take,←HL8.out];omega
         have HLK:=Lib.hid hlk
         clear hoa hga hba T1 hra hlk
         refine hK _ _ trivial ?_
         try go_frame
         refine all_one (i:=8) (by kernel_rfl) rfl (by rfl) (fun K hK=>?_)
         refine Dl.appendL (.tmp 80) (.tmp 83) (by rfl) w.heap.size _ (ys'++[127]) (by rfl) HOB.out HSB.out _ (by rfl) (fs'.take 127) HRB.out (by rw [HLK.out];omega) (by rw [HLK.out,List.length_append,←HL7.out];simp;omega) ?_
         intro gb cb2 wb hob hgb hbb
         obtain ⟨lb9,hlb9⟩:∃ x,x=(ys'++[127]).length+(fs'.take 127).length:=⟨_,rfl⟩
         rw [←hlb9] at hob ⊢
         clear hlb9
         have T2:=TwoR.out HT1.out hob hgb hbb
         have HT2:=Lib.hid T2
         clear hob hgb hbb T2
         refine hK _ _ trivial ?_
         try go_frame
         refine all_one (i:=9) (by kernel_rfl) rfl (by rfl) (fun K hK=>?_)
         go_simp
         refine hK _ _ trivial ?_
         try go_frame
         refine wpAnyH_done (by kernel_rfl) ?_ _
         have hcut:=FrO.cut HT2.out.1.2 (k:=127) (by rw [←HL8.out];omega)
         rw [←HA9.out] at hcut
         have HC:Hid (TwoR w (.slice (some ⟨gb,0,none⟩) lb9 cb2) (ys'++[127]++fs'.take 127) (.slice A9 (l8 - 127) (c8 - 127)) (fs'.drop 127) wb∧(ys'++[127]++fs'.take 127)++Dl.fr (fs'.drop 127)=Y):=Lib.hid ⟨⟨⟨HT2.out.1.1,hcut.1⟩,by rw [hcut.2];exact HT2.out.2.1,HT2.out.2.2⟩,by
          rw [←HG2.out.2,Dl.fr_step (xs:=fs') (by rw [←HL8.out];omega),show min 127 fs'.length=127 by rw [←HL8.out];omega]
          simp⟩
         have HND:Hid ((fs'.drop 127).length≤300∧(ys'++[127]++fs'.take 127).length≤2000∧(fs'.drop 127).length=l8 - 127):=Lib.hid ⟨by rw [List.length_drop,←HL8.out];omega,by
          have h1:=congrArg List.length HC.out.2
          rw [List.length_append,HYL.out.1] at h1
          have:=HYL.out.2
          omega,by rw [List.length_drop,←HL8.out]⟩
         clear hcut
         go_wp2
         go_roundw
         case rel=>exact ⟨_,_,HND.out.1,HND.out.2.1,HC⟩
         case measure=>simp;omega
        ·have g127:¬(127:Int) < (l8:Int):=by omega
         have hw8:IntKind.u8.wrap (l8:Int)=(l8:Int):=Dl.u8_wrap l8 (by omega)
         have HTA:Hid (TwoR w (.slice A7 l7 c7) ys' (.slice (some ⟨g8,k8,none⟩) l8 c8) fs' (wr.drew.alloc (.cells (u8s [l8]) 5))):=Lib.hid ((HG2.out.1.drewN 1).alloc _)
         have HOA:=Lib.hid HTA.out.1.1
         have HSA:=Lib.hid HTA.out.2.2.size
         have HRM:=Lib.hid (rd_of_lit wr.drew [l8] 5 (by simp))
         have HZ1:Hid (ys'.length+[l8].length≤70368744177664):=Lib.hid (by rw [←HL7.out];simp;omega)
         have S2:∀ w',(Instr.slice 25 (.slice (some ⟨g8,k8,none⟩) l8 c8) none (some (.int .i64 (l8:Int))) none).run Tryz.prog w'=.ok (.slice (some ⟨g8,k8,none⟩) l8 c8) w':=fun w'=>sl_hi g8 k8 l8 c8 l8 w' (by omega) rfl
         obtain ⟨A9,hA9⟩:∃ x,x=(if c8=l8 then some (⟨g8,k8,none⟩:Addr) else (some (⟨g8,k8,none⟩:Addr)).map (·.add l8)):=⟨_,rfl⟩
         have S3:∀ w',(Instr.slice 25 (.slice (some ⟨g8,k8,none⟩) l8 c8) (some (.int .i64 (l8:Int))) none none).run Tryz.prog w'=.ok (.slice A9 (l8 - l8) (c8 - l8)) w':=fun w'=>by rw [hA9];exact sl_exact (some ⟨g8,k8,none⟩) l8 c8 l8 (by omega) w'
         have HA9:=Lib.hid hA9
         clear hA9
         go_wp2
         refine wp_region_held (S:=fun _=>True) hm ?_
         change wpAnyH _ _ _ _ _ _ _ _ wr.drew
         refine wpAnyH_take (i:=0) (v:=?_) rfl (by kernel_rfl) (by kernel_rfl) (by kernel_rfl) (fun _ _ _ h=>h) (Or.inl ⟨by rfl,?_⟩) trivial ?_
         rotate_left
         ·intro w' hw;go_simp;with_reducible rfl
         try go_frame
         refine wpAnyH_take (i:=1) (v:=?_) rfl (by kernel_rfl) (by kernel_rfl) (by kernel_rfl) (fun _ _ _ h=>h) (Or.inl ⟨by rfl,?_⟩) trivial ?_
         rotate_left
         ·intro w' hw;go_simp;with_reducible rfl
         try go_frame
         refine wpAnyH_take (i:=2) (v:=?_) rfl (by kernel_rfl) (by kernel_rfl) (by kernel_rfl) (fun _ _ _ h=>h) (Or.inl ⟨by rfl,?_⟩) trivial ?_
         rotate_left
         ·intro w' hw;go_simp;with_reducible rfl
         try go_frame
         refine wpAnyH_take (i:=5) (v:=?_) rfl (by kernel_rfl) (by kernel_rfl) (by kernel_rfl) (fun _ _ _ h=>h) (Or.inl ⟨by rfl,?_⟩) trivial ?_
         rotate_left
         ·intro w' hw;go_simp;with_reducible rfl
         try go_frame
         refine wpAnyH_take (i:=6) (v:=?_) rfl (by kernel_rfl) (by kernel_rfl) (by kernel_rfl) (fun _ _ _ h=>h) (Or.inl ⟨by rfl,?_⟩) trivial ?_
         rotate_left
         ·intro w' hw;go_simp;with_reducible rfl
         try go_frame
         refine wpAnyH_take (i:=7) (v:=?_) rfl (by kernel_rfl) (by kernel_rfl) (by kernel_rfl) (fun _ _ _ h=>h) (Or.inl ⟨by rfl,?_⟩) trivial ?_
         rotate_left
         ·intro w' hw;go_simp;with_reducible rfl
         try go_frame
         refine all_one (i:=3) (by kernel_rfl) rfl (by rfl) (fun K hK=>?_)
         go_simp
         refine hK _ _ trivial ?_
         try go_frame
         refine all_one (i:=4) (by kernel_rfl) rfl (by rfl) (fun K hK=>?_)
         refine Dl.appendL (.tmp 76) (.tmp 79) (by rfl) w.heap.size _ ys' (by rfl) HOA.out HSA.out _ (by rfl) [l8] HRM.out (by simp) HZ1.out ?_
         intro ga ca wa hoa hga hba
         obtain ⟨la9,hla9⟩:∃ x,x=ys'.length+[l8].length:=⟨_,rfl⟩
         rw [←hla9] at hoa ⊢
         clear hla9
         have T1:=TwoR.out HTA.out hoa hga hba
         have HT1:=Lib.hid T1
         have hra:=T1.1.2.rd.cutHi (k:=l8) (by rw [←HL8.out];omega)
         have HOB:=Lib.hid T1.1.1
         have HSB:=Lib.hid T1.2.2.size
         have HRB:=Lib.hid hra
         have hlk:(fs'.take l8).length=l8:=by rw [List.length_take,←HL8.out];omega
         have HLK:=Lib.hid hlk
         clear hoa hga hba T1 hra hlk
         refine hK _ _ trivial ?_
         try go_frame
         refine all_one (i:=8) (by kernel_rfl) rfl (by rfl) (fun K hK=>?_)
         refine Dl.appendL (.tmp 80) (.tmp 83) (by rfl) w.heap.size _ (ys'++[l8]) (by rfl) HOB.out HSB.out _ (by rfl) (fs'.take l8) HRB.out (by rw [HLK.out];omega) (by rw [HLK.out,List.length_append,←HL7.out];simp;omega) ?_
         intro gb cb2 wb hob hgb hbb
         obtain ⟨lb9,hlb9⟩:∃ x,x=(ys'++[l8]).length+(fs'.take l8).length:=⟨_,rfl⟩
         rw [←hlb9] at hob ⊢
         clear hlb9
         have T2:=TwoR.out HT1.out hob hgb hbb
         have HT2:=Lib.hid T2
         clear hob hgb hbb T2
         refine hK _ _ trivial ?_
         try go_frame
         refine all_one (i:=9) (by kernel_rfl) rfl (by rfl) (fun K hK=>?_)
         go_simp
         refine hK _ _ trivial ?_
         try go_frame
         refine wpAnyH_done (by kernel_rfl) ?_ _
         have hcut:=FrO.cut HT2.out.1.2 (k:=l8) (by rw [←HL8.out];omega)
         rw [←HA9.out] at hcut
         have HC:Hid (TwoR w (.slice (some ⟨gb,0,none⟩) lb9 cb2) (ys'++[l8]++fs'.take l8) (.slice A9 (l8 - l8) (c8 - l8)) (fs'.drop l8) wb∧(ys'++[l8]++fs'.take l8)++Dl.fr (fs'.drop l8)=Y):=Lib.hid ⟨⟨⟨HT2.out.1.1,hcut.1⟩,by rw [hcut.2];exact HT2.out.2.1,HT2.out.2.2⟩,by
          rw [←HG2.out.2,Dl.fr_step (xs:=fs') (by rw [←HL8.out];omega),show min 127 fs'.length=l8 by rw [←HL8.out];omega]
          simp⟩
         have HND:Hid ((fs'.drop l8).length≤300∧(ys'++[l8]++fs'.take l8).length≤2000∧(fs'.drop l8).length=l8 - l8):=Lib.hid ⟨by rw [List.length_drop,←HL8.out];omega,by
          have h1:=congrArg List.length HC.out.2
          rw [List.length_append,HYL.out.1] at h1
          have:=HYL.out.2
          omega,by rw [List.length_drop,←HL8.out]⟩
         clear hcut
         rw [Nat.sub_self] at HC
         go_wp2
         go_roundw
         case rel=>exact ⟨_,_,HND.out.1,HND.out.2.1,HC⟩
         case measure=>simp;omega
       ·obtain rfl:l8=0:=by omega
        have hfs:fs'=[]:=List.eq_nil_of_length_eq_zero HL8.out.symm
        subst hfs
        have hyy:ys'=Y:=by have h:=HG2.out.2;rwa [show Dl.fr []=[] from rfl,List.append_nil] at h
        subst hyy
        have HTZ:Hid (TwoR w (.slice A7 l7 c7) ys' (.slice (some ⟨g8,k8,none⟩) 0 c8) [] wr):=Lib.hid HG2.out.1
        have HMK:Hid (Dl.mk base target=ys'):=Lib.hid (by rw [HG.out.2.done (by rw [←HET.out];omega)];exact HY.out.symm)
        have HP:=HTZ.out
        go_wp2
        go_ret
        refine ⟨.slice A7 l7 c7,rfl,?_⟩
        rw [HMK.out]
        exact ⟨HTZ.out.1.1,HTZ.out.2.2⟩
     ·have gpe:(((p:Nat):Int) == (nt:Int))=false:=by simp;omega
      obtain ⟨e0,hc,b,o,rfl,hbw,hx⟩:=HT.out.blk (by rw [←HET.out];omega)
      clear e0
      have hpt:p < target.length:=by rw [←HET.out];omega
      have cx:wi.cell? ⟨b,o+p,none⟩=some (.int .u8 ((target.getD p 0:Nat):Int)):=(HTR.out.2.2.cell (p:=⟨b,o+p,none⟩) hbw).trans (hx p hpt)
      have HM2:Hid (Dl.MR base target ys (fs++[target.getD p 0]) (p+1)):=Lib.hid (HG.out.2.skip hpt (by rw [←HTX.out,HLG.out]))
      obtain ⟨y,hy⟩:∃ y,y=target.getD p 0:=⟨_,rfl⟩
      have hy256:y < 256:=by rw [hy];exact HBT.out p
      rw [←hy] at cx HM2
      have gp2:(p:Int) < (nt:Int):=by omega
      have HTA:=Lib.hid (HTR.out.alloc (.cells (u8s [y]) 5))
      obtain ⟨vx,wx,hr,hf,hb,hg⟩:=fr_append1 HTA.out.1.2 HTA.out.2.2.size (by rw [←HL6.out];omega) 25 ⟨wi.heap.size,0,none⟩ 1 y cell_byte
      have HC:Hid (TwoR w (.slice A5 l5 c5) ys vx (fs++[y]) wx∧Dl.MR base target ys (fs++[y]) (p+1)):=Lib.hid ⟨HTA.out.fresh hf hb hg,HM2.out⟩
      have HR:=Lib.hid hr
      clear hx hy hr hf hb hg hc hbw
      go_wp2_with (at_builtin;go_loud (refine Lib.wpList_append_run_sl _ rfl (.tmp 95) (.tmp 100) _ rfl _ _ rfl rfl HR.out ?_))
      go_roundw
      case rel=>exact ⟨p+1,_,_,by omega,by go_num,HC⟩
      case measure=>simp [intOf];omega
   ·obtain ⟨n4,ntl,n127,fbl,hlg⟩:4≤n∧n≤text.length∧n≤127∧f≤base.length∧Dl.lg base text=(n,f):=by
     rcases HK.out with ⟨h,_⟩ | h
     ·exact absurd h hn0
     ·exact h
    rw [HTL.out] at ntl
    rw [←HEN.out] at fbl
    have HLG:=Lib.hid hlg
    have gn0:(((n:Nat):Int) == 0)=false:=by simp;omega
    have gn1:(0:Int) < (n:Int):=by omega
    have HTR:Hid (TwoR w (.slice A5 l5 c5) ys (.slice (some ⟨g6,k6,none⟩) l6 c6) fs (wo.drewN m)):=Lib.hid (HG.out.1.drewN m)
    clear hlg HK
    generalize wo.drewN m=wi at HTR ⊢
    by_cases hk4:4≤k
    ·have gk4:(4:Int)≤(k:Int):=by omega
     obtain ⟨Y,hY⟩:∃ Y,Y=ys++Dl.fr fs:=⟨_,rfl⟩
     obtain ⟨ly,hly⟩:∃ x,x=Y.length:=⟨_,rfl⟩
     have hyl:ly≤2000:=by
      have h1:=Dl.fr_len fs
      rw [hly,hY,List.length_append,←HL5.out]
      rw [←HL6.out] at h1
      omega
     have HYL:Hid (Y.length=ly∧ly≤2000):=Lib.hid ⟨hly.symm,hyl⟩
     have HY:=Lib.hid hY
     have HF0:Hid (TwoR w (.slice A5 l5 c5) ys (.slice (some ⟨g6,k6,none⟩) l6 c6) fs wi∧ys++Dl.fr fs=Y):=Lib.hid ⟨HTR.out,HY.out.symm⟩
     clear hY hly hyl
     go_wp2
     go_loopw [5,6] (fun v5 v6 wr=>∃ ys' fs':List Nat,fs'.length≤300∧ys'.length≤2000∧Hid (TwoR w v5 ys' v6 fs' wr∧ys'++Dl.fr fs'=Y)) (fun _ v6 _=>match v6 with | .slice _ n _=>n | _=>0)
     case atStart=>exact ⟨ys,fs,by rw [←HL6.out];omega,by rw [←HL5.out];omega,HF0⟩
     case round=>
      obtain ⟨ys',fs',hfl,hyl2,HG2⟩:=hrel
      obtain ⟨A7,c7,rfl⟩:=own_formD HG2.out.1.1.1
      obtain ⟨g8,k8,c8,cur8,e8,_⟩:=HG2.out.1.1.2
      subst e8
      obtain ⟨l7,hl7⟩:∃ x,x=ys'.length:=⟨_,rfl⟩
      obtain ⟨l8,hl8⟩:∃ x,x=fs'.length:=⟨_,rfl⟩
      have hc8:l8≤c8:=by
       have hr:=HG2.out.1.1.2.rd
       obtain ⟨_,_,hv,h,_⟩:=hr
       injection hv with _ _ e3
       rw [hl8,e3];exact h
      rw [←hl8] at hfl
      rw [←hl7] at hyl2
      rw [←hl7,←hl8] at HG2 ⊢
      have HL7:=Lib.hid hl7
      have HL8:=Lib.hid hl8
      clear hl7 hl8 HF0
      by_cases h8:0 < l8
      ·have g8':(0:Int) < (l8:Int):=by omega
       have hm:Tryz.prog.follows .mixedOrders=true:=by kernel_rfl
       by_cases h127:127 < l8
       ·have g127:(127:Int) < (l8:Int):=by omega
        have HTA:Hid (TwoR w (.slice A7 l7 c7) ys' (.slice (some ⟨g8,k8,none⟩) l8 c8) fs' (wr.drew.alloc (.cells (u8s [127]) 5))):=Lib.hid ((HG2.out.1.drewN 1).alloc _)
        have HOA:=Lib.hid HTA.out.1.1
        have HSA:=Lib.hid HTA.out.2.2.size
        have HRM:=Lib.hid (rd_of_lit wr.drew [127] 5 (by simp))
        have HZ1:Hid (ys'.length+[127].length≤70368744177664):=Lib.hid (by rw [←HL7.out];simp;omega)
        have S2:∀ w',(Instr.slice 25 (.slice (some ⟨g8,k8,none⟩) l8 c8) none (some (.int .i64 (127:Int))) none).run Tryz.prog w'=.ok (.slice (some ⟨g8,k8,none⟩) 127 c8) w':=fun w'=>sl_hi g8 k8 l8 c8 127 w' (by omega) rfl
        obtain ⟨A9,hA9⟩:∃ x,x=(if c8=127 then some (⟨g8,k8,none⟩:Addr) else (some (⟨g8,k8,none⟩:Addr)).map (·.add 127)):=⟨_,rfl⟩
        have S3:∀ w',(Instr.slice 25 (.slice (some ⟨g8,k8,none⟩) l8 c8) (some (.int .i64 (127:Int))) none none).run Tryz.prog w'=.ok (.slice A9 (l8 - 127) (c8 - 127)) w':=fun w'=>by rw [hA9];exact sl_exact (some ⟨g8,k8,none⟩) l8 c8 127 (by omega) w'
        have HA9:=Lib.hid hA9
        clear hA9
        go_wp2
        refine wp_region_held (S:=fun _=>True) hm ?_
        change wpAnyH _ _ _ _ _ _ _ _ wr.drew
        refine wpAnyH_take (i:=0) (v:=?_) rfl (by kernel_rfl) (by kernel_rfl) (by kernel_rfl) (fun _ _ _ h=>h) (Or.inl ⟨by rfl,?_⟩) trivial ?_
        rotate_left
        ·intro w' hw;go_simp;with_reducible rfl
        try go_frame
        refine wpAnyH_take (i:=1) (v:=?_) rfl (by kernel_rfl) (by kernel_rfl) (by kernel_rfl) (fun _ _ _ h=>h) (Or.inl ⟨by rfl,?_⟩) trivial ?_
        rotate_left
        ·intro w' hw;go_simp;with_reducible rfl
        try go_frame
        refine wpAnyH_take (i:=2) (v:=?_) rfl (by kernel_rfl) (by kernel_rfl) (by kernel_rfl) (fun _ _ _ h=>h) (Or.inl ⟨by rfl,?_⟩) trivial ?_
        rotate_left
        ·intro w' hw;go_simp;with_reducible rfl
        try go_frame
        refine wpAnyH_take (i:=5) (v:=?_) rfl (by kernel_rfl) (by kernel_rfl) (by kernel_rfl) (fun _ _ _ h=>h) (Or.inl ⟨by rfl,?_⟩) trivial ?_
        rotate_left
        ·intro w' hw;go_simp;with_reducible rfl
        try go_frame
        refine wpAnyH_take (i:=6) (v:=?_) rfl (by kernel_rfl) (by kernel_rfl) (by kernel_rfl) (fun _ _ _ h=>h) (Or.inl ⟨by rfl,?_⟩) trivial ?_
        rotate_left
        ·intro w' hw;go_simp;with_reducible rfl
        try go_frame
        refine wpAnyH_take (i:=7) (v:=?_) rfl (by kernel_rfl) (by kernel_rfl) (by kernel_rfl) (fun _ _ _ h=>h) (Or.inl ⟨by rfl,?_⟩) trivial ?_
        rotate_left
        ·intro w' hw;go_simp;with_reducible rfl
        try go_frame
        refine all_one (i:=3) (by kernel_rfl) rfl (by rfl) (fun K hK=>?_)
        go_simp
        refine hK _ _ trivial ?_
        try go_frame
        refine all_one (i:=4) (by kernel_rfl) rfl (by rfl) (fun K hK=>?_)
        refine Dl.appendL (.tmp 76) (.tmp 79) (by rfl) w.heap.size _ ys' (by rfl) HOA.out HSA.out _ (by rfl) [127] HRM.out (by simp) HZ1.out ?_
        intro ga ca wa hoa hga hba
        obtain ⟨la9,hla9⟩:∃ x,x=ys'.length+[127].length:=⟨_,rfl⟩
        rw [←hla9] at hoa ⊢
        clear hla9
        have T1:=TwoR.out HTA.out hoa hga hba
        have HT1:=Lib.hid T1
        have hra:=T1.1.2.rd.cutHi (k:=127) (by rw [←HL8.out];omega)
        have HOB:=Lib.hid T1.1.1
        have HSB:=Lib.hid T1.2.2.size
        have HRB:=Lib.hid hra
        have hlk:(fs'.take 127).length=127:=by rw [List.length_take,←HL8.out];omega
        have HLK:=Lib.hid hlk
        clear hoa hga hba T1 hra hlk
        refine hK _ _ trivial ?_
        try go_frame
        refine all_one (i:=8) (by kernel_rfl) rfl (by rfl) (fun K hK=>?_)
        refine Dl.appendL (.tmp 80) (.tmp 83) (by rfl) w.heap.size _ (ys'++[127]) (by rfl) HOB.out HSB.out _ (by rfl) (fs'.take 127) HRB.out (by rw [HLK.out];omega) (by rw [HLK.out,List.length_append,←HL7.out];simp;omega) ?_
        intro gb cb2 wb hob hgb hbb
        obtain ⟨lb9,hlb9⟩:∃ x,x=(ys'++[127]).length+(fs'.take 127).length:=⟨_,rfl⟩
        rw [←hlb9] at hob ⊢
        clear hlb9
        have T2:=TwoR.out HT1.out hob hgb hbb
        have HT2:=Lib.hid T2
        clear hob hgb hbb T2
        refine hK _ _ trivial ?_
        try go_frame
        refine all_one (i:=9) (by kernel_rfl) rfl (by rfl) (fun K hK=>?_)
        go_simp
        refine hK _ _ trivial ?_
        try go_frame
        refine wpAnyH_done (by kernel_rfl) ?_ _
        have hcut:=FrO.cut HT2.out.1.2 (k:=127) (by rw [←HL8.out];omega)
        rw [←HA9.out] at hcut
        have HC:Hid (TwoR w (.slice (some ⟨gb,0,none⟩) lb9 cb2) (ys'++[127]++fs'.take 127) (.slice A9 (l8 - 127) (c8 - 127)) (fs'.drop 127) wb∧(ys'++[127]++fs'.take 127)++Dl.fr (fs'.drop 127)=Y):=Lib.hid ⟨⟨⟨HT2.out.1.1,hcut.1⟩,by rw [hcut.2];exact HT2.out.2.1,HT2.out.2.2⟩,by
         rw [←HG2.out.2,Dl.fr_step (xs:=fs') (by rw [←HL8.out];omega),show min 127 fs'.length=127 by rw [←HL8.out];omega]
         simp⟩
        have HND:Hid ((fs'.drop 127).length≤300∧(ys'++[127]++fs'.take 127).length≤2000∧(fs'.drop 127).length=l8 - 127):=Lib.hid ⟨by rw [List.length_drop,←HL8.out];omega,by
         have h1:=congrArg List.length HC.out.2
         rw [List.length_append,HYL.out.1] at h1
         have:=HYL.out.2
         omega,by rw [List.length_drop,←HL8.out]⟩
        clear hcut
        go_wp2
        go_roundw
        case rel=>exact ⟨_,_,HND.out.1,HND.out.2.1,HC⟩
        case measure=>simp;omega
       ·have g127:¬(127:Int) < (l8:Int):=by omega
        have hw8:IntKind.u8.wrap (l8:Int)=(l8:Int):=Dl.u8_wrap l8 (by omega)
        have HTA:Hid (TwoR w (.slice A7 l7 c7) ys' (.slice (some ⟨g8,k8,none⟩) l8 c8) fs' (wr.drew.alloc (.cells (u8s [l8]) 5))):=Lib.hid ((HG2.out.1.drewN 1).alloc _)
        have HOA:=Lib.hid HTA.out.1.1
        have HSA:=Lib.hid HTA.out.2.2.size
        have HRM:=Lib.hid (rd_of_lit wr.drew [l8] 5 (by simp))
        have HZ1:Hid (ys'.length+[l8].length≤70368744177664):=Lib.hid (by rw [←HL7.out];simp;omega)
        have S2:∀ w',(Instr.slice 25 (.slice (some ⟨g8,k8,none⟩) l8 c8) none (some (.int .i64 (l8:Int))) none).run Tryz.prog w'=.ok (.slice (some ⟨g8,k8,none⟩) l8 c8) w':=fun w'=>sl_hi g8 k8 l8 c8 l8 w' (by omega) rfl
        obtain ⟨A9,hA9⟩:∃ x,x=(if c8=l8 then some (⟨g8,k8,none⟩:Addr) else (some (⟨g8,k8,none⟩:Addr)).map (·.add l8)):=⟨_,rfl⟩
        have S3:∀ w',(Instr.slice 25 (.slice (some ⟨g8,k8,none⟩) l8 c8) (some (.int .i64 (l8:Int))) none none).run Tryz.prog w'=.ok (.slice A9 (l8 - l8) (c8 - l8)) w':=fun w'=>by rw [hA9];exact sl_exact (some ⟨g8,k8,none⟩) l8 c8 l8 (by omega) w'
        have HA9:=Lib.hid hA9
        clear hA9
        go_wp2
        refine wp_region_held (S:=fun _=>True) hm ?_
        change wpAnyH _ _ _ _ _ _ _ _ wr.drew
        refine wpAnyH_take (i:=0) (v:=?_) rfl (by kernel_rfl) (by kernel_rfl) (by kernel_rfl) (fun _ _ _ h=>h) (Or.inl ⟨by rfl,?_⟩) trivial ?_
        rotate_left
        ·intro w' hw;go_simp;with_reducible rfl
        try go_frame
        refine wpAnyH_take (i:=1) (v:=?_) rfl (by kernel_rfl) (by kernel_rfl) (by kernel_rfl) (fun _ _ _ h=>h) (Or.inl ⟨by rfl,?_⟩) trivial ?_
        rotate_left
        ·intro w' hw;go_simp;with_reducible rfl
        try go_frame
        refine wpAnyH_take (i:=2) (v:=?_) rfl (by kernel_rfl) (by kernel_rfl) (by kernel_rfl) (fun _ _ _ h=>h) (Or.inl ⟨by rfl,?_⟩) trivial ?_
        rotate_left
        ·intro w' hw;go_simp;with_reducible rfl
        try go_frame
        refine wpAnyH_take (i:=5) (v:=?_) rfl (by kernel_rfl) (by kernel_rfl) (by kernel_rfl) (fun _ _ _ h=>h) (Or.inl ⟨by rfl,?_⟩) trivial ?_
        rotate_left
        ·intro w' hw;go_simp;with_reducible rfl
        try go_frame
        refine wpAnyH_take (i:=6) (v:=?_) rfl (by kernel_rfl) (by kernel_rfl) (by kernel_rfl) (fun _ _ _ h=>h) (Or.inl ⟨by rfl,?_⟩) trivial ?_
        rotate_left
        ·intro w' hw;go_simp;with_reducible rfl
        try go_frame
        refine wpAnyH_take (i:=7) (v:=?_) rfl (by kernel_rfl) (by kernel_rfl) (by kernel_rfl) (fun _ _ _ h=>h) (Or.inl ⟨by rfl,?_⟩) trivial ?_
        rotate_left
        ·intro w' hw;go_simp;with_reducible rfl
        try go_frame
        refine all_one (i:=3) (by kernel_rfl) rfl (by rfl) (fun K hK=>?_)
        go_simp
        refine hK _ _ trivial ?_
        try go_frame
        refine all_one (i:=4) (by kernel_rfl) rfl (by rfl) (fun K hK=>?_)
        refine Dl.appendL (.tmp 76) (.tmp 79) (by rfl) w.heap.size _ ys' (by rfl) HOA.out HSA.out _ (by rfl) [l8] HRM.out (by simp) HZ1.out ?_
        intro ga ca wa hoa hga hba
        obtain ⟨la9,hla9⟩:∃ x,x=ys'.length+[l8].length:=⟨_,rfl⟩
        rw [←hla9] at hoa ⊢
        clear hla9
        have T1:=TwoR.out HTA.out hoa hga hba
        have HT1:=Lib.hid T1
        have hra:=T1.1.2.rd.cutHi (k:=l8) (by rw [←HL8.out];omega)
        have HOB:=Lib.hid T1.1.1
        have HSB:=Lib.hid T1.2.2.size
        have HRB:=Lib.hid hra
        have hlk:(fs'.take l8).length=l8:=by rw [List.length_take,←HL8.out];omega
        have HLK:=Lib.hid hlk
        clear hoa hga hba T1 hra hlk
        refine hK _ _ trivial ?_
        try go_frame
        refine all_one (i:=8) (by kernel_rfl) rfl (by rfl) (fun K hK=>?_)
        refine Dl.appendL (.tmp 80) (.tmp 83) (by rfl) w.heap.size _ (ys'++[l8]) (by rfl) HOB.out HSB.out _ (by rfl) (fs'.take l8) HRB.out (by rw [HLK.out];omega) (by rw [HLK.out,List.length_append,←HL7.out];simp;omega) ?_
        intro gb cb2 wb hob hgb hbb
        obtain ⟨lb9,hlb9⟩:∃ x,x=(ys'++[l8]).length+(fs'.take l8).length:=⟨_,rfl⟩
        rw [←hlb9] at hob ⊢
        clear hlb9
        have T2:=TwoR.out HT1.out hob hgb hbb
        have HT2:=Lib.hid T2
        clear hob hgb hbb T2
        refine hK _ _ trivial ?_
        try go_frame
        refine all_one (i:=9) (by kernel_rfl) rfl (by rfl) (fun K hK=>?_)
        go_simp
        refine hK _ _ trivial ?_
        try go_frame
        refine wpAnyH_done (by kernel_rfl) ?_ _
        have hcut:=FrO.cut HT2.out.1.2 (k:=l8) (by rw [←HL8.out];omega)
        rw [←HA9.out] at hcut
        have HC:Hid (TwoR w (.slice (some ⟨gb,0,none⟩) lb9 cb2) (ys'++[l8]++fs'.take l8) (.slice A9 (l8 - l8) (c8 - l8)) (fs'.drop l8) wb∧(ys'++[l8]++fs'.take l8)++Dl.fr (fs'.drop l8)=Y):=Lib.hid ⟨⟨⟨HT2.out.1.1,hcut.1⟩,by rw [hcut.2];exact HT2.out.2.1,HT2.out.2.2⟩,by
         rw [←HG2.out.2,Dl.fr_step (xs:=fs') (by rw [←HL8.out];omega),show min 127 fs'.length=l8 by rw [←HL8.out];omega]
         simp⟩
        have HND:Hid ((fs'.drop l8).length≤300∧(ys'++[l8]++fs'.take l8).length≤2000∧(fs'.drop l8).length=l8 - l8):=Lib.hid ⟨by rw [List.length_drop,←HL8.out];omega,by
         have h1:=congrArg List.length HC.out.2
         rw [List.length_append,HYL.out.1] at h1
         have:=HYL.out.2
         omega,by rw [List.length_drop,←HL8.out]⟩
        clear hcut
        rw [Nat.sub_self] at HC
        go_wp2
        go_roundw
        case rel=>exact ⟨_,_,HND.out.1,HND.out.2.1,HC⟩
        case measure=>simp;omega
      ·obtain rfl:l8=0:=by omega
       have hfs:fs'=[]:=List.eq_nil_of_length_eq_zero HL8.out.symm
       subst hfs
       have hyy:ys'=Y:=by have h:=HG2.out.2;rwa [show Dl.fr []=[] from rfl,List.append_nil] at h
       subst hyy
       have HTZ:Hid (TwoR w (.slice A7 l7 c7) ys' (.slice (some ⟨g8,k8,none⟩) 0 c8) [] wr):=Lib.hid HG2.out.1
       have gpe:(((p:Nat):Int) == (nt:Int))=false:=by simp;omega
       obtain ⟨qf,hqf⟩:∃ q,q=f / 256:=⟨_,rfl⟩
       obtain ⟨rf,hrf⟩:∃ q,q=f % 256:=⟨_,rfl⟩
       obtain ⟨mm,hmm⟩:∃ q,q=128+n:=⟨_,rfl⟩
       have HMC:Hid (Dl.MR base target (ys'++[mm,qf,rf]) [] (p+n)):=Lib.hid (by
        rw [hqf,hrf,hmm,HY.out]
        exact HG.out.2.copy (by rw [←HET.out];omega) (by rw [←HTX.out,HLG.out]) (by omega))
       have k1:(f:Int) / 256=(qf:Int):=by omega
       have k2:(f:Int) % 256=(rf:Int):=by omega
       have k1':(f:Int).tdiv 256=(qf:Int):=by rw [Int.tdiv_eq_ediv_of_nonneg (by omega)];exact k1
       have k2':(f:Int).tmod 256=(rf:Int):=by rw [Int.tmod_eq_emod_of_nonneg (by omega)];exact k2
       have k3:(128:Int)+(n:Int)=(mm:Int):=by omega
       have d1:qf < 256:=by omega
       have d2:rf < 256:=by omega
       have d3:mm < 256:=by omega
       have HTA:=Lib.hid (HTZ.out.alloc (.cells (u8s [mm,qf,rf]) 5))
       have HOA:=Lib.hid HTA.out.1.1
       have HSA:=Lib.hid HTA.out.2.2.size
       have HRM:=Lib.hid (rd_of_lit wr [mm,qf,rf] 5 (by simp))
       have HZ1:Hid (ys'.length+[mm,qf,rf].length≤70368744177664):=Lib.hid (by rw [←HL7.out];simp;omega)
       clear hqf hrf hmm
       go_wp2_with (at_builtin;go_loud (refine wpList_plain (by rfl) fun K hK=>Dl.appendL (.tmp 104) (.tmp 114) (by rfl) w.heap.size _ ys' (by rfl) HOA.out HSA.out _ (by rfl) [mm,qf,rf] HRM.out (by simp) HZ1.out ?_);intro gc cc wc hoc hgc hbc;obtain ⟨lc9,hlc9⟩:∃ x,x=ys'.length+[mm,qf,rf].length:=⟨_,rfl⟩;rw [←hlc9] at hoc ⊢;clear hlc9;have HC:Hid (TwoR w (.slice (some ⟨gc,0,none⟩) lc9 cc) (ys'++[mm,qf,rf]) (.slice (some ⟨g8,k8,none⟩) 0 c8) [] wc∧Dl.MR base target (ys'++[mm,qf,rf]) [] (p+n)):=Lib.hid ⟨TwoR.out HTA.out hoc hgc hbc,HMC.out⟩;refine hK _ _ ?_;clear hoc hgc hbc hK)
       go_roundw
       case rel=>exact ⟨p+n,_,[],by omega,by go_num,HC⟩
       case measure=>simp [intOf];omega
    ·have gk4:¬(4:Int)≤(k:Int):=by omega
     obtain ⟨Y,hY⟩:∃ Y,Y=ys++Dl.fr fs:=⟨_,rfl⟩
     obtain ⟨ly,hly⟩:∃ x,x=Y.length:=⟨_,rfl⟩
     have hyl:ly≤2000:=by
      have h1:=Dl.fr_len fs
      rw [hly,hY,List.length_append,←HL5.out]
      rw [←HL6.out] at h1
      omega
     have HYL:Hid (Y.length=ly∧ly≤2000):=Lib.hid ⟨hly.symm,hyl⟩
     have HY:=Lib.hid hY
     have HF0:Hid (TwoR w (.slice A5 l5 c5) ys (.slice (some ⟨g6,k6,none⟩) l6 c6) fs wi∧ys++Dl.fr fs=Y):=Lib.hid ⟨HTR.out,HY.out.symm⟩
     clear hY hly hyl
     go_wp2
     go_loopw [5,6] (fun v5 v6 wr=>∃ ys' fs':List Nat,fs'.length≤300∧ys'.length≤2000∧Hid (TwoR w v5 ys' v6 fs' wr∧ys'++Dl.fr fs'=Y)) (fun _ v6 _=>match v6 with | .slice _ n _=>n | _=>0)
     case atStart=>exact ⟨ys,fs,by rw [←HL6.out];omega,by rw [←HL5.out];omega,HF0⟩
     case round=>
      obtain ⟨ys',fs',hfl,hyl2,HG2⟩:=hrel
      obtain ⟨A7,c7,rfl⟩:=own_formD HG2.out.1.1.1
      obtain ⟨g8,k8,c8,cur8,e8,_⟩:=HG2.out.1.1.2
      subst e8
      obtain ⟨l7,hl7⟩:∃ x,x=ys'.length:=⟨_,rfl⟩
      obtain ⟨l8,hl8⟩:∃ x,x=fs'.length:=⟨_,rfl⟩
      have hc8:l8≤c8:=by
       have hr:=HG2.out.1.1.2.rd
       obtain ⟨_,_,hv,h,_⟩:=hr
       injection hv with _ _ e3
       rw [hl8,e3];exact h
      rw [←hl8] at hfl
      rw [←hl7] at hyl2
      rw [←hl7,←hl8] at HG2 ⊢
      have HL7:=Lib.hid hl7
      have HL8:=Lib.hid hl8
      clear hl7 hl8 HF0
      by_cases h8:0 < l8
      ·have g8':(0:Int) < (l8:Int):=by omega
       have hm:Tryz.prog.follows .mixedOrders=true:=by kernel_rfl
       by_cases h127:127 < l8
       ·have g127:(127:Int) < (l8:Int):=by omega
        have HTA:Hid (TwoR w (.slice A7 l7 c7) ys' (.slice (some ⟨g8,k8,none⟩) l8 c8) fs' (wr.drew.alloc (.cells (u8s [127]) 5))):=Lib.hid ((HG2.out.1.drewN 1).alloc _)
        have HOA:=Lib.hid HTA.out.1.1
        have HSA:=Lib.hid HTA.out.2.2.size
        have HRM:=Lib.hid (rd_of_lit wr.drew [127] 5 (by simp))
        have HZ1:Hid (ys'.length+[127].length≤70368744177664):=Lib.hid (by rw [←HL7.out];simp;omega)
        have S2:∀ w',(Instr.slice 25 (.slice (some ⟨g8,k8,none⟩) l8 c8) none (some (.int .i64 (127:Int))) none).run Tryz.prog w'=.ok (.slice (some ⟨g8,k8,none⟩) 127 c8) w':=fun w'=>sl_hi g8 k8 l8 c8 127 w' (by omega) rfl
        obtain ⟨A9,hA9⟩:∃ x,x=(if c8=127 then some (⟨g8,k8,none⟩:Addr) else (some (⟨g8,k8,none⟩:Addr)).map (·.add 127)):=⟨_,rfl⟩
        have S3:∀ w',(Instr.slice 25 (.slice (some ⟨g8,k8,none⟩) l8 c8) (some (.int .i64 (127:Int))) none none).run Tryz.prog w'=.ok (.slice A9 (l8 - 127) (c8 - 127)) w':=fun w'=>by rw [hA9];exact sl_exact (some ⟨g8,k8,none⟩) l8 c8 127 (by omega) w'
        have HA9:=Lib.hid hA9
        clear hA9
        go_wp2
        refine wp_region_held (S:=fun _=>True) hm ?_
        change wpAnyH _ _ _ _ _ _ _ _ wr.drew
        refine wpAnyH_take (i:=0) (v:=?_) rfl (by kernel_rfl) (by kernel_rfl) (by kernel_rfl) (fun _ _ _ h=>h) (Or.inl ⟨by rfl,?_⟩) trivial ?_
        rotate_left
        ·intro w' hw;go_simp;with_reducible rfl
        try go_frame
        refine wpAnyH_take (i:=1) (v:=?_) rfl (by kernel_rfl) (by kernel_rfl) (by kernel_rfl) (fun _ _ _ h=>h) (Or.inl ⟨by rfl,?_⟩) trivial ?_
        rotate_left
        ·intro w' hw;go_simp;with_reducible rfl
        try go_frame
        refine wpAnyH_take (i:=2) (v:=?_) rfl (by kernel_rfl) (by kernel_rfl) (by kernel_rfl) (fun _ _ _ h=>h) (Or.inl ⟨by rfl,?_⟩) trivial ?_
        rotate_left
        ·intro w' hw;go_simp;with_reducible rfl
        try go_frame
        refine wpAnyH_take (i:=5) (v:=?_) rfl (by kernel_rfl) (by kernel_rfl) (by kernel_rfl) (fun _ _ _ h=>h) (Or.inl ⟨by rfl,?_⟩) trivial ?_
        rotate_left
        ·intro w' hw;go_simp;with_reducible rfl
        try go_frame
        refine wpAnyH_take (i:=6) (v:=?_) rfl (by kernel_rfl) (by kernel_rfl) (by kernel_rfl) (fun _ _ _ h=>h) (Or.inl ⟨by rfl,?_⟩) trivial ?_
        rotate_left
        ·intro w' hw;go_simp;with_reducible rfl
        try go_frame
        refine wpAnyH_take (i:=7) (v:=?_) rfl (by kernel_rfl) (by kernel_rfl) (by kernel_rfl) (fun _ _ _ h=>h) (Or.inl ⟨by rfl,?_⟩) trivial ?_
        rotate_left
        ·intro w' hw;go_simp;with_reducible rfl
        try go_frame
        refine all_one (i:=3) (by kernel_rfl) rfl (by rfl) (fun K hK=>?_)
        go_simp
        refine hK _ _ trivial ?_
        try go_frame
        refine all_one (i:=4) (by kernel_rfl) rfl (by rfl) (fun K hK=>?_)
        refine Dl.appendL (.tmp 76) (.tmp 79) (by rfl) w.heap.size _ ys' (by rfl) HOA.out HSA.out _ (by rfl) [127] HRM.out (by simp) HZ1.out ?_
        intro ga ca wa hoa hga hba
        obtain ⟨la9,hla9⟩:∃ x,x=ys'.length+[127].length:=⟨_,rfl⟩
        rw [←hla9] at hoa ⊢
        clear hla9
        have T1:=TwoR.out HTA.out hoa hga hba
        have HT1:=Lib.hid T1
        have hra:=T1.1.2.rd.cutHi (k:=127) (by rw [←HL8.out];omega)
        have HOB:=Lib.hid T1.1.1
        have HSB:=Lib.hid T1.2.2.size
        have HRB:=Lib.hid hra
        have hlk:(fs'.take 127).length=127:=by rw [List.length_take,←HL8.out];omega
        have HLK:=Lib.hid hlk
        clear hoa hga hba T1 hra hlk
        refine hK _ _ trivial ?_
        try go_frame
        refine all_one (i:=8) (by kernel_rfl) rfl (by rfl) (fun K hK=>?_)
        refine Dl.appendL (.tmp 80) (.tmp 83) (by rfl) w.heap.size _ (ys'++[127]) (by rfl) HOB.out HSB.out _ (by rfl) (fs'.take 127) HRB.out (by rw [HLK.out];omega) (by rw [HLK.out,List.length_append,←HL7.out];simp;omega) ?_
        intro gb cb2 wb hob hgb hbb
        obtain ⟨lb9,hlb9⟩:∃ x,x=(ys'++[127]).length+(fs'.take 127).length:=⟨_,rfl⟩
        rw [←hlb9] at hob ⊢
        clear hlb9
        have T2:=TwoR.out HT1.out hob hgb hbb
        have HT2:=Lib.hid T2
        clear hob hgb hbb T2
        refine hK _ _ trivial ?_
        try go_frame
        refine all_one (i:=9) (by kernel_rfl) rfl (by rfl) (fun K hK=>?_)
        go_simp
        refine hK _ _ trivial ?_
        try go_frame
        refine wpAnyH_done (by kernel_rfl) ?_ _
        have hcut:=FrO.cut HT2.out.1.2 (k:=127) (by rw [←HL8.out];omega)
        rw [←HA9.out] at hcut
        have HC:Hid (TwoR w (.slice (some ⟨gb,0,none⟩) lb9 cb2) (ys'++[127]++fs'.take 127) (.slice A9 (l8 - 127) (c8 - 127)) (fs'.drop 127) wb∧(ys'++[127]++fs'.take 127)++Dl.fr (fs'.drop 127)=Y):=Lib.hid ⟨⟨⟨HT2.out.1.1,hcut.1⟩,by rw [hcut.2];exact HT2.out.2.1,HT2.out.2.2⟩,by
         rw [←HG2.out.2,Dl.fr_step (xs:=fs') (by rw [←HL8.out];omega),show min 127 fs'.length=127 by rw [←HL8.out];omega]
         simp⟩
        have HND:Hid ((fs'.drop 127).length≤300∧(ys'++[127]++fs'.take 127).length≤2000∧(fs'.drop 127).length=l8 - 127):=Lib.hid ⟨by rw [List.length_drop,←HL8.out];omega,by
         have h1:=congrArg List.length HC.out.2
         rw [List.length_append,HYL.out.1] at h1
         have:=HYL.out.2
         omega,by rw [List.length_drop,←HL8.out]⟩
        clear hcut
        go_wp2
        go_roundw
        case rel=>exact ⟨_,_,HND.out.1,HND.out.2.1,HC⟩
        case measure=>simp;omega
       ·have g127:¬(127:Int) < (l8:Int):=by omega
        have hw8:IntKind.u8.wrap (l8:Int)=(l8:Int):=Dl.u8_wrap l8 (by omega)
        have HTA:Hid (TwoR w (.slice A7 l7 c7) ys' (.slice (some ⟨g8,k8,none⟩) l8 c8) fs' (wr.drew.alloc (.cells (u8s [l8]) 5))):=Lib.hid ((HG2.out.1.drewN 1).alloc _)
        have HOA:=Lib.hid HTA.out.1.1
        have HSA:=Lib.hid HTA.out.2.2.size
        have HRM:=Lib.hid (rd_of_lit wr.drew [l8] 5 (by simp))
        have HZ1:Hid (ys'.length+[l8].length≤70368744177664):=Lib.hid (by rw [←HL7.out];simp;omega)
        have S2:∀ w',(Instr.slice 25 (.slice (some ⟨g8,k8,none⟩) l8 c8) none (some (.int .i64 (l8:Int))) none).run Tryz.prog w'=.ok (.slice (some ⟨g8,k8,none⟩) l8 c8) w':=fun w'=>sl_hi g8 k8 l8 c8 l8 w' (by omega) rfl
        obtain ⟨A9,hA9⟩:∃ x,x=(if c8=l8 then some (⟨g8,k8,none⟩:Addr) else (some (⟨g8,k8,none⟩:Addr)).map (·.add l8)):=⟨_,rfl⟩
        have S3:∀ w',(Instr.slice 25 (.slice (some ⟨g8,k8,none⟩) l8 c8) (some (.int .i64 (l8:Int))) none none).run Tryz.prog w'=.ok (.slice A9 (l8 - l8) (c8 - l8)) w':=fun w'=>by rw [hA9];exact sl_exact (some ⟨g8,k8,none⟩) l8 c8 l8 (by omega) w'
        have HA9:=Lib.hid hA9
        clear hA9
        go_wp2
        refine wp_region_held (S:=fun _=>True) hm ?_
        change wpAnyH _ _ _ _ _ _ _ _ wr.drew
        refine wpAnyH_take (i:=0) (v:=?_) rfl (by kernel_rfl) (by kernel_rfl) (by kernel_rfl) (fun _ _ _ h=>h) (Or.inl ⟨by rfl,?_⟩) trivial ?_
        rotate_left
        ·intro w' hw;go_simp;with_reducible rfl
        try go_frame
        refine wpAnyH_take (i:=1) (v:=?_) rfl (by kernel_rfl) (by kernel_rfl) (by kernel_rfl) (fun _ _ _ h=>h) (Or.inl ⟨by rfl,?_⟩) trivial ?_
        rotate_left
        ·intro w' hw;go_simp;with_reducible rfl
        try go_frame
        refine wpAnyH_take (i:=2) (v:=?_) rfl (by kernel_rfl) (by kernel_rfl) (by kernel_rfl) (fun _ _ _ h=>h) (Or.inl ⟨by rfl,?_⟩) trivial ?_
        rotate_left
        ·intro w' hw;go_simp;with_reducible rfl
        try go_frame
        refine wpAnyH_take (i:=5) (v:=?_) rfl (by kernel_rfl) (by kernel_rfl) (by kernel_rfl) (fun _ _ _ h=>h) (Or.inl ⟨by rfl,?_⟩) trivial ?_
        rotate_left
        ·intro w' hw;go_simp;with_reducible rfl
        try go_frame
        refine wpAnyH_take (i:=6) (v:=?_) rfl (by kernel_rfl) (by kernel_rfl) (by kernel_rfl) (fun _ _ _ h=>h) (Or.inl ⟨by rfl,?_⟩) trivial ?_
        rotate_left
        ·intro w' hw;go_simp;with_reducible rfl
        try go_frame
        refine wpAnyH_take (i:=7) (v:=?_) rfl (by kernel_rfl) (by kernel_rfl) (by kernel_rfl) (fun _ _ _ h=>h) (Or.inl ⟨by rfl,?_⟩) trivial ?_
        rotate_left
        ·intro w' hw;go_simp;with_reducible rfl
        try go_frame
        refine all_one (i:=3) (by kernel_rfl) rfl (by rfl) (fun K hK=>?_)
        go_simp
        refine hK _ _ trivial ?_
        try go_frame
        refine all_one (i:=4) (by kernel_rfl) rfl (by rfl) (fun K hK=>?_)
        refine Dl.appendL (.tmp 76) (.tmp 79) (by rfl) w.heap.size _ ys' (by rfl) HOA.out HSA.out _ (by rfl) [l8] HRM.out (by simp) HZ1.out ?_
        intro ga ca wa hoa hga hba
        obtain ⟨la9,hla9⟩:∃ x,x=ys'.length+[l8].length:=⟨_,rfl⟩
        rw [←hla9] at hoa ⊢
        clear hla9
        have T1:=TwoR.out HTA.out hoa hga hba
        have HT1:=Lib.hid T1
        have hra:=T1.1.2.rd.cutHi (k:=l8) (by rw [←HL8.out];omega)
        have HOB:=Lib.hid T1.1.1
        have HSB:=Lib.hid T1.2.2.size
        have HRB:=Lib.hid hra
        have hlk:(fs'.take l8).length=l8:=by rw [List.length_take,←HL8.out];omega
        have HLK:=Lib.hid hlk
        clear hoa hga hba T1 hra hlk
        refine hK _ _ trivial ?_
        try go_frame
        refine all_one (i:=8) (by kernel_rfl) rfl (by rfl) (fun K hK=>?_)
        refine Dl.appendL (.tmp 80) (.tmp 83) (by rfl) w.heap.size _ (ys'++[l8]) (by rfl) HOB.out HSB.out _ (by rfl) (fs'.take l8) HRB.out (by rw [HLK.out];omega) (by rw [HLK.out,List.length_append,←HL7.out];simp;omega) ?_
        intro gb cb2 wb hob hgb hbb
        obtain ⟨lb9,hlb9⟩:∃ x,x=(ys'++[l8]).length+(fs'.take l8).length:=⟨_,rfl⟩
        rw [←hlb9] at hob ⊢
        clear hlb9
        have T2:=TwoR.out HT1.out hob hgb hbb
        have HT2:=Lib.hid T2
        clear hob hgb hbb T2
        refine hK _ _ trivial ?_
        try go_frame
        refine all_one (i:=9) (by kernel_rfl) rfl (by rfl) (fun K hK=>?_)
        go_simp
        refine hK _ _ trivial ?_
        try go_frame
        refine wpAnyH_done (by kernel_rfl) ?_ _
        have hcut:=FrO.cut HT2.out.1.2 (k:=l8) (by rw [←HL8.out];omega)
        rw [←HA9.out] at hcut
        have HC:Hid (TwoR w (.slice (some ⟨gb,0,none⟩) lb9 cb2) (ys'++[l8]++fs'.take l8) (.slice A9 (l8 - l8) (c8 - l8)) (fs'.drop l8) wb∧(ys'++[l8]++fs'.take l8)++Dl.fr (fs'.drop l8)=Y):=Lib.hid ⟨⟨⟨HT2.out.1.1,hcut.1⟩,by rw [hcut.2];exact HT2.out.2.1,HT2.out.2.2⟩,by
         rw [←HG2.out.2,Dl.fr_step (xs:=fs') (by rw [←HL8.out];omega),show min 127 fs'.length=l8 by rw [←HL8.out];omega]
         simp⟩
        have HND:Hid ((fs'.drop l8).length≤300∧(ys'++[l8]++fs'.take l8).length≤2000∧(fs'.drop l8).length=l8 - l8):=Lib.hid ⟨by rw [List.length_drop,←HL8.out];omega,by
         have h1:=congrArg List.length HC.out.2
         rw [List.length_append,HYL.out.1] at h1
         have:=HYL.out.2
         omega,by rw [List.length_drop,←HL8.out]⟩
        clear hcut
        rw [Nat.sub_self] at HC
        go_wp2
        go_roundw
        case rel=>exact ⟨_,_,HND.out.1,HND.out.2.1,HC⟩
        case measure=>simp;omega
      ·obtain rfl:l8=0:=by omega
       have hfs:fs'=[]:=List.eq_nil_of_length_eq_zero HL8.out.symm
       subst hfs
       have hyy:ys'=Y:=by have h:=HG2.out.2;rwa [show Dl.fr []=[] from rfl,List.append_nil] at h
       subst hyy
       have HTZ:Hid (TwoR w (.slice A7 l7 c7) ys' (.slice (some ⟨g8,k8,none⟩) 0 c8) [] wr):=Lib.hid HG2.out.1
       have gpe:(((p:Nat):Int) == (nt:Int))=false:=by simp;omega
       obtain ⟨qf,hqf⟩:∃ q,q=f / 256:=⟨_,rfl⟩
       obtain ⟨rf,hrf⟩:∃ q,q=f % 256:=⟨_,rfl⟩
       obtain ⟨mm,hmm⟩:∃ q,q=128+n:=⟨_,rfl⟩
       have HMC:Hid (Dl.MR base target (ys'++[mm,qf,rf]) [] (p+n)):=Lib.hid (by
        rw [hqf,hrf,hmm,HY.out]
        exact HG.out.2.copy (by rw [←HET.out];omega) (by rw [←HTX.out,HLG.out]) (by omega))
       have k1:(f:Int) / 256=(qf:Int):=by omega
       have k2:(f:Int) % 256=(rf:Int):=by omega
       have k1':(f:Int).tdiv 256=(qf:Int):=by rw [Int.tdiv_eq_ediv_of_nonneg (by omega)];exact k1
       have k2':(f:Int).tmod 256=(rf:Int):=by rw [Int.tmod_eq_emod_of_nonneg (by omega)];exact k2
       have k3:(128:Int)+(n:Int)=(mm:Int):=by omega
       have d1:qf < 256:=by omega
       have d2:rf < 256:=by omega
       have d3:mm < 256:=by omega
       have HTA:=Lib.hid (HTZ.out.alloc (.cells (u8s [mm,qf,rf]) 5))
       have HOA:=Lib.hid HTA.out.1.1
       have HSA:=Lib.hid HTA.out.2.2.size
       have HRM:=Lib.hid (rd_of_lit wr [mm,qf,rf] 5 (by simp))
       have HZ1:Hid (ys'.length+[mm,qf,rf].length≤70368744177664):=Lib.hid (by rw [←HL7.out];simp;omega)
       clear hqf hrf hmm
       go_wp2_with (at_builtin;go_loud (refine wpList_plain (by rfl) fun K hK=>Dl.appendL (.tmp 104) (.tmp 114) (by rfl) w.heap.size _ ys' (by rfl) HOA.out HSA.out _ (by rfl) [mm,qf,rf] HRM.out (by simp) HZ1.out ?_);intro gc cc wc hoc hgc hbc;obtain ⟨lc9,hlc9⟩:∃ x,x=ys'.length+[mm,qf,rf].length:=⟨_,rfl⟩;rw [←hlc9] at hoc ⊢;clear hlc9;have HC:Hid (TwoR w (.slice (some ⟨gc,0,none⟩) lc9 cc) (ys'++[mm,qf,rf]) (.slice (some ⟨g8,k8,none⟩) 0 c8) [] wc∧Dl.MR base target (ys'++[mm,qf,rf]) [] (p+n)):=Lib.hid ⟨TwoR.out HTA.out hoc hgc hbc,HMC.out⟩;refine hK _ _ ?_;clear hoc hgc hbc hK)
       go_roundw
       case rel=>exact ⟨p+n,_,[],by omega,by go_num,HC⟩
       case measure=>simp [intOf];omega
end Go.Proofs.YtndgadjeeinedaaGreatDoor
