/- Fields as bytes by the document's own Write (cartageref02.Write). -/
import Derived.Test.YtndgadjeeinedaaGreatDoorMOct4s
import Derived.WalkLawsBesides
import Derived.WalkSpells
import Derived.Test.YtndgadjeeinedaaGreatDoorMBases
namespace Go.Proofs.YtndgadjeeinedaaGreatDoor
open Go Go.RowKit
theorem Pad.step {w : World} {s : Value} {ys : List Nat} {wr w' : World} (h : Pad w.heap.size w s ys wr) (k : Below wr.heap.size wr w') : Pad w.heap.size w s ys w' :=
  ⟨h.own.kept (row := none) ⟨k.os, k.tape, k.output, k.size, fun i hi _ => k.block i hi⟩ (by cases s.ownBlock with | none => exact Or.inl rfl | some _ => exact Or.inr (by simp)),
   ⟨k.os.trans h.bel.os, k.tape.trans h.bel.tape, k.output.trans h.bel.output, Nat.le_trans h.bel.size k.size, fun i hi => (k.block i (Nat.lt_of_lt_of_le hi h.bel.size)).trans (h.bel.block i hi)⟩⟩
theorem Pad.drewN {B:Nat} {w:World} {s:Value} {ys:List Nat} {wr:World} (h:Pad B w s ys wr) (n:Nat):Pad B w s ys (wr.drewN n):=⟨h.own,below_drewN h.bel n⟩
theorem Others.of_below {a b:World} (h:Below a.heap.size a b):Others a b:=fun p _ _ _ _ e=>(h.block p (Array.getElem?_eq_some_iff.1 e).1).trans e
namespace Oc
theorem known_at {s:ByteArray} {k:Nat} (h:known s.data.toList=true) (hk:k < s.size):isL s[k]=true:=by
 unfold known at h
 exact List.all_eq_true.1 h s[k] (by simp [ByteArray.getElem_eq_getElem_data])
theorem letters {c:Nat} (h:0≤size c):(∃ z:Nat,0 < z∧z≤8∧size c=z∧nsize c=z∧mostOf z=most c∧c≠111∧c≠116)∨c=111∨c=116:=by
 by_cases h1:c=98
 ·subst h1;exact Or.inl ⟨1,by decide,by decide,rfl,rfl,rfl,by decide,by decide⟩
 by_cases h2:c=119
 ·subst h2;exact Or.inl ⟨4,by decide,by decide,rfl,rfl,rfl,by decide,by decide⟩
 by_cases h3:c=113
 ·subst h3;exact Or.inl ⟨8,by decide,by decide,rfl,rfl,rfl,by decide,by decide⟩
 by_cases h4:c=111
 ·exact Or.inr (Or.inl h4)
 by_cases h5:c=116
 ·exact Or.inr (Or.inr h5)
 unfold size at h
 rw [if_neg h1,if_neg h2,if_neg h3,if_neg h4,if_neg h5] at h
 omega
end Oc
def RWritePost (s:ByteArray) (fs:List Fld) (w:World) (e:Ending) (w':World):Prop:=
 Below w.heap.size w w' ∧
 (Oc.known s.data.toList=false→e=.returned (.tuple #[.slice none 0 0,.int .i64 7])) ∧
 (Oc.known s.data.toList=true→(fs.length≠s.size∨¬Oc.okTo s.data.toList fs s.size)→e=.returned (.tuple #[.slice none 0 0,.int .i64 1])) ∧
 (Oc.known s.data.toList=true→fs.length=s.size→Oc.okTo s.data.toList fs s.size→∃ v,e=.returned (.tuple #[v,.int .i64 0])∧Pad w.heap.size w v (Oc.encs s.data.toList fs) w')
set_option maxRecDepth 100000 in
set_option maxHeartbeats 400000 in
theorem rwrite_any (s:ByteArray) (A:Option Addr) (b o cap:Nat) (fs:List Fld) (w:World) (hs:s.size≤1000) (hA:0 < fs.length→A=some ⟨b,o,none⟩) (hF:FRow w b o fs) (_hl:fs.length≤1000) (hlb:∀ f∈fs,f.l≤1000) :
  Calls Tryz.prog 17 #[.string s,.slice A fs.length cap] w (RWritePost s fs w):=by
 have C1:=rknown_any s
 obtain ⟨kn,hkn⟩:∃ kn,kn=Oc.known s.data.toList:=⟨_,rfl⟩
 rw [←hkn] at C1
 have HKN:=Lib.hid hkn
 clear hkn
 cases kn
 ·have H:Hid (RWritePost s fs w (.returned (.tuple #[.slice none 0 0,.int .i64 7])) w):=Lib.hid ⟨Below.refl _ _,fun _=>rfl,fun h _=>(by rw [←HKN.out] at h;cases h),fun h _ _=>(by rw [←HKN.out] at h;cases h)⟩
  go_enter Tryz.func17,Tryz.ntmps17
  go_wp2_with (go_at_call 32;refine (C1 _ (by omega)).mono ?_;rintro e w' ⟨rfl,rfl⟩)
  go_ret2
  exact H.out
 ·by_cases hn:fs.length=s.size
  ·have b1:((s.size:Int) != (fs.length:Int))=false:=by simp;omega
   have HP0:Hid (Pad w.heap.size w (.slice (some ⟨w.heap.size,0,none⟩) 0 0) (Oc.encs (s.data.toList.take 0) (fs.take 0)) (w.alloc (.cells #[] 5))):=Lib.hid ⟨World.ownsRow_lit w #[] 0 (Nat.le_refl _) (by decide) rfl,(Below.refl _ _).alloc (Nat.le_refl _) _⟩
   have HF:=Lib.hid hF
   clear hF
   go_enter Tryz.func17,Tryz.ntmps17
   go_wp2_with (go_at_call 32;refine (C1 _ (by omega)).mono ?_;rintro e w' ⟨rfl,rfl⟩)
   go_loopw [6,21] (fun v i wr=>∃ k:Nat,k≤fs.length∧i=.int .i64 k∧Hid (Pad w.heap.size w v (Oc.encs (s.data.toList.take k) (fs.take k)) wr)∧Hid (Oc.okTo s.data.toList fs k)) (fun _ i _=>fs.length - (intOf i).toNat)
   case atStart=>exact ⟨0,Nat.zero_le _,rfl,HP0,Lib.hid fun _ _ _ h=>by omega⟩
   case round=>
    obtain ⟨k,hk,rfl,HP,HO⟩:=hrel
    by_cases hlt:k < fs.length
    ·obtain rfl:=hA (by omega)
     have HFr:=Lib.hid (HF.out.below HP.out.bel (Nat.le_refl _))
     have hg:wr.rangeAt b (o+k * 2) [.int .i64 fs[k].n,.slice fs[k].A fs[k].l fs[k].c]:=fun j v hj=>by
      have p1:=HFr.out.n k hlt
      have p2:=HFr.out.s k hlt
      rcases j with _ | _ | j
      ·rw [show o+k * 2+0=o+2 * k by omega,p1];exact hj
      ·rw [show o+k * 2+(0+1)=o+2 * k+1 by omega,p2];exact hj
      ·simp at hj
     have hks:k < s.size:=by omega
     have es:s.data.toList[k]'(by simpa using hks)=s[k]:=rfl
     have hno:Oc.fits s[k].toNat fs[k].n fs[k].l=false→¬Oc.okTo s.data.toList fs s.size:=fun h ho=>by
      have h2:=ho k (by simpa using hks) hlt hks
      rw [es,h] at h2
      cases h2
     have hyes:Oc.fits s[k].toNat fs[k].n fs[k].l=true→Oc.okTo s.data.toList fs (k+1):=fun h=>Oc.okTo_succ HO.out (by simpa using hks) hlt (by rw [es];exact h)
     have henc:Oc.encs (s.data.toList.take (k+1)) (fs.take (k+1))=Oc.encs (s.data.toList.take k) (fs.take k)++Oc.enc s[k].toNat fs[k].n fs[k].bs:=by
      rw [Oc.encs_take _ _ _ (by simpa using hks) hlt,es]
     have hrd:=HF.out.r fs[k] (List.getElem_mem _)
     generalize fs[k]=f at hg hno hyes henc hrd
     obtain ⟨n,Af,lf,cf,bs⟩:=f
     dsimp only at hg hno hyes henc hrd
     have HG:=Lib.hid hg
     have HNO:=Lib.hid hno
     have HYES:=Lib.hid hyes
     have HENC:=Lib.hid henc
     have HRD:=Lib.hid hrd
     clear hg hno hyes henc hrd es
     have i0:((k:Nat):Int) < fs.length:=by omega
     have i1:(0:Int)≤((k:Nat):Int):=by omega
     have i2:((k:Nat):Int) < s.size:=by omega
     have hkl:Oc.isL s[k]=true:=Oc.known_at HKN.out.symm hks
     have hP3:Pad w.heap.size w u6 (Oc.encs (s.data.toList.take k) (fs.take k)) (wr.alloc (.cells #[.int .i64 n,.slice Af lf cf] 59)):=HP.out.alloc _
     have HP3:=Lib.hid hP3
     have hbad:∀ m,Oc.fits s[k].toNat n lf=false→RWritePost s fs w (.returned (.tuple #[.slice none 0 0,.int .i64 1])) ((wr.alloc (.cells #[.int .i64 n,.slice Af lf cf] 59)).drewN m):=fun m hfit=>⟨below_drewN hP3.bel m,fun h=>(by rw [←HKN.out] at h;cases h),fun _ _=>rfl,fun _ _ h=>absurd h (HNO.out hfit)⟩
     have HBAD:=Lib.hid hbad
     have HLEN:=Lib.hid (Oc.encs_len (s.data.toList.take k) (fs.take k) (fun f hf=>by rw [(HF.out.r f (List.mem_of_mem_take hf)).2];exact hlb f (List.mem_of_mem_take hf)))
     clear hP3 hbad
     rcases Oc.letters (of_decide_eq_true hkl) with ⟨z,hz0,hz8,hsz,hnz,hmz,n1,n2⟩ | hc | hc
     ·have CS:=rsize_any s[k].toNat
      have CM:=most_any (z:Int)
      rw [hsz] at CS
      rw [hmz] at CM
      have hfits:Oc.fits s[k].toNat n lf=(decide (0≤n) && decide (n≤Oc.most s[k].toNat)):=by unfold Oc.fits;rw [if_neg n1,if_neg n2]
      have hmle:=Oc.most_le s[k].toNat
      have henc:=fun (m:Nat) (h:n=(m:Int))=>enc_num (bs:=bs) n1 n2 hnz h
      have HEN:=Lib.hid henc
      generalize Oc.most s[k].toNat=mx at CM hfits hmle
      have iz:(0:Int) < (z:Int):=by omega
      clear hsz hmz henc hkl hnz
      by_cases h3:0≤n
      ·by_cases h4:n≤mx
       ·obtain ⟨m,rfl⟩:=Int.eq_ofNat_of_zero_le h3
        have hfit:Oc.fits s[k].toNat (m:Int) lf=true:=by rw [hfits,decide_eq_true h3,decide_eq_true h4];rfl
        have HO2:=Lib.hid (HYES.out hfit)
        clear hfits
        have i5:¬(m:Int) < 0:=by omega
        have i6:¬mx < (m:Int):=by omega
        have CN:=fun w'=>rnum_any z m w' hz8 (by omega)
        go_wp2_with (first | (refine wpList_load_mid rfl 59 (.tmp 24) rfl b (o+k * 2) rfl _ _ HG.out Tryz.underlying59 rfl (by kernel_rfl) ?_) | (go_at_call 33;refine (CS _).mono ?_;rintro e w' ⟨rfl,rfl⟩))
        go_quiet ((go_at_call 34;exact Calls.quiet_of_same ((CM _).mono fun _ _ h=>⟨h.1,h.2.symm⟩)))
        have HZ:Hid ((Oc.encs (s.data.toList.take k) (fs.take k)).length+(Oc.nums z m).length≤70368744177664):=Lib.hid (by have h:=HLEN.out;rw [List.length_take] at h;rw [Oc.nums_len];omega)
        go_wp2_with (first
         | (refine wpList_appendB rfl (.tmp 42) (.tmp 46) rfl w.heap.size _ (Oc.encs (s.data.toList.take k) (fs.take k)) rfl HP4.out.own HP4.out.bel.size _ rfl (Oc.nums z m) HR2.out HZ.out ?_;intro v2 w2 ho2 hg2;have HP5:Hid (Pad w.heap.size w v2 ((Oc.encs (s.data.toList.take k) (fs.take k))++Oc.nums z m) w2):=Lib.hid ⟨ho2,below_own HP4.out.bel HP4.out.own (Nat.le_refl _) hg2⟩;clear ho2 hg2)
         | (go_at_call 35;refine (CN _).mono ?_;rintro e w' ⟨v',rfl,hr,hb⟩;have HR2:=Lib.hid hr;have HP4:=Lib.hid (Pad.step (HP3.out.drewN nq) hb);clear hr hb))
        rw [←HEN.out m rfl,←HENC.out] at HP5
        go_roundw
        case rel=>exact ⟨k+1,by omega,by go_num,HP5,HO2⟩
        case measure=>simp [intOf];omega
       ·have hfit:Oc.fits s[k].toNat n lf=false:=by rw [hfits,decide_eq_false h4,Bool.and_false]
        have H:∀ m,Hid (RWritePost s fs w (.returned (.tuple #[.slice none 0 0,.int .i64 1])) ((wr.alloc (.cells #[.int .i64 n,.slice Af lf cf] 59)).drewN m)):=fun m=>Lib.hid (HBAD.out m hfit)
        clear hfits
        have i5:mx < n:=by omega
        have i6:¬n < 0:=by omega
        go_wp2_with (first | (refine wpList_load_mid rfl 59 (.tmp 24) rfl b (o+k * 2) rfl _ _ HG.out Tryz.underlying59 rfl (by kernel_rfl) ?_) | (go_at_call 33;refine (CS _).mono ?_;rintro e w' ⟨rfl,rfl⟩))
        go_quiet ((go_at_call 34;exact Calls.quiet_of_same ((CM _).mono fun _ _ h=>⟨h.1,h.2.symm⟩)))
        go_wp2
        go_ret2
        exact (H _).out
      ·have hfit:Oc.fits s[k].toNat n lf=false:=by rw [hfits,decide_eq_false h3,Bool.false_and]
       have H:∀ m,Hid (RWritePost s fs w (.returned (.tuple #[.slice none 0 0,.int .i64 1])) ((wr.alloc (.cells #[.int .i64 n,.slice Af lf cf] 59)).drewN m)):=fun m=>Lib.hid (HBAD.out m hfit)
       clear hfits
       have i5:n < 0:=by omega
       go_wp2_with (first | (refine wpList_load_mid rfl 59 (.tmp 24) rfl b (o+k * 2) rfl _ _ HG.out Tryz.underlying59 rfl (by kernel_rfl) ?_) | (go_at_call 33;refine (CS _).mono ?_;rintro e w' ⟨rfl,rfl⟩))
       go_quiet ((go_at_call 34;exact Calls.quiet_of_same ((CM _).mono fun _ _ h=>⟨h.1,h.2.symm⟩)))
       go_wp2
       go_ret2
       exact (H _).out
     ·have CS:∀ w,Calls Tryz.prog 33 #[.int .u8 111] w fun e w'=>e=.returned (.int .i64 0)∧w=w':=fun w=>rsize_any 111 w
      have hcI:(s[k].toNat:Int)=111:=by omega
      have HR1:Hid (Rd (wr.alloc (.cells #[.int .i64 n,.slice Af lf cf] 59)) (.slice Af lf cf) bs):=Lib.hid (HRD.out.1.below HP3.out.bel (Nat.le_refl _))
      have hle:=HRD.out.2
      by_cases h3:lf=32
      ·have hfit:Oc.fits s[k].toNat n lf=true:=by rw [hc];exact decide_eq_true h3
       have HO2:=Lib.hid (HYES.out hfit)
       have HEN:Hid (Oc.enc s[k].toNat n bs=bs):=Lib.hid (by rw [hc];rfl)
       have HZ:Hid ((Oc.encs (s.data.toList.take k) (fs.take k)).length+bs.length≤70368744177664):=Lib.hid (by have h:=HLEN.out;rw [List.length_take] at h;omega)
       subst h3
       clear hfit hkl
       go_wp2_with (first | (refine wpList_load_mid rfl 59 (.tmp 24) rfl b (o+k * 2) rfl _ _ HG.out Tryz.underlying59 rfl (by kernel_rfl) ?_) | (go_at_call 33;refine (CS _).mono ?_;rintro e w' ⟨rfl,rfl⟩) | (refine wpList_appendB rfl (.tmp 74) (.tmp 76) rfl w.heap.size _ (Oc.encs (s.data.toList.take k) (fs.take k)) rfl HP3.out.own HP3.out.bel.size _ rfl bs HR1.out HZ.out ?_;intro v2 w2 ho2 hg2;have HP5:Hid (Pad w.heap.size w v2 ((Oc.encs (s.data.toList.take k) (fs.take k))++bs) w2):=Lib.hid ⟨ho2,below_own HP3.out.bel HP3.out.own (Nat.le_refl _) hg2⟩;clear ho2 hg2))
       rw [←HEN.out,←HENC.out] at HP5
       go_roundw
       case rel=>exact ⟨k+1,by omega,by go_num,HP5,HO2⟩
       case measure=>simp [intOf];omega
      ·have hfit:Oc.fits s[k].toNat n lf=false:=by rw [hc];exact decide_eq_false h3
       have H:∀ m,Hid (RWritePost s fs w (.returned (.tuple #[.slice none 0 0,.int .i64 1])) ((wr.alloc (.cells #[.int .i64 n,.slice Af lf cf] 59)).drewN m)):=fun m=>Lib.hid (HBAD.out m hfit)
       have b3:((lf:Int) != 32)=true:=by simp;omega
       clear hfit hkl
       go_wp2_with (first | (refine wpList_load_mid rfl 59 (.tmp 24) rfl b (o+k * 2) rfl _ _ HG.out Tryz.underlying59 rfl (by kernel_rfl) ?_) | (go_at_call 33;refine (CS _).mono ?_;rintro e w' ⟨rfl,rfl⟩))
       go_ret2
       exact (H 0).out
     ·have CS:∀ w,Calls Tryz.prog 33 #[.int .u8 116] w fun e w'=>e=.returned (.int .i64 0)∧w=w':=fun w=>rsize_any 116 w
      have hcI:(s[k].toNat:Int)=116:=by omega
      have HR1:Hid (Rd (wr.alloc (.cells #[.int .i64 n,.slice Af lf cf] 59)) (.slice Af lf cf) bs):=Lib.hid (HRD.out.1.below HP3.out.bel (Nat.le_refl _))
      have hle:=HRD.out.2
      by_cases h3:lf≤65535
      ·have hfit:Oc.fits s[k].toNat n lf=true:=by rw [hc];exact decide_eq_true h3
       have HO2:=Lib.hid (HYES.out hfit)
       have HEN:Hid (Oc.enc s[k].toNat n bs=Oc.nums 2 lf++bs):=Lib.hid (by rw [hc,←hle];rfl)
       have HZ:Hid ((Oc.encs (s.data.toList.take k) (fs.take k)).length+(Oc.nums 2 lf).length≤70368744177664):=Lib.hid (by have h:=HLEN.out;rw [List.length_take] at h;rw [Oc.nums_len];omega)
       have HZ2:Hid (((Oc.encs (s.data.toList.take k) (fs.take k))++Oc.nums 2 lf).length+bs.length≤70368744177664):=Lib.hid (by have h:=HLEN.out;rw [List.length_take] at h;rw [List.length_append,Oc.nums_len];omega)
       have CN:=fun w'=>rnum_any 2 lf w' (by omega) (by omega)
       simp only [show ((2:Nat):Int)=2 from rfl] at CN
       have i6:¬(65535:Int) < (lf:Int):=by omega
       clear hfit hkl
       go_wp2_with (first
        | (refine wpList_load_mid rfl 59 (.tmp 24) rfl b (o+k * 2) rfl _ _ HG.out Tryz.underlying59 rfl (by kernel_rfl) ?_) | (go_at_call 33;refine (CS _).mono ?_;rintro e w' ⟨rfl,rfl⟩)
        | (refine wpList_appendB rfl (.tmp 68) (.tmp 72) rfl w.heap.size _ (Oc.encs (s.data.toList.take k) (fs.take k)) rfl HP4.out.own HP4.out.bel.size _ rfl (Oc.nums 2 lf) HR2.out HZ.out ?_;intro v2 w2 ho2 hg2;have HP5:Hid (Pad w.heap.size w v2 ((Oc.encs (s.data.toList.take k) (fs.take k))++Oc.nums 2 lf) w2):=Lib.hid ⟨ho2,below_own HP4.out.bel HP4.out.own (Nat.le_refl _) hg2⟩;have pB2:w2.cell? ⟨wr.heap.size,1,none⟩=some (.slice Af lf cf):=Blk.cell ((HOT.out.own HP4.out.own hg2) _ _ _ _ (by decide) (Blk.new wr _ _)) 1;clear ho2 hg2)
        | (refine wpList_appendB rfl (.tmp 74) (.tmp 76) rfl w.heap.size _ ((Oc.encs (s.data.toList.take k) (fs.take k))++Oc.nums 2 lf) rfl HP5.out.own HP5.out.bel.size _ rfl bs (HRD.out.1.below HP5.out.bel (Nat.le_refl _)) HZ2.out ?_;intro v3 w3 ho3 hg3;have HP6:Hid (Pad w.heap.size w v3 ((Oc.encs (s.data.toList.take k) (fs.take k))++Oc.nums 2 lf++bs) w3):=Lib.hid ⟨ho3,below_own HP5.out.bel HP5.out.own (Nat.le_refl _) hg3⟩;clear ho3 hg3)
        | (go_at_call 35;refine (CN _).mono ?_;rintro e w' ⟨v',rfl,hr,hb⟩;have HR2:=Lib.hid hr;have HP4:=Lib.hid (Pad.step HP3.out hb);have HOT:=Lib.hid (Others.of_below hb);clear hr hb))
       rw [List.append_assoc,←HEN.out,←HENC.out] at HP6
       go_roundw
       case rel=>exact ⟨k+1,by omega,by go_num,HP6,HO2⟩
       case measure=>simp [intOf];omega
      ·have hfit:Oc.fits s[k].toNat n lf=false:=by rw [hc];exact decide_eq_false h3
       have H:∀ m,Hid (RWritePost s fs w (.returned (.tuple #[.slice none 0 0,.int .i64 1])) ((wr.alloc (.cells #[.int .i64 n,.slice Af lf cf] 59)).drewN m)):=fun m=>Lib.hid (HBAD.out m hfit)
       have i6:(65535:Int) < (lf:Int):=by omega
       clear hfit hkl
       go_wp2_with (first | (refine wpList_load_mid rfl 59 (.tmp 24) rfl b (o+k * 2) rfl _ _ HG.out Tryz.underlying59 rfl (by kernel_rfl) ?_) | (go_at_call 33;refine (CS _).mono ?_;rintro e w' ⟨rfl,rfl⟩))
       go_ret2
       exact (H 0).out
    ·obtain rfl:k=fs.length:=by omega
     have H:Hid (RWritePost s fs w (.returned (.tuple #[u6,.int .i64 0])) wr):=Lib.hid ⟨HP.out.bel,fun h=>(by rw [←HKN.out] at h;cases h),fun _ h=>(by rcases h with h | h;exact absurd hn h;exact absurd (hn▸HO.out) h),fun _ _ _=>⟨_,rfl,by
      have h:=HP.out
      rwa [List.take_of_length_le (by simp;omega),List.take_of_length_le (Nat.le_refl _)] at h⟩⟩
     go_wp2
     go_ret2
     exact H.out
  ·have H:Hid (RWritePost s fs w (.returned (.tuple #[.slice none 0 0,.int .i64 1])) w):=Lib.hid ⟨Below.refl _ _,fun h=>(by rw [←HKN.out] at h;cases h),fun _ _=>rfl,fun _ h _=>absurd h hn⟩
   have b1:((s.size:Int) != (fs.length:Int))=true:=by simp;omega
   go_enter Tryz.func17,Tryz.ntmps17
   go_wp2_with (go_at_call 32;refine (C1 _ (by omega)).mono ?_;rintro e w' ⟨rfl,rfl⟩)
   go_ret2
   exact H.out
end Go.Proofs.YtndgadjeeinedaaGreatDoor
/- Reading, from below: how an In ends (end, Fail), goes on (next), what is left (Left), a copy of bytes (bytes.Clone). -/
namespace Go.Proofs.YtndgadjeeinedaaGreatDoor
open Go Go.RowKit
abbrev stopV (r:Nat):Value:=.iface 142 (.agg #[.pointer (some ⟨r,0,none⟩)])
structure Rdg (w:World) (i r:Nat) (v:Value):Prop where
 i_:Blk w i 141 #[.pointer (some ⟨r,0,none⟩)]
 r_:Blk w r 135 #[v,.bool true,.bool false,.nilIface]
 ne:i≠r
def Dead (w:World) (r:Nat) (e:Value):Prop:=∃ v,Blk w r 135 #[v,.bool true,.bool true,e]
theorem Dead.grown {w w':World} {r:Nat} {e:Value} (h:Dead w r e) (k:Below w.heap.size w w'):Dead w' r e:=by
 obtain ⟨v,h⟩:=h
 exact ⟨v,h.below k h.lt⟩
def Fails (w:World) (r:Nat) (er:Value) (e:Ending) (w':World):Prop:=e=.panicked [{ v:=stopV r,recovered:=false }]∧Dead w' r er∧w.grownBy w' (some r)
def InAt (w0 w:World) (i r:Nat) (xs:List Nat):Prop:=∃ v,Rdg w i r v∧Rd w0 v xs∧Below w0.heap.size w0 w∧w0.heap.size≤r∧w0.heap.size≤i
theorem below_then {w0 w w':World} (h:Below w0.heap.size w0 w) (k:Below w.heap.size w w'):Below w0.heap.size w0 w':=
 ⟨k.os.trans h.os,k.tape.trans h.tape,k.output.trans h.output,Nat.le_trans h.size k.size,fun i hi=>(k.block i (Nat.lt_of_lt_of_le hi h.size)).trans (h.block i hi)⟩
theorem InAt.below {w0 w w':World} {i r:Nat} {xs:List Nat} (h:InAt w0 w i r xs) (hb:Below w.heap.size w w'):InAt w0 w' i r xs:=by
 obtain ⟨v,k,hr,hw,h1,h2⟩:=h
 exact ⟨v,⟨k.i_.below hb k.i_.lt,k.r_.below hb k.r_.lt,k.ne⟩,hr,below_then hw hb,h1,h2⟩
theorem InAt.lt {w0 w:World} {i r:Nat} {xs:List Nat} (h:InAt w0 w i r xs):r < w.heap.size:=by
 obtain ⟨v,k,_⟩:=h
 exact k.r_.lt
theorem InAt.bel {w0 w:World} {i r:Nat} {xs:List Nat} (h:InAt w0 w i r xs):Below w0.heap.size w0 w∧w0.heap.size≤r:=by
 obtain ⟨v,k,hr,hw,h1,h2⟩:=h
 exact ⟨hw,h1⟩
theorem RdB.rd {w:World} {p:Nat} {v:Value} {xs:List Nat} (h:RdB w p v xs):Rd w v xs:=by
 obtain ⟨A,c,h1,h2,h3⟩:=h
 exact ⟨A,c,h1,h2,fun h0=>by obtain ⟨b,o,g1,_,g3,g4⟩:=h3 h0;exact ⟨b,o,g1,g3,g4⟩⟩
theorem Rd.cut {w:World} {A:Option Addr} {n c:Nat} {xs:List Nat} (h:Rd w (.slice A n c) xs) {k:Nat} (hk:k≤xs.length) :
  Rd w (.slice (if c=k then A else A.map (·.add k)) (n - k) (c - k)) (xs.drop k):=((h.out (Nat.le_refl _)).cut hk).rd
theorem oend_any (r:Nat) (v:Value) (ae:Addr) (w:World) (h:Blk w r 135 #[v,.bool true,.bool false,.nilIface]) :
  Calls Tryz.prog 64 #[.pointer (some ⟨r,0,none⟩),(ev ae)] w fun e w'=>e=.returned (.tuple #[])∧Blk w' r 135 #[v,.bool true,.bool true,(ev ae)]∧w.grownBy w' (some r):=by
 have c2:w.cell? ⟨r,2,none⟩=some (.bool false):=h.cell 2
 have c3:w.cell? ⟨r,3,none⟩=some .nilIface:=h.cell 3
 have z2:=h.frozen 2
 have z3:=h.frozen 3
 have HB:Hid (Blk ((w.setCell ⟨r,2,none⟩ (.bool true)).setCell ⟨r,3,none⟩ (ev ae)) r 135 #[v,.bool true,.bool true,(ev ae)]):=Lib.hid (by
  have h2:=(h.set_ 2 (.bool true)).set_ 3 (ev ae)
  simp only [List.setIfInBounds_toArray,List.set_cons_zero,List.set_cons_succ] at h2
  exact h2)
 have HG:Hid (w.grownBy ((w.setCell ⟨r,2,none⟩ (.bool true)).setCell ⟨r,3,none⟩ (ev ae)) (some r)):=Lib.hid (only_setCell (p:=⟨r,3,none⟩) (only_setCell (p:=⟨r,2,none⟩) (World.grownBy.refl w (some r)) (Or.inl rfl) _) (Or.inl rfl) _)
 clear h
 go_enter Tryz.func64,Tryz.ntmps64
 go_wp2
 go_end0
 exact ⟨rfl,HB.out,HG.out⟩
theorem fail_any (i r:Nat) (v:Value) (ae:Addr) (w:World) (h:Rdg w i r v) :
  Calls Tryz.prog 42 #[.pointer (some ⟨i,0,none⟩),ev ae] w (Fails w r (ev ae)):=by
 have c0:w.cell? ⟨i,0,none⟩=some (.pointer (some ⟨r,0,none⟩)):=h.i_.cell 0
 have c1:w.cell? ⟨r,1,none⟩=some (.bool true):=h.r_.cell 1
 have CE:=oend_any r v ae w h.r_
 have HI:=Lib.hid h.i_
 have hne:=h.ne
 clear h
 go_enter Tryz.func42,Tryz.ntmps42
 go_wp2_with (go_at_call 64;refine CE.mono ?_;rintro e w' ⟨rfl,hB,hG⟩;have HB:=Lib.hid hB;have HG:=Lib.hid hG;have c2:w'.cell? ⟨i,0,none⟩=some (.pointer (some ⟨r,0,none⟩)):=(HI.out.grown hG (by intro e;injection e with e;exact hne e)).cell 0;clear hB hG)
 exact ⟨rfl,rfl,⟨v,HB.out⟩,HG.out⟩
theorem left_any (i r:Nat) (xs:List Nat) (w0 w:World) (h:InAt w0 w i r xs) :
  Calls Tryz.prog 87 #[.pointer (some ⟨i,0,none⟩)] w fun e w'=>e=.returned (.int .i64 (xs.length:Int))∧w=w':=by
 obtain ⟨v,h,hr,_⟩:=h
 obtain ⟨A,c,rfl,_,_⟩:=hr
 have c0:w.cell? ⟨i,0,none⟩=some (.pointer (some ⟨r,0,none⟩)):=h.i_.cell 0
 have c1:w.cell? ⟨r,0,none⟩=some (.slice A xs.length c):=h.r_.cell 0
 clear h
 go_enter Tryz.func87,Tryz.ntmps87
 go_wp2
 go_ret
 exact ⟨rfl,rfl⟩
theorem Rd.cutHi {w:World} {A:Option Addr} {n c:Nat} {xs:List Nat} (h:Rd w (.slice A n c) xs) {k:Nat} (hk:k≤xs.length):Rd w (.slice A k c) (xs.take k):=by
 obtain ⟨A',c',hv,hc,hA⟩:=h
 injection hv with e1 e2 e3
 subst e1 e2 e3
 have hl:(xs.take k).length=k:=by rw [List.length_take];omega
 refine ⟨_,_,by rw [hl],by rw [hl];omega,fun h0=>?_⟩
 rw [hl] at h0
 obtain ⟨b,o,ha,hlt,hx⟩:=hA (by omega)
 refine ⟨b,o,ha,hlt,fun i hi=>?_⟩
 rw [hl] at hi
 rw [hx i (by omega)]
 simp [List.getD,hi]
theorem run_sliceHi {P:Program} {t e:TypeId} (ht:P.underlying t=some (.slice e)) (hi:(P.info? e).map (·.size)=some 1) (A:Option Addr) (len cap h:Nat) (h1:h≤cap)
  {x:Int} (el:x=h) (w:World) :
  (Instr.slice t (.slice A len cap) none (some (.int .i64 x)) none).run P w=.ok (.slice A h cap) w:=by
 subst el
 cases hq:P.info? e with
 | none=>simp [hq] at hi
 | some i=>
  have hs:i.size=1:=by simpa [hq] using hi
  have hn:((h:Nat):Int)≤cap:=by omega
  cases A<;>simp [Instr.slice,run_underlying ht,Instr.sliceBounds,run_sliceBound,sizeOf,typeInfo,hq,hn,Addr.add]
theorem run_sliceLoS {P:Program} {t e:TypeId} (ht:P.underlying t=some (.slice e)) (hi:(P.info? e).map (·.size)=some 1) (A:Option Addr) (len cap l:Nat) (h1:l≤len)
  {lo:Int} (el:lo=l) (w:World) :
  (Instr.slice t (.slice A len cap) (some (.int .i64 lo)) none none).run P w=.ok (.slice (if cap=l then A else A.map (·.add l)) (len - l) (cap - l)) w:=by
 subst el
 cases hq:P.info? e with
 | none=>simp [hq] at hi
 | some i=>
  have hs:i.size=1:=by simpa [hq] using hi
  have hn:((l:Nat):Int)≤len:=by omega
  simp [Instr.slice,run_underlying ht,Instr.sliceBounds,run_sliceBound,sizeOf,typeInfo,hq,hs,hn]
theorem next_ok (i r n:Nat) (xs:List Nat) (w0 w:World) (h:InAt w0 w i r xs) (hn:n≤xs.length) :
  Calls Tryz.prog 78 #[.pointer (some ⟨i,0,none⟩),.int .i64 (n:Int)] w fun e w'=>∃ v,e=.returned v∧Rd w0 v (xs.take n)∧InAt w0 w' i r (xs.drop n)∧w.grownBy w' (some r):=by
 obtain ⟨v,h,hr,hw0,hr0,hi0⟩:=h
 have HR:=Lib.hid hr
 obtain ⟨A,c,rfl,hc,hA⟩:=hr
 clear hA
 have c0:w.cell? ⟨i,0,none⟩=some (.pointer (some ⟨r,0,none⟩)):=h.i_.cell 0
 have c1:w.cell? ⟨r,0,none⟩=some (.slice A xs.length c):=h.r_.cell 0
 have c2:w.cell? ⟨r,1,none⟩=some (.bool true):=h.r_.cell 1
 have c3:w.cell? ⟨r,2,none⟩=some (.bool false):=h.r_.cell 2
 have z0:=h.r_.frozen 0
 have i1:¬(xs.length:Int) < (n:Int):=by omega
 have q1:∀ w',(Instr.slice 25 (.slice A xs.length c) none (some (.int .i64 (n:Int))) none).run Tryz.prog w'=.ok (.slice A n c) w':=fun w'=>run_sliceHi Tryz.underlying25 (by kernel_rfl) A xs.length c n (by omega) rfl w'
 have q2:∀ w',(Instr.slice 25 (.slice A xs.length c) (some (.int .i64 (n:Int))) none none).run Tryz.prog w'=.ok (.slice (if c=n then A else A.map (·.add n)) (xs.length - n) (c - n)) w':=fun w'=>run_sliceLoS Tryz.underlying25 (by kernel_rfl) A xs.length c n hn rfl w'
 obtain ⟨A2,hA2⟩:∃ A2,A2=(if c=n then A else A.map (·.add n)):=⟨_,rfl⟩
 rw [←hA2] at q2
 have HG:∀ m,Hid (w.grownBy ((w.setCell ⟨r,0,none⟩ (.slice A2 (xs.length - n) (c - n))).drewN m) (some r)):=fun m=>Lib.hid (only_drewN (only_setCell (World.grownBy.refl w _) (Or.inl rfl) _) m)
 have HI:∀ m,Hid (InAt w0 ((w.setCell ⟨r,0,none⟩ (.slice A2 (xs.length - n) (c - n))).drewN m) i r (xs.drop n)):=fun m=>Lib.hid ⟨_,⟨(h.i_.far h.ne _).drewN m,(h.r_.set_ 0 _).drewN m,h.ne⟩,by have hq:=HR.out.cut hn;rw [←hA2] at hq;exact hq,below_of_only hw0 (HG m).out hr0,hr0,hi0⟩
 have HV:Hid (Rd w0 (.slice A n c) (xs.take n)):=Lib.hid (HR.out.cutHi hn)
 clear h hA2
 go_enter Tryz.func78,Tryz.ntmps78
 go_wp2
 go_region
 go_wp2
 go_ret
 exact ⟨_,rfl,HV.out,(HI 1).out,(HG 1).out⟩
end Go.Proofs.YtndgadjeeinedaaGreatDoor
/- Deltas as lists of bytes: the steps behind the sizes, the text that they make of a base, the copies and fresh bytes of a target; what is made so makes the target. -/
namespace Go.Proofs.YtndgadjeeinedaaGreatDoor.Dl
open Go.Proofs.YtndgadjeeinedaaGreatDoor
def at0 (d:List Nat) (p:Nat):Nat:=d.getD p 0
def two (d:List Nat) (p:Nat):Nat:=at0 d p * 256+at0 d (p+1)
inductive Ev where
 | bad (short:Bool)
 | copy (n src:Nat)
 | fresh (n pos:Nat)
def evAt (d:List Nat) (p:Nat):Ev×Nat:=
 if at0 d p % 128=0 then (.bad false,0)
 else if at0 d p < 128 then (if d.length < p+1+at0 d p then (.bad true,0) else (.fresh (at0 d p) (p+1),1+at0 d p))
 else (if d.length < p+3 then (.bad true,0) else (.copy (at0 d p - 128) (two d (p+1)),3))
theorem evAt_pos {d:List Nat} {p:Nat} (h:∀ s,(evAt d p).1≠.bad s):0 < (evAt d p).2:=by
 have:(∃ s,(evAt d p).1=.bad s)∨0 < (evAt d p).2:=by
  unfold evAt
  split
  ·exact .inl ⟨_,rfl⟩
  ·split
   ·split
    ·exact .inl ⟨_,rfl⟩
    ·exact .inr (show 0 < 1+at0 d p by omega)
   ·split
    ·exact .inl ⟨_,rfl⟩
    ·exact .inr (show 0 < 3 by omega)
 rcases this with ⟨s,e⟩ | e
 ·exact absurd e (h s)
 ·exact e
def evsF (d:List Nat):Nat→Nat→List Ev
 | 0,_=>[]
 | f+1,p=>if p < d.length then
   match evAt d p with
   | (.bad s,_)=>[.bad s]
   | (e,k)=>e::evsF d f (p+k)
  else []
theorem evsF_succ (d:List Nat) (f p:Nat):evsF d (f+1) p=if p < d.length then
   match evAt d p with
   | (.bad s,_)=>[.bad s]
   | (e,k)=>e::evsF d f (p+k)
  else []:=rfl
theorem evsF_more (d:List Nat):∀ (f p:Nat),d.length≤p+f→∀ g,f≤g→evsF d g p=evsF d f p
 | 0,p,h,g,_=>by
  cases g with
  | zero=>rfl
  | succ g=>rw [evsF_succ,if_neg (by omega)];rfl
 | f+1,p,h,g,hg=>by
  cases g with
  | zero=>omega
  | succ g=>
   rw [evsF_succ,evsF_succ]
   by_cases hp:p < d.length
   ·rw [if_pos hp,if_pos hp]
    have hk:(∀ s,(evAt d p).1≠.bad s)→0 < (evAt d p).2:=evAt_pos
    rcases he:evAt d p with ⟨e,k⟩
    rw [he] at hk
    cases e with
    | bad s=>rfl
    | copy n s=>
     have:=hk (by intro s' h';cases h')
     show Ev.copy n s::evsF d g (p+k)=Ev.copy n s::evsF d f (p+k)
     rw [evsF_more d f (p+k) (by simp at this;omega) g (by omega)]
    | fresh n s=>
     have:=hk (by intro s' h';cases h')
     show Ev.fresh n s::evsF d g (p+k)=Ev.fresh n s::evsF d f (p+k)
     rw [evsF_more d f (p+k) (by simp at this;omega) g (by omega)]
   ·rw [if_neg hp,if_neg hp]
def evs (d:List Nat) (p:Nat):List Ev:=evsF d (d.length - p) p
theorem evs_end {d:List Nat} {p:Nat} (h:d.length≤p):evs d p=[]:=by
 unfold evs;rw [show d.length - p=0 by omega];rfl
theorem evs_bad {d:List Nat} {p k:Nat} {s:Bool} (h:p < d.length) (he:evAt d p=(.bad s,k)):evs d p=[.bad s]:=by
 unfold evs
 obtain ⟨f,hf⟩:∃ f,d.length - p=f+1:=⟨d.length - p - 1,by omega⟩
 rw [hf,evsF_succ,if_pos h,he]
theorem evs_step {d:List Nat} {p k:Nat} {e:Ev} (h:p < d.length) (he:evAt d p=(e,k)) (hb:∀ s,e≠.bad s):evs d p=e::evs d (p+k):=by
 have hk:=evAt_pos (d:=d) (p:=p) (by rw [he];exact hb)
 rw [he] at hk
 unfold evs
 obtain ⟨f,hf⟩:∃ f,d.length - p=f+1:=⟨d.length - p - 1,by omega⟩
 rw [hf,evsF_succ,if_pos h,he]
 cases e with
 | bad s=>exact absurd rfl (hb s)
 | copy n s=>show _::evsF d f (p+k)=_;rw [evsF_more d (d.length - (p+k)) (p+k) (by omega) f (by simp at hk;omega)]
 | fresh n s=>show _::evsF d f (p+k)=_;rw [evsF_more d (d.length - (p+k)) (p+k) (by omega) f (by simp at hk;omega)]
def okE (d:List Nat):Ev→Prop
 | .bad _=>True
 | .copy n f=>0 < n∧n≤127∧f≤65535
 | .fresh n q=>0 < n∧n≤127∧q+n≤d.length
theorem evAt_ok {d:List Nat} (hb:∀ i,d.getD i 0 < 256) (p:Nat):okE d (evAt d p).1:=by
 have h0:=hb p
 have h1:=hb (p+1)
 have h2:=hb (p+1+1)
 unfold evAt two
 simp only [←show at0 d p=d.getD p 0 from rfl,←show at0 d (p+1)=d.getD (p+1) 0 from rfl,←show at0 d (p+1+1)=d.getD (p+1+1) 0 from rfl] at h0 h1 h2
 split
 ·trivial
 ·split
  ·split
   ·trivial
   ·exact ⟨by omega,by omega,by omega⟩
  ·split
   ·trivial
   ·exact ⟨by omega,by omega,by omega⟩
open Classical in
noncomputable def norm (d:List Nat) (e:Ev):Ev:=if okE d e then e else .bad false
theorem norm_ok {d:List Nat} {e:Ev} (h:okE d e):norm d e=e:=by unfold norm;rw [if_pos h]
theorem ok_norm (d:List Nat) (e:Ev):okE d (norm d e):=by
 unfold norm
 split
 ·assumption
 ·trivial
theorem evs_norm {d:List Nat} (hb:∀ i,d.getD i 0 < 256) (p:Nat):(evs d p).map (norm d)=evs d p:=by
 unfold evs
 generalize d.length - p=f
 induction f generalizing p with
 | zero=>rfl
 | succ f ih=>
  rw [evsF_succ]
  have h:=evAt_ok hb p
  split
  ·rcases he:evAt d p with ⟨e,k⟩
   rw [he] at h
   cases e with
   | bad s=>simp [norm_ok h]
   | copy n s=>simp [norm_ok h,ih]
   | fresh n s=>simp [norm_ok h,ih]
  ·rfl
inductive Res where
 | err (k:Nat)
 | ok (l:List Nat)
def runE (base d:List Nat) (to:Nat):List Ev→List Nat→Res
 | [],out=>if out.length < to then .err 1 else .ok out
 | .bad s::_,_=>.err (if s then 1 else 3)
 | .copy n f::r,out=>if base.length < f+n then .err 0 else if to < out.length+n then .err 2 else runE base d to r (out++(base.drop f).take n)
 | .fresh n p::r,out=>if to < out.length+n then .err 2 else runE base d to r (out++(d.drop p).take n)
def count:List Ev→Nat→Nat→Option (Nat×Nat)
 | [],a,b=>some (a,b)
 | .bad _::_,_,_=>none
 | .copy _ _::r,a,b=>count r (a+1) b
 | .fresh _ _::r,a,b=>count r a (b+1)
end Go.Proofs.YtndgadjeeinedaaGreatDoor.Dl
