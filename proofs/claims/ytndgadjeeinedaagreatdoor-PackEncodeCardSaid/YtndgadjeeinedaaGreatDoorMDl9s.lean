/- delta.longest. -/
import Derived.Test.YtndgadjeeinedaaGreatDoorMDl6s
import Derived.Test.YtndgadjeeinedaaGreatDoorMBases
import Derived.RangeFuncNested
import Derived.RangeFuncBound
import Derived.RangeFuncCalls
import Derived.RangeFuncLeaves
namespace Go.Proofs.YtndgadjeeinedaaGreatDoor
open Go Go.RowKit
theorem sl_hi (b o len cap h : Nat) (w : World) (h1 : h ≤ cap) {hi : Int} (eh : hi = h) :
    (Instr.slice 25 (.slice (some ⟨b, o, none⟩) len cap) none (some (.int .i64 hi)) none).run Tryz.prog w = .ok (.slice (some ⟨b, o, none⟩) h cap) w := by
  subst eh
  cases hq : Tryz.prog.info? 5 with
  | none => have h : (Tryz.prog.info? 5).map (·.size) = some 1 := by kernel_rfl
            simp [hq] at h
  | some i =>
    have hs : i.size = 1 := by have h : (Tryz.prog.info? 5).map (·.size) = some 1 := by kernel_rfl
                               simpa [hq] using h
    have hm : ((h : Nat) : Int) ≤ cap := by omega
    simp [Instr.slice, run_underlying Tryz.underlying25, Instr.sliceBounds, run_sliceBound, sizeOf, typeInfo, hq, hm, Addr.add]
theorem sl_any (A : Option Addr) (len cap l : Nat) (h1 : l ≤ len) {lo : Int} (el : lo = l) : ∃ A2, (∀ w, (Instr.slice 25 (.slice A len cap) (some (.int .i64 lo)) none none).run Tryz.prog w = .ok (.slice A2 (len - l) (cap - l)) w) := by
  subst el
  cases hq : Tryz.prog.info? 5 with
  | none => have h : (Tryz.prog.info? 5).map (·.size) = some 1 := by kernel_rfl
            simp [hq] at h
  | some i =>
    have hs : i.size = 1 := by have h : (Tryz.prog.info? 5).map (·.size) = some 1 := by kernel_rfl
                               simpa [hq] using h
    have hn : ((l : Nat) : Int) ≤ len := by omega
    refine ⟨if cap = l then A else A.map (·.add l), fun w => ?_⟩
    cases A <;> by_cases hc : cap = l <;> simp [Instr.slice, run_underlying Tryz.underlying25, Instr.sliceBounds, run_sliceBound, sizeOf, typeInfo, hq, hs, hn, hc]
theorem Rd.at_ {w:World} {A:Option Addr} {n c:Nat} {xs:List Nat} (h:Rd w (.slice A n c) xs) (h0:0 < xs.length):∃ b o,A=some ⟨b,o,none⟩∧b < w.heap.size:=by
 obtain ⟨_,_,b,o,e,hb,_⟩:=h.blk h0
 exact ⟨b,o,e,hb⟩
theorem map_getD (xs:List Nat) (i:Nat):(xs.map fun (n:Nat)=>(n:Int)).getD i 0=((xs.getD i 0:Nat):Int):=by
 simp only [List.getD_eq_getElem?_getD,List.getElem?_map]
 cases xs[i]?<;>rfl
theorem index_any (b o n c b2 o2 k c2:Nat) (xs ys:List Nat) (m:Int) (w:World) (hx:Rd w (.slice (some ⟨b,o,none⟩) n c) xs) (hy:Rd w (.slice (some ⟨b2,o2,none⟩) k c2) ys) (bx:Sha.Byte xs) (by_:Sha.Byte ys) (hl:xs.length≤1000000) (hk:ys.length≤1000000)
  (hm:w.cell? ⟨23,0,none⟩=some (.int .i64 m)) :
  Calls Tryz.prog 91 #[.slice (some ⟨b,o,none⟩) n c,.slice (some ⟨b2,o2,none⟩) k c2] w fun e w'=>e=.returned (.int .i64 (Lib.index (xs.map UInt8.ofNat) (ys.map UInt8.ofNat)))∧∃ q,w'=w.drewN q:=by
 have cel:∀ {b o n c:Nat} {xs:List Nat},Rd w (.slice (some ⟨b,o,none⟩) n c) xs→n=xs.length∧xs.length≤c∧∀ i,i < n→w.cell? ((⟨b,o,none⟩:Addr).add i)=some (.int .u8 ((xs.map fun (n:Nat)=>(n:Int)).getD i 0)):=fun {b o n c xs} h=>by
  obtain ⟨A',c',hv,hc,hA⟩:=h
  injection hv with e1 e2 e3
  subst e2 e3
  refine ⟨rfl,hc,fun i hi=>?_⟩
  obtain ⟨b',o',ha,_,hx⟩:=hA (by omega)
  rw [ha] at e1
  injection e1 with e1
  injection e1 with e4 e5
  subst e4 e5
  rw [Addr.add_mid,hx i hi,map_getD]
 obtain ⟨rfl,hc1,h1⟩:=cel hx
 obtain ⟨rfl,hc2,h2⟩:=cel hy
 rw [←Dl.bytesOf_nats xs,←Dl.bytesOf_nats ys]
 have rng:∀ {l:List Nat},Sha.Byte l→∀ x∈(l.map fun (n:Nat)=>(n:Int)),0≤x∧x < 256:=fun {l} hb x hx=>by
  obtain ⟨n,hn,rfl⟩:=List.mem_map.1 hx
  have:=Dl.mem_byte hb n hn
  omega
 exact Tryz.bytes_Index_at ⟨b,o,none⟩ ⟨b2,o2,none⟩ xs.length c ys.length c2 (xs.map fun (n:Nat)=>(n:Int)) (ys.map fun (n:Nat)=>(n:Int)) m w (by simp) (by simp) (rng bx) (rng by_) h1 h2 hc1 (by omega) (by omega) hm
theorem longest_short (A:Option Addr) (nb cb:Nat) (B:Option Addr) (nt ct:Nat) (w:World) (h:nt < 4) :
  Calls Tryz.prog 73 #[.slice A nb cb,.slice B nt ct] w fun e w'=>e=.returned (.agg #[.int .i64 0,.slice none 0 0,.int .i64 0])∧Below w.heap.size w w':=by
 have h1:(nt:Int) < 4:=by omega
 clear h
 go_enter Tryz.func73,Tryz.ntmps73
 go_wp2
 refine bodyPost_ret (v:=.agg #[.int .i64 0,.slice none 0 0,.int .i64 0]) (by simp [results,Tryz.results73,go_sem]) rfl ⟨rfl,?_⟩
 exact (((Below.refl _ w).alloc (Nat.le_refl _) _).alloc (by simp) _)
def LongI (B:Nat) (w:World) (s:Nat×Nat) (wr:World):Prop:=
 Blk wr B 111 #[.int .i64 0,.slice none 0 0,.int .i64 0]∧Blk wr (B+1) 111 #[.int .i64 (s.1:Int),.slice none 0 0,.int .i64 (s.2:Int)]∧Below B w wr
theorem LongI.put {B:Nat} {w wr:World} {s:Nat×Nat} (h:LongI B w s wr) (n q f:Nat):LongI B w (q,f) ((((wr.drewN n).setCell ⟨B+1,0,none⟩ (.int .i64 (q:Int))).setCell ⟨B+1,1,none⟩ (.slice none 0 0)).setCell ⟨B+1,2,none⟩ (.int .i64 (f:Int))):=by
 refine ⟨(((h.1.drewN n).far (p:=⟨B+1,0,none⟩) (by show B≠B+1;omega) _).far (p:=⟨B+1,1,none⟩) (by show B≠B+1;omega) _).far (p:=⟨B+1,2,none⟩) (by show B≠B+1;omega) _,?_,?_⟩
 ·have h2:=(((h.2.1.drewN n).set_ 0 (.int .i64 (q:Int))).set_ 1 (.slice none 0 0)).set_ 2 (.int .i64 (f:Int))
  simpa only [List.setIfInBounds_toArray,List.set_cons_zero,List.set_cons_succ] using h2
 ·exact (((below_drewN h.2.2 n).setCell (p:=⟨B+1,0,none⟩) (by show B≤B+1;omega) _).setCell (p:=⟨B+1,1,none⟩) (by show B≤B+1;omega) _).setCell (p:=⟨B+1,2,none⟩) (by show B≤B+1;omega) _
set_option maxRecDepth 100000 in
set_option maxHeartbeats 2000000 in
theorem longest_any (A:Option Addr) (nb cb:Nat) (b2 o2 nt ct:Nat) (base text:List Nat) (mx:Int) (w:World) (hB:Rd w (.slice A nb cb) base) (hT:Rd w (.slice (some ⟨b2,o2,none⟩) nt ct) text) (bb:Sha.Byte base) (bt:Sha.Byte text)
  (lb:base.length≤1000000) (lt:text.length≤1000000) (h4:4≤text.length) (hm:w.cell? ⟨23,0,none⟩=some (.int .i64 mx)) :
  Calls Tryz.prog 73 #[.slice A nb cb,.slice (some ⟨b2,o2,none⟩) nt ct] w fun e w'=>e=.returned (.agg #[.int .i64 ((Dl.lg base text).1:Int),.slice none 0 0,.int .i64 ((Dl.lg base text).2:Int)])∧Below w.heap.size w w':=by
 have eb:nb=base.length:=by obtain ⟨_,_,hv,_⟩:=hB;injection hv
 have et:nt=text.length:=by obtain ⟨_,_,hv,_⟩:=hT;injection hv
 have hct:nt≤ct:=by obtain ⟨_,_,hv,hc,_⟩:=hT;injection hv with _ e2 e3;omega
 have hcb:nb≤cb:=by obtain ⟨_,_,hv,hc,_⟩:=hB;injection hv with _ e2 e3;omega
 have HBS:=Lib.hid hB
 have HTX:=Lib.hid hT
 have HBB:=Lib.hid bb
 have HBT:=Lib.hid bt
 have HMX:=Lib.hid hm
 have HEB:=Lib.hid eb
 have HET:=Lib.hid et
 have S4:∀ w',(Instr.slice 25 (.slice (some ⟨b2,o2,none⟩) nt ct) none (some (.int .i64 4)) none).run Tryz.prog w'=.ok (.slice (some ⟨b2,o2,none⟩) 4 ct) w':=fun w'=>sl_hi b2 o2 nt ct 4 w' (by omega) rfl
 have h1:¬(nt:Int) < 4:=by omega
 have n0:=(Blk.new w 111 #[.int .i64 0,.slice none 0 0,.int .i64 0]).alloc (.cells #[.int .i64 0,.slice none 0 0,.int .i64 0] 111)
 have n1:=Blk.new (w.alloc (.cells #[.int .i64 0,.slice none 0 0,.int .i64 0] 111)) 111 #[.int .i64 0,.slice none 0 0,.int .i64 0]
 simp only [World.size_alloc] at n1
 have HL0:Hid (LongI w.heap.size w (Dl.lgN base text 0) ((w.alloc (.cells #[.int .i64 0,.slice none 0 0,.int .i64 0] 111)).alloc (.cells #[.int .i64 0,.slice none 0 0,.int .i64 0] 111))):=Lib.hid ⟨n0,n1,((Below.refl _ w).alloc (Nat.le_refl _) _).alloc (by simp) _⟩
 clear hB hT bb bt hm eb et n0 n1 h4
 go_enter Tryz.func73,Tryz.ntmps73
 go_wp2
 go_loopw [6] (fun i wr=>∃ k:Nat,k≤nb∧i=.int .i64 k∧LongI w.heap.size w (Dl.lgN base text k) wr) (fun i _=>nb+1 - (intOf i).toNat)
 case atStart=>exact ⟨0,Nat.zero_le _,rfl,HL0.out⟩
 case round=>
  obtain ⟨k,hk,rfl,hL⟩:=hrel
  have HL:=Lib.hid hL
  have c0:wr.cell? ⟨w.heap.size+1,0,none⟩=some (.int .i64 ((Dl.lgN base text k).1:Int)):=hL.2.1.cell 0
  have c1:wr.cell? ⟨w.heap.size+1,1,none⟩=some (.slice none 0 0):=hL.2.1.cell 1
  have c2:wr.cell? ⟨w.heap.size+1,2,none⟩=some (.int .i64 ((Dl.lgN base text k).2:Int)):=hL.2.1.cell 2
  have d0:wr.cell? ⟨w.heap.size,0,none⟩=some (.int .i64 0):=hL.1.cell 0
  have d1:wr.cell? ⟨w.heap.size,1,none⟩=some (.slice none 0 0):=hL.1.cell 1
  have d2:wr.cell? ⟨w.heap.size,2,none⟩=some (.int .i64 0):=hL.1.cell 2
  have f0:=hL.1.frozen 0
  have f1:=hL.1.frozen 1
  have f2:=hL.1.frozen 2
  have e0:=hL.2.1.frozen 0
  have e1:=hL.2.1.frozen 1
  have e2:=hL.2.1.frozen 2
  have hT1:∀ w',Below w.heap.size w w'→Rd w' (.slice (some ⟨b2,o2,none⟩) 4 ct) (text.take 4):=fun w' h=>(HTX.out.below h (Nat.le_refl _)).cutHi (by rw [←HET.out];omega)
  by_cases hs:nb - k < 4
  ·
   have hend:Hid (Dl.lgN base text k=Dl.lg base text):=Lib.hid (by
    unfold Dl.lg
    rw [←HEB.out,show nb=k+(nb - k) by omega]
    exact (Dl.lgN_skip (nb - k) (fun j h1 h2=>by
     have:=Dl.cmn_le (base.drop j) text 127
     rw [List.length_drop,←HEB.out] at this
     omega)).symm)
   obtain ⟨A2,SK⟩:=sl_any A nb cb k hk (lo:=(k:Int)) rfl
   have CI:=Tryz.bytes_Index_longer A2 (some ⟨b2,o2,none⟩) (nb - k) (cb - k) 4 ct
   have i1:(0:Int)≤((k:Nat):Int):=by omega
   rw [hend.out] at c0 c2
   clear hL
   go_wp2
   go_quiet ((go_at_call 91;exact Calls.quiet_of_same (CI _ (by omega) hs (by omega))))
   go_wp2
   refine bodyPost_ret (v:=.agg #[.int .i64 ((Dl.lg base text).1:Int),.slice none 0 0,.int .i64 ((Dl.lg base text).2:Int)]) (by simp [results,Tryz.results73,go_sem,d0,d1,d2]) rfl ⟨rfl,?_⟩
   exact ((((below_drewN HL.out.2.2 nq).setCell (p:=⟨w.heap.size,0,none⟩) (Nat.le_refl _) _).setCell (p:=⟨w.heap.size,1,none⟩) (Nat.le_refl _) _).setCell (p:=⟨w.heap.size,2,none⟩) (Nat.le_refl _) _)
  ·obtain ⟨b1,o1,rfl,HR⟩:=HBS.out.at_ (by rw [←HEB.out];omega)
   have S1:∀ w',(Instr.slice 25 (.slice (some ⟨b1,o1,none⟩) nb cb) (some (.int .i64 (k:Int))) none none).run Tryz.prog w'=.ok (.slice (some ⟨b1,o1+k,none⟩) (nb - k) (cb - k)) w':=fun w'=>sl_lo b1 o1 nb cb k w' hk (by omega) rfl
   have hBk:∀ j,j≤nb→j < cb→∀ w',Below w.heap.size w w'→Rd w' (.slice (some ⟨b1,o1+j,none⟩) (nb - j) (cb - j)) (base.drop j):=fun j hj hjc w' h=>by
    have h2:=(HBS.out.below h (Nat.le_refl _)).cut (k:=j) (by rw [←HEB.out];exact hj)
    rw [if_neg (by omega),Option.map_some,Addr.add_mid] at h2
    exact h2
   have CI:∀ n,Calls Tryz.prog 91 #[.slice (some ⟨b1,o1+k,none⟩) (nb - k) (cb - k),.slice (some ⟨b2,o2,none⟩) 4 ct] (wr.drewN n) fun e w'=>e=.returned (.int .i64 (Lib.index ((base.drop k).map UInt8.ofNat) ((text.take 4).map UInt8.ofNat)))∧∃ q,w'=(wr.drewN n).drewN q:=fun n=>by
    have hb:=below_drewN HL.out.2.2 n
    refine index_any b1 (o1+k) (nb - k) (cb - k) b2 o2 4 ct (base.drop k) (text.take 4) mx (wr.drewN n) (hBk k hk (by omega) _ hb) (hT1 _ hb) (fun i=>by rw [Sha.getD_drop];exact HBB.out _) (fun i=>?_) (by rw [List.length_drop];omega) (by rw [List.length_take];omega) ((hb.cell (p:=⟨23,0,none⟩) (block_lt_of_cell HMX.out)).trans HMX.out)
    by_cases hi:i < 4
    ·rw [Sha.getD_take hi];exact HBT.out i
    ·rw [List.getD_eq_getElem?_getD,List.getElem?_eq_none (by rw [List.length_take];omega)];show 0 < 256;omega
   have i1:(0:Int)≤((k:Nat):Int):=by omega
   rcases Dl.index_says HBB.out HBT.out (by rw [←HET.out];omega) k with ⟨hi,hno⟩ | ⟨n,hi,hn,hq,hno⟩
   ·have hend:Hid (Dl.lgN base text k=Dl.lg base text):=Lib.hid (by
     unfold Dl.lg
     rw [←HEB.out,show nb=k+(nb - k) by omega]
     exact (Dl.lgN_skip (nb - k) (fun j h1 _=>hno j h1)).symm)
    rw [hi] at CI
    rw [hend.out] at c0 c2
    clear hL hi hno hBk HR
    go_wp2
    go_quiet ((go_at_call 91;exact Calls.quiet_of (CI _)))
    go_wp2
    refine bodyPost_ret (v:=.agg #[.int .i64 ((Dl.lg base text).1:Int),.slice none 0 0,.int .i64 ((Dl.lg base text).2:Int)]) (by simp [results,Tryz.results73,go_sem,d0,d1,d2]) rfl ⟨rfl,?_⟩
    exact ((((below_drewN HL.out.2.2 nq).setCell (p:=⟨w.heap.size,0,none⟩) (Nat.le_refl _) _).setCell (p:=⟨w.heap.size,1,none⟩) (Nat.le_refl _) _).setCell (p:=⟨w.heap.size,2,none⟩) (Nat.le_refl _) _)
   ·rw [hi] at CI
    have hkn:k+n+4≤nb:=by rw [HEB.out];exact hn
    obtain ⟨kn,hkn'⟩:∃ kn,kn=k+n:=⟨_,rfl⟩
    have HKE:=Lib.hid hkn'
    have HW1:Hid (wrap64 ((k:Int)+(n:Int))=(kn:Int)):=Lib.hid (by rw [IntWalk.wrap64_in _ (by have:=HEB.out;omega)];omega)
    have S2:∀ w',(Instr.slice 25 (.slice (some ⟨b1,o1,none⟩) nb cb) (some (.int .i64 (kn:Int))) none none).run Tryz.prog w'=.ok (.slice (some ⟨b1,o1+kn,none⟩) (nb - kn) (cb - kn)) w':=fun w'=>sl_lo b1 o1 nb cb kn w' (by omega) (by omega) (by omega)
    have CC:∀ w',Below w.heap.size w w'→Calls Tryz.prog 92 #[.slice (some ⟨b1,o1+kn,none⟩) (nb - kn) (cb - kn),.slice (some ⟨b2,o2,none⟩) nt ct] w' fun e w''=>e=.returned (.int .i64 (Dl.cmn (base.drop kn) text 127:Nat))∧∃ m,w''=w'.drewN m:=fun w' h=>
     common_any _ _ _ _ _ _ (base.drop kn) text w' (hBk kn (by omega) (by omega) _ h) (HTX.out.below h (Nat.le_refl _)) (by rw [List.length_drop];omega) lt
    have HS:=Lib.hid (show Dl.lgN base text (kn+1)=if (Dl.lgN base text k).1 < Dl.cmn (base.drop kn) text 127 then (Dl.cmn (base.drop kn) text 127,kn) else Dl.lgN base text k by
     rw [hkn',Dl.lgN_succ,Dl.lgN_skip n hno]
     by_cases h:(Dl.lgN base text k).1 < Dl.cmn (base.drop (k+n)) text 127
     ·rw [if_pos ⟨hq,h⟩,if_pos h]
     ·rw [if_neg (fun h'=>h h'.2),if_neg h])
    rw [←hkn'] at hq
    obtain ⟨qq,hqq⟩:∃ qq,qq=Dl.cmn (base.drop kn) text 127:=⟨_,rfl⟩
    rw [←hqq] at CC HS hq
    obtain ⟨sn,hsn⟩:∃ sn,sn=(Dl.lgN base text k).1:=⟨_,rfl⟩
    obtain ⟨sf,hsf⟩:∃ sf,sf=(Dl.lgN base text k).2:=⟨_,rfl⟩
    have HSE:=Lib.hid (show Dl.lgN base text k=(sn,sf) by rw [hsn,hsf])
    rw [←hsn] at c0 HS
    rw [←hsf] at c2
    have hq127:qq≤127:=by rw [hqq];exact (Dl.cmn_le _ _ _).1
    have HLB:=Lib.hid lb
    have HLT:=Lib.hid lt
    have HKN:=Lib.hid hkn
    have k1:kn≤1000000:=by have:=HEB.out;omega
    have k2:0 < nb:=by omega
    have HKB:=Lib.hid (show kn+1≤nb∧k < kn+1 by omega)
    clear hL hi hno hBk HR hqq hsn hsf hn lb lt hkn hkn' hq hq127
    by_cases hgt:sn < qq
    ·have g1:(sn:Int) < (qq:Int):=by omega
     have HS2:=Lib.hid (show Dl.lgN base text (kn+1)=(qq,kn) by rw [HS.out,if_pos hgt])
     clear hgt
     have W1:=HW1.out
     go_wp2
     go_quiet ((go_at_call 91;exact Calls.quiet_of (CI _)))
     go_wp2_with (go_at_call 92;refine (CC _ (below_drewN HL.out.2.2 nq)).mono ?_;rintro e w' ⟨rfl,m,rfl⟩)
     clear W1
     have h9:=HKB.out
     exact ⟨⟨kn+1,h9.1,by go_num,by rw [HS2.out];exact HL.out.put _ _ _⟩,by simp [intOf];omega⟩
    ·have g1:¬(sn:Int) < (qq:Int):=by omega
     have HS2:=Lib.hid (show Dl.lgN base text (kn+1)=Dl.lgN base text k by rw [HS.out,if_neg hgt,HSE.out])
     clear hgt
     have W1:=HW1.out
     go_wp2
     go_quiet ((go_at_call 91;exact Calls.quiet_of (CI _)))
     go_wp2_with (go_at_call 92;refine (CC _ (below_drewN HL.out.2.2 nq)).mono ?_;rintro e w' ⟨rfl,m,rfl⟩)
     clear W1
     have h9:=HKB.out
     exact ⟨⟨kn+1,h9.1,by go_num,by rw [HS2.out];exact ⟨HL.out.1.drewN _,HL.out.2.1.drewN _,below_drewN HL.out.2.2 _⟩⟩,by simp [intOf];omega⟩
def Runs {α:Type} (n:Nat) (P:Program) (g:Nat) (lb:Array Value) (encs:α→Array Value) (Kp:World→World→Prop) (xs:List α) (w:World):Prop:=
 ∀ (l:Nat) (J:List α→World→Prop) (W:World),Below w.heap.size w W→AbidesFrom W.heap.size J →
  (∀ pre x rest W1,xs=pre++x::rest→J pre W1→YieldAt Fence.wide (n - 1) P l (encs x) W1 fun e W'=>e=.returned (.bool true)∧J (pre++[x]) W'∧Kp W1 W')→J [] W →
  CallsIn Fence.wide n P g (#[.func (.yield l) #[] #[]]++lb) W fun e W'=>(∃ v,e=.returned v)∧J xs W'
def Rounds {α:Type} (B:Nat) (Kp:World→World→Prop) (I:List α→World→Prop) (xs:List α) (W:World) (e:Exit) (W':World):Prop:=
 e=.normal∧KeepsFrom B W W'∧Kp W W'∧I xs W'
def Lies (B:Nat) (r:Loop) (W:World):Prop:=W.heap[B]? = some (.deferred (some []))∧W.heap[B+1]? = some (.loop r)
theorem Lies.from {B:Nat} {r:Loop} {W W':World} (h:Lies B r W) (k:KeepsFrom B W W'):Lies B r W':=⟨k.same _ _ (Nat.le_refl _) h.1 rfl,k.same _ _ (Nat.le_succ _) h.2 rfl⟩
theorem Lies.put {B:Nat} {r:Loop} {W:World} (h:Lies B r W) (r':Loop):Lies B r' (W.putObj (B+1) (.loop r')):=
 ⟨(World.putObj_heap_other (by omega)).trans h.1,World.putObj_heap_same (Array.getElem?_eq_some_iff.1 h.2).1⟩
theorem Lies.grown {B C:Nat} {r:Loop} {W W':World} {row:Option Nat} (h:Lies B r W) (hg:W.grownBy W' row) (hr:∀ j,row=some j→C≤j∧∃ o:Obj,W.heap[j]? = some o∧o.isWalk=true):Lies B r W':=
 ⟨(grownBy_keeps hg (fun j e=>(hr j e).2) h.1 rfl).trans h.1,(grownBy_keeps hg (fun j e=>(hr j e).2) h.2 rfl).trans h.2⟩
section
variable {α:Type} {P:Program} {n:Nat}
theorem range_runs {g:Operand} {ps:Array Tmp} {assign body:Code} {Q:Exit→Act→World→Prop} {a:Act} {w w0:World} {gf:Nat} {Kp:World→World→Prop} {lb:Array Value} {encs:α→Array Value} {xs:List α}
  (hg:a.eval g=.func (.func gf) #[] lb) (eg:∀ args w,(callFunc gf args).run P w=.ok (.enter gf args) w) (hrun:Runs (n - 1) P gf lb encs Kp xs w0) (hw0:Below w0.heap.size w0 w) (hKt:∀ {A B C:World},Kp A B→Kp B C→Kp A C) (hKb:∀ (W:World) (l:Nat) (o o':Obj),w.heap.size≤l→W.heap[l]? = some o→o.isCells=false→Kp W (W.putObj l o')) (hps:∀ x,(encs x).size=ps.size)
  (I:List α→World→Prop) (hI:OwnFrom w.heap.size I) (h0:I [] w) (Ax:α→Act→World→Prop) (hAx:∀ x a',OwnFrom w.heap.size (fun (_:Unit) W=>Ax x a' W))
  (hassign:∀ (l:Nat) (pre:List α) (x:α) (rest:List α) (W:World) (K:Act→World→Prop),xs=pre++x::rest→I pre W→(∀ a' W',KeepsFrom w.heap.size W W'→Kp W W'→I pre W'→Ax x a' W'→K a' W') →
   assign.wpIn (Fence.wide.inRound l) (n - 1 - 1) P (Exit.then K (fun _ _ _=>False)) { tmps:=(ps.zip (encs x)).foldl (fun t (p,v)=>t.setIfInBounds p v) a.tmps,defers:=[] } W)
  (hbody:∀ (l:Nat) (pre:List α) (x:α) (rest:List α) (a':Act) (W:World),xs=pre++x::rest→I pre W→Ax x a' W→body.wpIn (Fence.wide.inRound l) (n - 1 - 1) P (fun e _ W'=>Rounds w.heap.size Kp I (pre++[x]) W e W') a' W)
  (hdone:∀ (D:Nat) (W:World),w.heap.size≤D→I xs W→W.heap[D]? = some (.deferred (some []))→Q .normal { a with defers:={ target:=.collected D,args:=#[] }::a.defers } W) :
  (Code.rangeFunc g ps assign body).wpIn Fence.wide n P Q a w:=by
 refine wpIn_rangeFunc fun fn _=>?_
 obtain ⟨B,hB⟩:∃ B,B=w.heap.size:=⟨_,rfl⟩
 obtain ⟨r,hr⟩:∃ r:LoopState→Loop,r=fun s=>{ state:=s,pending:=none,fn,tmps:=a.tmps,params:=ps,assign,body,defers:=B }:=⟨_,rfl⟩
 have rs:∀ s,(r s).state=s∧(r s).pending=none∧(r s).fn=fn∧(r s).tmps=a.tmps∧(r s).params=ps∧(r s).assign=assign∧(r s).body=body:=fun s=>by rw [hr];exact ⟨rfl,rfl,rfl,rfl,rfl,rfl,rfl⟩
 have rt:∀ s t,{ r s with state:=t }=r t:=fun s t=>by rw [hr]
 have rt2:∀ s t,{ r s with state:=t,pending:=none }=r t:=fun s t=>by rw [hr]
 have s1:(w.alloc (.deferred (some []))).heap.size=w.heap.size+1:=by simp
 have lies1:Lies B (r .ready) ((w.alloc (.deferred (some []))).alloc (.loop (r .ready))):=by
  rw [hB]
  refine ⟨(Below.heap_alloc _ _ _ (by simp)).trans (World.alloc_heap_new w _),?_⟩
  have h:=World.alloc_heap_new (w.alloc (.deferred (some []))) (.loop (r .ready))
  rwa [s1] at h
 have bel1:Below w.heap.size w ((w.alloc (.deferred (some []))).alloc (.loop (r .ready))):=((Below.refl _ w).alloc (Nat.le_refl _) _).alloc (by simp) _
 have inv1:I [] ((w.alloc (.deferred (some []))).alloc (.loop (r .ready))):=hI.alloc _ (hI.alloc _ h0)
 have sz1:((w.alloc (.deferred (some []))).alloc (.loop (r .ready))).heap.size=B+2:=by simp [hB]
 have start:(Instr.enterLoop fn a.tmps ps assign body Fence.wide.round).run P w=.ok (B+1,[{ target:=.collected B,args:=#[] }]) ((w.alloc (.deferred (some []))).alloc (.loop (r .ready))):=by
  rw [hr,hB];exact run_enterLoop_outer _ _ _ _ _
 generalize (w.alloc (.deferred (some []))).alloc (.loop (r .ready))=W1 at lies1 bel1 inv1 sz1 start
 refine ⟨B+1,_,W1,{ target:=.fn (.func gf) lb,args:=#[.func (.yield (B+1)) #[] #[]] },W1,gf,#[.func (.yield (B+1)) #[] #[]]++lb,W1,start,?_,fun _ _=>trivial,?_,(fun e=>by cases e),?_⟩
 ·simp only [resolve,hg]
  simp [go_sem]
 ·simp [invoke,go_sem,eg]
 have kept:AbidesFrom W1.heap.size (fun (pre:List α) W=>I pre W∧Lies B (r .ready) W):=fun s A C row hs hgr hro=>
  ⟨hI s A C row hs.1 hgr (fun j e=>by obtain ⟨h1,o,h2,h3⟩:=hro j e;exact ⟨by omega,o,h2,Obj.not_cells_of_walk h3⟩),hs.2.grown hgr hro⟩
 refine (hrun (B+1) (fun pre W=>I pre W∧Lies B (r .ready) W) W1 (hw0.trans (bel1.mono hw0.size)) kept ?_ ⟨inv1,lies1⟩).mono ?_
 ·
  rintro pre x rest W hx ⟨hi,hl⟩
  refine ⟨fn,_,assign,body,?_,roundIn_of_wpIn trivial (hassign _ pre x rest W _ hx hi fun a' Wa k1 b1 i1 x1=>?_)⟩
  ·have h:=run_yield (P:=P) (args:=encs x) hl.2 (by rw [(rs _).2.2.2.2.1];exact hps x)
   rw [(rs _).2.2.1,(rs _).2.2.2.1,(rs _).2.2.2.2.1,(rs _).2.2.2.2.2.1,(rs _).2.2.2.2.2.2] at h
   exact h
  ·have la:=hl.from (hB▸k1)
   refine ⟨_,run_beginRound la.2 (rs _).1,?_⟩
   rw [rt]
   have lb':=la.put (r .busy)
   have own:∀ {W':World} {s:LoopState} (t:LoopState) (p:List α),I p W'→Lies B (r s) W'→I p (W'.putObj (B+1) (.loop (r t))):=fun {W' s} t p h k=>hI.putObj _ h (by omega) k.2 rfl
   refine wpIn_mono (hbody _ pre x rest a' _ hx (own .busy pre i1 la) ((hAx x a').putObj (s:=()) _ x1 (by omega) la.2 rfl)) ?_
   rintro e a3 W3 ⟨rfl,k3,b3,i3⟩
   rw [←hB] at k3
   have lc:=lb'.from k3
   have fin:=run_endRound (P:=P) none lc.2
   refine ⟨_,_,fin,rfl,⟨?_,?_⟩,?_⟩
   ·simp only [Option.isNone_none,if_true]
    rw [rt2];exact own .ready _ i3 lc
   ·simp only [Option.isNone_none,if_true]
    rw [rt2];exact lc.put _
   ·exact hKt b1 (hKt (hKb _ _ _ _ (by omega) la.2 rfl) (hKt b3 (hKb _ _ _ _ (by omega) lc.2 rfl)))
 ·
  rintro e W2 ⟨⟨v,rfl⟩,hi,hl⟩
  have h:=run_endLoop (P:=P) hl.2 (by rw [(rs _).1];simp)
  rw [(rs _).2.1] at h
  exact ⟨none,_,h,hdone B _ (by omega) (hI.putObj _ hi (by omega) hl.2 rfl) ((World.putObj_heap_other (by omega)).trans hl.1)⟩
end
end Go.Proofs.YtndgadjeeinedaaGreatDoor
/- The iterator over the copies that make a target (delta.copies). -/
namespace Go.Proofs.YtndgadjeeinedaaGreatDoor
open Go Go.RowKit Go.Shelf
attribute [local go_sem] Oper.semAt_some
namespace Dl
def cpsF (base target:List Nat):Nat→Nat→List (Nat×Nat×Nat)
 | 0,_=>[]
 | f+1,p=>if p < target.length then
   if 0 < (lg base (target.drop p)).1 then (p,(lg base (target.drop p)).1,(lg base (target.drop p)).2)::cpsF base target f (p+(lg base (target.drop p)).1)
   else cpsF base target f (p+1)
  else []
theorem cpsF_succ (base target:List Nat) (f p:Nat):cpsF base target (f+1) p=if p < target.length then
   if 0 < (lg base (target.drop p)).1 then (p,(lg base (target.drop p)).1,(lg base (target.drop p)).2)::cpsF base target f (p+(lg base (target.drop p)).1)
   else cpsF base target f (p+1)
  else []:=rfl
theorem cpsF_more (base target:List Nat):∀ (f p:Nat),target.length≤p+f→∀ g,f≤g→cpsF base target g p=cpsF base target f p
 | 0,p,h,g,_=>by
  cases g with
  | zero=>rfl
  | succ g=>rw [cpsF_succ,if_neg (by omega)];rfl
 | f+1,p,h,g,hg=>by
  cases g with
  | zero=>omega
  | succ g=>
   rw [cpsF_succ,cpsF_succ]
   by_cases hp:p < target.length
   ·rw [if_pos hp,if_pos hp]
    by_cases h0:0 < (lg base (target.drop p)).1
    ·rw [if_pos h0,if_pos h0,cpsF_more base target f _ (by omega) g (by omega)]
    ·rw [if_neg h0,if_neg h0,cpsF_more base target f _ (by omega) g (by omega)]
   ·rw [if_neg hp,if_neg hp]
def cps (base target:List Nat) (p:Nat):List (Nat×Nat×Nat):=cpsF base target (target.length - p) p
theorem cps_end {base target:List Nat} {p:Nat} (h:target.length≤p):cps base target p=[]:=by
 unfold cps;rw [show target.length - p=0 by omega];rfl
theorem cps_copy {base target:List Nat} {p:Nat} (h:p < target.length) (h0:0 < (lg base (target.drop p)).1):cps base target p=(p,(lg base (target.drop p)).1,(lg base (target.drop p)).2)::cps base target (p+(lg base (target.drop p)).1):=by
 unfold cps
 obtain ⟨f,hf⟩:∃ f,target.length - p=f+1:=⟨target.length - p - 1,by omega⟩
 rw [hf,cpsF_succ,if_pos h,if_pos h0,cpsF_more base target (target.length - (p+(lg base (target.drop p)).1)) _ (by omega) f (by omega)]
theorem cps_skip {base target:List Nat} {p:Nat} (h:p < target.length) (h0:(lg base (target.drop p)).1=0):cps base target p=cps base target (p+1):=by
 unfold cps
 obtain ⟨f,hf⟩:∃ f,target.length - p=f+1:=⟨target.length - p - 1,by omega⟩
 rw [hf,cpsF_succ,if_pos h,if_neg (by omega),show target.length - (p+1)=f by omega]
end Dl
def cpV (x:Nat×Nat×Nat):Array Value:=#[.int .i64 (x.1:Int),.agg #[.int .i64 (x.2.1:Int),.slice none 0 0,.int .i64 (x.2.2:Int)]]
structure CIn (w:World) (bB bT:Nat) (bv tv:Value) (base target:List Nat):Prop where
 bb:Boxed w bB 25 bv
 bt:Boxed w bT 25 tv
 rb:Rd w bv base
 rt:Rd w tv target
 mx:∃ m,w.cell? ⟨23,0,none⟩=some (.int .i64 m)
def KpC (n₀ bB bT:Nat) (W W':World):Prop:=Below n₀ W W'∧(∀ k,k=bB∨k=bT→W'.heap[k]? = W.heap[k]?) ∧
 ∀ (k:Nat) (cs:Array Value) (z:Nat×Nat),W.heap[k]? = some (.cells cs 111 z)→W'.heap[k]? = some (.cells cs 111 z)
theorem KpC.refl (n₀ bB bT:Nat) (W:World):KpC n₀ bB bT W W:=⟨Below.refl _ _,fun _ _=>rfl,fun _ _ _ h=>h⟩
theorem KpC.trans {n₀ bB bT:Nat} {A B C:World} (h:KpC n₀ bB bT A B) (k:KpC n₀ bB bT B C):KpC n₀ bB bT A C:=
 ⟨h.1.trans k.1,fun j hj=>(k.2.1 j hj).trans (h.2.1 j hj),fun j cs z e=>k.2.2 j cs z (h.2.2 j cs z e)⟩
theorem longest_all (bv tv:Value) (base text:List Nat) (w:World) (hB:Rd w bv base) (hT:Rd w tv text) (bb:Sha.Byte base) (bt:Sha.Byte text) (lb:base.length≤1000000) (lt:text.length≤1000000)
  (hm:∃ m,w.cell? ⟨23,0,none⟩=some (.int .i64 m)) :
  Calls Tryz.prog 73 #[bv,tv] w fun e w'=>e=.returned (.agg #[.int .i64 ((Dl.lg base text).1:Int),.slice none 0 0,.int .i64 ((Dl.lg base text).2:Int)])∧Below w.heap.size w w':=by
 obtain ⟨A,cb,rfl,hcb,hA⟩:=hB
 obtain ⟨A2,ct,rfl,hct,hA2⟩:=hT
 obtain ⟨m,hm⟩:=hm
 by_cases h4:text.length < 4
 ·rw [Dl.lg_short h4]
  exact longest_short A _ cb A2 _ ct w h4
 ·obtain ⟨b2,o2,rfl,_⟩:=hA2 (by omega)
  exact longest_any A _ cb b2 o2 _ ct base text m w ⟨A,cb,rfl,hcb,hA⟩ ⟨_,ct,rfl,hct,hA2⟩ bb bt lb lt (by omega) hm
end Go.Proofs.YtndgadjeeinedaaGreatDoor
