/- The document's Laid of commits and trees: how many bytes. -/
import Derived.Test.YtndgadjeeinedaaGreatDoorMOb35s
set_option maxRecDepth 100000
namespace Go.Proofs.YtndgadjeeinedaaGreatDoor
open Go Go.RowKit
set_option maxHeartbeats 4000000 in
theorem rlaid3 (o:Ob) (cs:Array Value) (T E P:Option Addr) (tc ec pc:Nat) (w:World) (h:ObC w o cs T tc E ec P pc) (hf:o.Fit) (hN:o.Near) (hz:o.text.length≤300) (hk:o.kind=3) :
  Calls Tryz.prog 56 #[.agg cs] w fun e w'=>∃ A c,e=.returned (.slice A (lenR o) c)∧Below w.heap.size w w':=by
 obtain ⟨w2,hw2⟩:∃ w2,w2=w.alloc (.cells cs 51):=⟨_,rfl⟩
 have X1:Box w w2 w.heap.size 51 cs:=hw2▸Box.new w _ cs
 have hnI:(Tryz.prog.info? 51).map (·.size)=some cs.size:=by rw [h.size hf];kernel_rfl
 have HC:=Lib.hid (h.below X1.bel (Nat.le_refl _))
 have HF:=Lib.hid hf
 have HN:=Lib.hid hN
 have HZ:=Lib.hid hz
 have HX:=Lib.hid X1
 have K0:=h.c0
 rw [hk] at K0
 have HK0:=Lib.hid K0
 have HK1:=Lib.hid h.c1
 have HK2:=Lib.hid h.c2
 have HK3:=Lib.hid (h.c35 hf)
 have HLR:=Lib.hid (show lenR o=1+32+1+32 * o.pars.length+o.text.length by unfold lenR;rw [hk];rfl)
 have a0:w2.cell? ⟨w.heap.size,0,none⟩=some (.int .i64 3):=(X1.at_.cell 0).trans K0
 have HBX:=Lib.hid (fun (wx:World) (hb:Below w2.heap.size w2 wx)=>(show Box w wx w.heap.size 51 cs from X1.go hb))
 have e2:=hw2.symm
 clear h hf hN hz X1 hnI K0 hk hw2
 go_enter Tryz.func56,Tryz.ntmps56
 obtain ⟨w3,hw3⟩:∃ w3,w3=w2.alloc (.cells #[.int .u8 103] 5):=⟨_,rfl⟩
 have HP0:Hid (PadN w2.heap.size w2 (.slice (some ⟨w2.heap.size,0,none⟩) 1 1) 1 w3):=Lib.hid (by rw [hw3];exact pad_one w2 103)
 have e3:=hw3.symm
 have b0:w3.cell? ⟨w.heap.size,0,none⟩=some (.int .i64 3):=((HBX.out _ HP0.out.bel).at_.cell 0).trans HK0.out
 clear hw3
 have HTG:Hid (Id32 o.target):=Lib.hid HF.out.target
 have HMD:Hid (w3.rangeAt w.heap.size 3 (cellsB o.target)):=Lib.hid (tgt_idx (HBX.out _ HP0.out.bel).at_ (ob_mid HC.out))
 go_wp2_with (with_reducible (show wpList _ _ _ (Oper.mk _ (Op.load 41 _) _ _ _ _::_) _ _);refine pause ?_)
 unfold Paused
 refine wpList_mid_w (by rfl) 41 (.tmp 58) (by rfl) w.heap.size 3 (by rfl) _ _ HMD.out Tryz.underlying41 (by rfl) (by rw [cellsP1_len HTG.out];kernel_rfl) ?_
 have HID:=HTG
 generalize o.target=id at HID
 have HSZ:Hid ((1:Nat)≤1):=Lib.hid (Nat.le_refl _)
 go_wp2
 clear b0 e3
 go_loopw [3,60] (fun v j wr=>∃ q:Nat,q≤32∧j=.int .i64 (q:Nat)∧Hid (PadN w2.heap.size w2 v (1+q) wr)) (fun _ j _=>32 - (intOf j).toNat)
 case atStart=>exact ⟨0,by omega,rfl,HP0⟩
 case round=>
  obtain ⟨q,hq,rfl,HQ⟩:=hrel
  by_cases hq32:q < 32
  ·have j1:((q:Nat):Int) < 32:=by omega
   have j2:(0:Int)≤((q:Nat):Int):=by omega
   have hix:∀ w',(Instr.index 41 (.agg (cellsB id).toArray) (.int .i64 (q:Nat))).run Tryz.prog w'=.ok (.int .u8 ((id.getD q 0:Nat):Int)) w':=fun w'=>run_indexArr (n:=32) Tryz.underlying41 Tryz.underlying5 (by kernel_rfl) _ q _ hq32 (by rw [List.getElem?_toArray];exact cellsB_get (by rw [HID.out.1];exact hq32)) _ rfl w'
   generalize id.getD q 0=x at hix
   go_wp2_with (with_reducible (show wpList _ _ _ (Oper.mk _ (Op.call (Call.mk (Callee.builtin Builtin.append) _ _)) _ _ _ _::_) _ _);refine pause ?_)
   unfold Paused
   change wpList _ _ _ _ _ (wr.alloc (.cells (u8s [x]) 5))
   have HPb:=Lib.hid (HQ.out.below rfl ((Below.refl wr.heap.size wr).alloc (Nat.le_refl _) (.cells (u8s [x]) 5)))
   have HRb:Hid (Rd (wr.alloc (.cells (u8s [x]) 5)) (.slice (some ⟨wr.heap.size,0,none⟩) 1 1) [x]):=Lib.hid (rd_of_lit wr [x] _ (by simp))
   generalize wr.alloc (.cells (u8s [x]) 5)=wb at HPb HRb ⊢
   generalize wr.heap.size=gs at HRb ⊢
   refine wpList_padB (by rfl) (.tmp 63) (.tmp 65) (by rfl) rfl (by rfl) HPb.out (by rfl) HRb.out (by have:=HSZ.out;simp only [List.length_cons,List.length_nil];omega) ?_
   intro v1 w1 hp1 _
   have HP1:Hid (PadN w2.heap.size w2 v1 (1+(q+1)) w1):=Lib.hid hp1
   clear hp1 hix
   go_wp2
   go_roundw
   case rel=>exact ⟨q+1,by omega,by go_num,HP1⟩
   case measure=>simp [intOf];omega
  ·have hq2:q=32:=by omega
   subst hq2
   clear hq hq32
   have b0:wr.cell? ⟨w.heap.size,0,none⟩=some (.int .i64 3):=((HBX.out _ HQ.out.bel).at_.cell 0).trans HK0.out
   obtain ⟨g,cg,hg,hgB,⟨xg,hxg⟩,hfz,hset⟩:=HQ.out.form (by omega)
   obtain ⟨w4,hw4⟩:∃ w4,w4=wr.setCell ⟨g,0,none⟩ (.int .u8 99):=⟨_,rfl⟩
   have HPA:Hid (PadN w2.heap.size w2 u3 (1+32) w4):=Lib.hid (by rw [hw4];exact hset 99)
   have e4:=hw4.symm
   clear hset hw4
   subst hg
   have b5:w4.cell? ⟨w.heap.size,35,none⟩=some (.slice P o.pars.length pc):=((HBX.out _ HPA.out.bel).at_.cell 35).trans HK3.out
   have u2:=small_u8 o.pars.length (by have:=HN.out.pars;omega)
   go_wp2_with (with_reducible (show wpList _ _ _ (Oper.mk _ (Op.call (Call.mk (Callee.builtin Builtin.append) _ _)) _ _ _ _::_) _ _);refine pause ?_)
   unfold Paused
   change wpList _ _ _ _ _ (w4.alloc (.cells (u8s [o.pars.length]) 5))
   have HPb:=Lib.hid (HPA.out.below rfl ((Below.refl w4.heap.size w4).alloc (Nat.le_refl _) (.cells (u8s [o.pars.length]) 5)))
   have HRb:Hid (Rd (w4.alloc (.cells (u8s [o.pars.length]) 5)) (.slice (some ⟨w4.heap.size,0,none⟩) 1 1) [o.pars.length]):=Lib.hid (rd_of_lit w4 [o.pars.length] _ (by simp))
   generalize w4.alloc (.cells (u8s [o.pars.length]) 5)=wb at HPb HRb ⊢
   generalize w4.heap.size=gs at HRb ⊢
   refine wpList_padB (by rfl) (.tmp 73) (.tmp 78) (by rfl) rfl (by rfl) HPb.out (by rfl) HRb.out (by have:=HSZ.out;simp only [List.length_cons,List.length_nil];omega) ?_
   intro v5 w5 hp5 _
   have HP5:Hid (PadN w2.heap.size w2 v5 (1+32+1+32 * 0) w5):=Lib.hid hp5
   clear hp5 b5 u2 b0
   have b5:w5.cell? ⟨w.heap.size,35,none⟩=some (.slice P o.pars.length pc):=((HBX.out _ HP5.out.bel).at_.cell 35).trans HK3.out
   have hp4:o.pars.length≤4:=HN.out.pars
   go_wp2
   clear b5 hxg hfz e4
   go_loopw [3,83] (fun v i wr=>∃ k:Nat,k≤o.pars.length∧i=.int .i64 (k:Nat)∧Hid (PadN w2.heap.size w2 v (1+32+1+32 * k) wr)) (fun _ i _=>o.pars.length - (intOf i).toNat)
   case atStart=>exact ⟨0,Nat.zero_le _,rfl,HP5⟩
   case round=>
    obtain ⟨k,hk,rfl,HPk⟩:=hrel
    by_cases hlt:k < o.pars.length
    ·obtain ⟨sb,so,rfl,_,hsr⟩:=(HC.out.pars.below HPk.out.bel (Nat.le_refl _)).par rfl HF.out.pars hlt
     have HID:=Lib.hid (HF.out.pars _ (List.getElem_mem hlt))
     have HSR:=Lib.hid hsr
     clear hsr
     generalize o.pars[k]=id at HSR HID
     have HSZ:Hid (1+32+1+32 * k≤1000):=Lib.hid (by omega)
     have i1:((k:Nat):Int) < o.pars.length:=by omega
     have i2:(0:Int)≤((k:Nat):Int):=by omega
     go_wp2_with (with_reducible (show wpList _ _ _ (Oper.mk _ (Op.load 41 _) _ _ _ _::_) _ _);refine pause ?_)
     unfold Paused
     refine wpList_mid_w (by rfl) 41 (.tmp 85) (by rfl) sb (so+k * 32) (by rfl) _ _ HSR.out Tryz.underlying41 (by rfl) (by rw [cellsP1_len HID.out];kernel_rfl) ?_
     go_wp2_with (with_reducible (show wpList _ _ _ (Oper.mk _ (Op.store 41 _ _) _ _ _ _::_) _ _);refine pause ?_)
     unfold Paused
     change wpList _ _ _ _ _ (wr.alloc (.cells (cellsB (List.replicate 32 0)).toArray 41))
     refine wpList_store_row (by rfl) 41 (.tmp 11) (.tmp 86) (by rfl) wr.heap.size (cellsB id).toArray (by rfl) (by rfl) 41 (cellsB (List.replicate 32 0)).toArray (Blk.new wr _ _) (by rw [List.size_toArray,cellsP1_len HID.out];kernel_rfl) (by rw [List.size_toArray,List.size_toArray,cellsP1_len HID.out];rfl) (arr_one (cellsB_one id)) ?_
     have HPi:=Lib.hid (HPk.out.below rfl (below_row ((Below.refl wr.heap.size wr).alloc (Nat.le_refl _) (.cells (cellsB (List.replicate 32 0)).toArray 41)) (Nat.le_refl _) (cellsB id).toArray))
     have HXa:=Lib.hid ((Blk.new wr 41 (cellsB (List.replicate 32 0)).toArray).row (cellsB id).toArray)
     generalize World.setRow _ wr.heap.size (cellsB id).toArray=wa at HPi HXa ⊢
     generalize wr.heap.size=gx at HXa ⊢
     simp only [Act.put]
     go_wp2_with (with_reducible (show wpList _ _ _ (Oper.mk _ (Op.load 41 _) _ _ _ _::_) _ _);refine pause ?_)
     unfold Paused
     refine wpList_row_w (by rfl) 41 (.tmp 11) (by rfl) gx (by rfl) 41 (cellsB id).toArray _ HXa.out Tryz.underlying41 (by rfl) (by rw [List.size_toArray,cellsP1_len HID.out];kernel_rfl) ?_
     go_wp2
     go_loopw [3,88] (fun v j wr=>∃ q:Nat,q≤32∧j=.int .i64 (q:Nat)∧Hid (PadN w2.heap.size w2 v (1+32+1+32 * k+q) wr)) (fun _ j _=>32 - (intOf j).toNat)
     case atStart=>exact ⟨0,by omega,rfl,HPi⟩
     case round=>
      obtain ⟨q,hq,rfl,HQ⟩:=hrel
      by_cases hq32:q < 32
      ·have j1:((q:Nat):Int) < 32:=by omega
       have j2:(0:Int)≤((q:Nat):Int):=by omega
       have hix:∀ w',(Instr.index 41 (.agg (cellsB id).toArray) (.int .i64 (q:Nat))).run Tryz.prog w'=.ok (.int .u8 ((id.getD q 0:Nat):Int)) w':=fun w'=>run_indexArr (n:=32) Tryz.underlying41 Tryz.underlying5 (by kernel_rfl) _ q _ hq32 (by rw [List.getElem?_toArray];exact cellsB_get (by rw [HID.out.1];exact hq32)) _ rfl w'
       generalize id.getD q 0=x at hix
       go_wp2_with (with_reducible (show wpList _ _ _ (Oper.mk _ (Op.call (Call.mk (Callee.builtin Builtin.append) _ _)) _ _ _ _::_) _ _);refine pause ?_)
       unfold Paused
       change wpList _ _ _ _ _ (wr.alloc (.cells (u8s [x]) 5))
       have HPb:=Lib.hid (HQ.out.below rfl ((Below.refl wr.heap.size wr).alloc (Nat.le_refl _) (.cells (u8s [x]) 5)))
       have HRb:Hid (Rd (wr.alloc (.cells (u8s [x]) 5)) (.slice (some ⟨wr.heap.size,0,none⟩) 1 1) [x]):=Lib.hid (rd_of_lit wr [x] _ (by simp))
       generalize wr.alloc (.cells (u8s [x]) 5)=wb at HPb HRb ⊢
       generalize wr.heap.size=gs at HRb ⊢
       refine wpList_padB (by rfl) (.tmp 91) (.tmp 93) (by rfl) rfl (by rfl) HPb.out (by rfl) HRb.out (by have:=HSZ.out;simp only [List.length_cons,List.length_nil];omega) ?_
       intro v1 w1 hp1 _
       have HP1:Hid (PadN w2.heap.size w2 v1 (1+32+1+32 * k+(q+1)) w1):=Lib.hid hp1
       clear hp1 hix
       go_wp2
       go_roundw
       case rel=>exact ⟨q+1,by omega,by go_num,HP1⟩
       case measure=>simp [intOf];omega
      ·have hq2:q=32:=by omega
       subst hq2
       clear hq hq32
       go_wp2
       go_roundw
       case rel=>exact ⟨k+1,by omega,by go_num,Lib.hid (by have h:=HQ.out;rwa [show 1+32+1+32 * k+32=1+32+1+32 * (k+1) by omega] at h)⟩
       case measure=>simp [intOf];omega
    ·have hke:k=o.pars.length:=by omega
     subst hke
     have HPT:Hid (PadN w2.heap.size w2 u3 (1+32+1+32 * o.pars.length) wr):=HPk
     have HSZ:Hid (1+32+1+32 * o.pars.length≤1000):=Lib.hid (by omega)
     have HTX:=Lib.hid (HC.out.text.below HPT.out.bel (Nat.le_refl _))
     have b1:wr.cell? ⟨w.heap.size,1,none⟩=some (.slice T o.text.length tc):=((HBX.out _ HPT.out.bel).at_.cell 1).trans HK1.out
     go_wp2_with (with_reducible (show wpList _ _ _ (Oper.mk _ (Op.call (Call.mk (Callee.builtin Builtin.append) _ _)) _ _ _ _::_) _ _);refine pause ?_)
     unfold Paused
     refine wpList_padB (by rfl) (.tmp 97) (.tmp 99) (by rfl) rfl (by rfl) HPT.out (by rfl) HTX.out (by have:=HZ.out;have:=HSZ.out;omega) ?_
     intro v9 w9 hp9 _
     obtain ⟨ys,hyl,hq9⟩:=hp9
     obtain ⟨A,c,rfl⟩:=own_slice hq9.own
     have HE:=Lib.hid (show Below w.heap.size w w9 from below_next HX.out.bel hq9.bel)
     clear hq9 b1
     go_wp2
     go_ret
     exact ⟨A,c,by rw [HLR.out];rfl,HE.out⟩
set_option maxHeartbeats 4000000 in
theorem rlaid2 (o:Ob) (cs:Array Value) (T E P:Option Addr) (tc ec pc:Nat) (w:World) (h:ObC w o cs T tc E ec P pc) (hf:o.Fit) (hN:o.Near) (hz:o.text.length≤300) (hk:o.kind=2) :
  Calls Tryz.prog 56 #[.agg cs] w fun e w'=>∃ A c,e=.returned (.slice A (lenR o) c)∧Below w.heap.size w w':=by
 obtain ⟨w2,hw2⟩:∃ w2,w2=w.alloc (.cells cs 51):=⟨_,rfl⟩
 have X1:Box w w2 w.heap.size 51 cs:=hw2▸Box.new w _ cs
 have hnI:(Tryz.prog.info? 51).map (·.size)=some cs.size:=by rw [h.size hf];kernel_rfl
 have HC:=Lib.hid (h.below X1.bel (Nat.le_refl _))
 have HF:=Lib.hid hf
 have HN:=Lib.hid hN
 have HZ:=Lib.hid hz
 have HX:=Lib.hid X1
 have K0:=h.c0
 rw [hk] at K0
 have HK0:=Lib.hid K0
 have HK1:=Lib.hid h.c1
 have HK2:=Lib.hid h.c2
 have HK3:=Lib.hid (h.c35 hf)
 have HLR:=Lib.hid (show lenR o=1+(o.ents.flatMap entB).length by unfold lenR;rw [hk];rfl)
 have a0:w2.cell? ⟨w.heap.size,0,none⟩=some (.int .i64 2):=(X1.at_.cell 0).trans K0
 have HBX:=Lib.hid (fun (wx:World) (hb:Below w2.heap.size w2 wx)=>(show Box w wx w.heap.size 51 cs from X1.go hb))
 have e2:=hw2.symm
 clear h hf hN hz X1 hnI K0 hk hw2
 go_enter Tryz.func56,Tryz.ntmps56
 obtain ⟨w3,hw3⟩:∃ w3,w3=w2.alloc (.cells #[.int .u8 103] 5):=⟨_,rfl⟩
 have HP0:Hid (PadN w2.heap.size w2 (.slice (some ⟨w2.heap.size,0,none⟩) 1 1) 1 w3):=Lib.hid (by rw [hw3];exact pad_one w2 103)
 have e3:=hw3.symm
 have b0:w3.cell? ⟨w.heap.size,0,none⟩=some (.int .i64 2):=((HBX.out _ HP0.out.bel).at_.cell 0).trans HK0.out
 clear hw3
 obtain ⟨g,cg,hg,hgB,⟨xg,hxg⟩,hfz,hset⟩:=HP0.out.form (by omega)
 obtain ⟨w4,hw4⟩:∃ w4,w4=w3.setCell ⟨g,0,none⟩ (.int .u8 116):=⟨_,rfl⟩
 have HPA:Hid (PadN w2.heap.size w2 (.slice (some ⟨w2.heap.size,0,none⟩) 1 1) (1) w4):=Lib.hid (by rw [hw4];exact hset 116)
 have e4:=hw4.symm
 clear hset hw4
 injection hg with hg1 hg2 hg3
 injection hg1 with hg1
 injection hg1 with hg1
 subst hg1
 subst hg3
 have HBE:=Lib.hid ((HBX.out _ HPA.out.bel))
 have b2:w4.cell? ⟨w.heap.size,2,none⟩=some (.slice E o.ents.length ec):=(HBE.out.at_.cell 2).trans HK2.out
 have hp8:o.ents.length≤8:=HN.out.ents
 have HPS:Hid (PadN w2.heap.size w2 (.slice (some ⟨w2.heap.size,0,none⟩) 1 1) (1+((o.ents.take 0).flatMap entB).length) w4):=Lib.hid HPA.out
 go_wp2
 clear b2 hxg hfz e4 e3 b0
 go_loopw [3,30] (fun v i wr=>∃ k:Nat,k≤o.ents.length∧i=.int .i64 (k:Nat)∧Hid (PadN w2.heap.size w2 v (1+((o.ents.take k).flatMap entB).length) wr)) (fun _ i _=>o.ents.length - (intOf i).toNat)
 case atStart=>exact ⟨0,Nat.zero_le _,rfl,HPS⟩
 case round=>
  obtain ⟨k,hk,rfl,HPk⟩:=hrel
  by_cases hlt:k < o.ents.length
  ·obtain ⟨sb,so,rfl,_,hsr⟩:=(HC.out.ents.below HPk.out.bel (Nat.le_refl _)).ent rfl HF.out.ents hlt
   have HSR:=Lib.hid hsr
   have HIE:=Lib.hid (HF.out.ents _ (List.getElem_mem hlt))
   have HNM:=Lib.hid (HN.out.names _ (List.getElem_mem hlt))
   have HTK:Hid (((o.ents.take (k+1)).flatMap entB).length=((o.ents.take k).flatMap entB).length+(1+o.ents[k].name.size+32)):=Lib.hid (by
    rw [ents_take hlt,List.length_append,entB,List.length_append,List.length_append,strB_len,HIE.out.1];simp only [List.length_cons,List.length_nil]<;>omega)
   have HSZ:Hid (1+((o.ents.take k).flatMap entB).length≤600):=Lib.hid (by
    have h1:=ents_len (o.ents.take k) (fun e he=>HN.out.names e (List.mem_of_mem_take he)) (fun e he=>HF.out.ents e (List.mem_of_mem_take he))
    have h3:(o.ents.take k).length≤o.ents.length:=by rw [List.length_take];omega
    omega)
   clear hsr
   obtain ⟨en,hen⟩:∃ en,en=o.ents[k]:=⟨_,rfl⟩
   rw [←hen] at HSR HIE HNM HTK
   clear hen
   generalize ((o.ents.take k).flatMap entB).length=L at HPk HTK HSZ
   have i1:((k:Nat):Int) < o.ents.length:=by omega
   have i2:(0:Int)≤((k:Nat):Int):=by omega
   go_wp2_with (with_reducible (show wpList _ _ _ (Oper.mk _ (Op.load 76 _) _ _ _ _::_) _ _);refine pause ?_)
   unfold Paused
   refine wpList_mid_w (by rfl) 76 (.tmp 32) (by rfl) sb (so+k * 33) (by rfl) _ _ HSR.out Tryz.underlying76 (by rfl) (by rw [cellsE1_len HIE.out];kernel_rfl) ?_
   go_wp2_with (with_reducible (show wpList _ _ _ (Oper.mk _ (Op.store 76 _ _) _ _ _ _::_) _ _);refine pause ?_)
   unfold Paused
   change wpList _ _ _ _ _ (wr.alloc (.cells (cellsE1 ⟨⟨#[]⟩,List.replicate 32 0⟩).toArray 76))
   refine wpList_store_row (by rfl) 76 (.tmp 5) (.tmp 33) (by rfl) wr.heap.size (cellsE1 en).toArray (by rfl) (by rfl) 76 (cellsE1 ⟨⟨#[]⟩,List.replicate 32 0⟩).toArray (Blk.new wr _ _) (by rw [List.size_toArray,cellsE1_len HIE.out];kernel_rfl) (by rw [List.size_toArray,List.size_toArray,cellsE1_len HIE.out];rfl) (arr_one (cellsE1_one en)) ?_
   have HPa:=Lib.hid (HPk.out.below rfl (below_row ((Below.refl wr.heap.size wr).alloc (Nat.le_refl _) (.cells (cellsE1 ⟨⟨#[]⟩,List.replicate 32 0⟩).toArray 76)) (Nat.le_refl _) (cellsE1 en).toArray))
   have HXa:=Lib.hid ((Blk.new wr 76 (cellsE1 ⟨⟨#[]⟩,List.replicate 32 0⟩).toArray).row (cellsE1 en).toArray)
   generalize World.setRow _ wr.heap.size (cellsE1 en).toArray=wa at HPa HXa ⊢
   generalize wr.heap.size=gx at HXa ⊢
   simp only [Act.put]
   have d0:wa.cell? ⟨gx,0,none⟩=some (.string en.name):=HXa.out.cell 0
   have u1:=small_u8 en.name.size HNM.out
   go_wp2_with (with_reducible (show wpList _ _ _ (Oper.mk _ (Op.call (Call.mk (Callee.builtin Builtin.append) _ _)) _ _ _ _::_) _ _);refine pause ?_)
   unfold Paused
   change wpList _ _ _ _ _ (wa.alloc (.cells (u8s [en.name.size]) 5))
   have HPb:=Lib.hid (HPa.out.below rfl ((Below.refl wa.heap.size wa).alloc (Nat.le_refl _) (.cells (u8s [en.name.size]) 5)))
   have HRb:Hid (Rd (wa.alloc (.cells (u8s [en.name.size]) 5)) (.slice (some ⟨wa.heap.size,0,none⟩) 1 1) [en.name.size]):=Lib.hid (rd_of_lit wa [en.name.size] _ (by simp))
   have HXb:=Lib.hid (HXa.out.alloc (.cells (u8s [en.name.size]) 5))
   generalize wa.alloc (.cells (u8s [en.name.size]) 5)=wb at HPb HRb HXb ⊢
   generalize wa.heap.size=gs at HRb ⊢
   refine wpList_padB (by rfl) (.tmp 34) (.tmp 39) (by rfl) rfl (by rfl) HPb.out (by rfl) HRb.out (by have:=HSZ.out;simp only [List.length_cons,List.length_nil];omega) ?_
   intro v1 w1 hp1 hk1
   have HP1:Hid (PadN w2.heap.size w2 v1 (1+L+1) w1):=Lib.hid hp1
   have HX1:=Lib.hid (hk1 _ _ _ HXb.out (by decide))
   clear hp1 hk1 d0 u1 HXb
   have d1:w1.cell? ⟨gx,0,none⟩=some (.string en.name):=HX1.out.cell 0
   go_wp2_with (with_reducible (show wpList _ _ _ (Oper.mk _ (Op.convert _ _ _) _ _ _ _::_) _ _);refine pause ?_)
   unfold Paused
   obtain ⟨cc,w6,hcv,hrd,hb6⟩:=strB_conv en.name w1
   refine wpList_conv (by rfl) 9 25 (.tmp 43) (by rfl) (.string en.name) (by rfl) _ _ hcv ?_
   have HP6:=Lib.hid (HP1.out.below rfl hb6)
   have HX6:=Lib.hid (HX1.out.below hb6 HX1.out.lt)
   have HR6:=Lib.hid hrd
   clear hcv hrd hb6 d1
   go_wp2_with (with_reducible (show wpList _ _ _ (Oper.mk _ (Op.call (Call.mk (Callee.builtin Builtin.append) _ _)) _ _ _ _::_) _ _);refine pause ?_)
   unfold Paused
   refine wpList_padB (by rfl) (.tmp 41) (.tmp 44) (by rfl) rfl (by rfl) HP6.out (by rfl) HR6.out (by have:=HSZ.out;have:=HNM.out;rw [strB_len];omega) ?_
   intro v7 w7 hp7 hk7
   have HP7:Hid (PadN w2.heap.size w2 v7 (1+L+1+en.name.size) w7):=Lib.hid (by have h:=hp7;rwa [strB_len] at h)
   have HX7:=Lib.hid (hk7 _ _ _ HX6.out (by decide))
   clear hp7 hk7
   have HMD:Hid (w7.rangeAt gx 1 (cellsB en.id)):=Lib.hid (ent_idx en HX7.out)
   go_wp2_with (with_reducible (show wpList _ _ _ (Oper.mk _ (Op.load 41 _) _ _ _ _::_) _ _);refine pause ?_)
   unfold Paused
   refine wpList_mid_w (by rfl) 41 (.tmp 46) (by rfl) gx 1 (by rfl) _ _ HMD.out Tryz.underlying41 (by rfl) (by rw [cellsP1_len HIE.out];kernel_rfl) ?_
   have HID:Hid (Id32 en.id):=HIE
   generalize en.id=id at HMD HID
   have HZQ:=HSZ
   clear HSZ
   have HSZ:Hid (1+L+1+en.name.size≤1000):=Lib.hid (by have:=HZQ.out;have:=HNM.out;omega)
   go_wp2
   go_loopw [3,48] (fun v j wr=>∃ q:Nat,q≤32∧j=.int .i64 (q:Nat)∧Hid (PadN w2.heap.size w2 v (1+L+1+en.name.size+q) wr)) (fun _ j _=>32 - (intOf j).toNat)
   case atStart=>exact ⟨0,by omega,rfl,HP7⟩
   case round=>
    obtain ⟨q,hq,rfl,HQ⟩:=hrel
    by_cases hq32:q < 32
    ·have j1:((q:Nat):Int) < 32:=by omega
     have j2:(0:Int)≤((q:Nat):Int):=by omega
     have hix:∀ w',(Instr.index 41 (.agg (cellsB id).toArray) (.int .i64 (q:Nat))).run Tryz.prog w'=.ok (.int .u8 ((id.getD q 0:Nat):Int)) w':=fun w'=>run_indexArr (n:=32) Tryz.underlying41 Tryz.underlying5 (by kernel_rfl) _ q _ hq32 (by rw [List.getElem?_toArray];exact cellsB_get (by rw [HID.out.1];exact hq32)) _ rfl w'
     generalize id.getD q 0=x at hix
     go_wp2_with (with_reducible (show wpList _ _ _ (Oper.mk _ (Op.call (Call.mk (Callee.builtin Builtin.append) _ _)) _ _ _ _::_) _ _);refine pause ?_)
     unfold Paused
     change wpList _ _ _ _ _ (wr.alloc (.cells (u8s [x]) 5))
     have HPb:=Lib.hid (HQ.out.below rfl ((Below.refl wr.heap.size wr).alloc (Nat.le_refl _) (.cells (u8s [x]) 5)))
     have HRb:Hid (Rd (wr.alloc (.cells (u8s [x]) 5)) (.slice (some ⟨wr.heap.size,0,none⟩) 1 1) [x]):=Lib.hid (rd_of_lit wr [x] _ (by simp))
     generalize wr.alloc (.cells (u8s [x]) 5)=wb at HPb HRb ⊢
     generalize wr.heap.size=gs at HRb ⊢
     refine wpList_padB (by rfl) (.tmp 51) (.tmp 53) (by rfl) rfl (by rfl) HPb.out (by rfl) HRb.out (by have:=HSZ.out;simp only [List.length_cons,List.length_nil];omega) ?_
     intro v1 w1 hp1 _
     have HP1:Hid (PadN w2.heap.size w2 v1 (1+L+1+en.name.size+(q+1)) w1):=Lib.hid hp1
     clear hp1 hix
     go_wp2
     go_roundw
     case rel=>exact ⟨q+1,by omega,by go_num,HP1⟩
     case measure=>simp [intOf];omega
    ·have hq2:q=32:=by omega
     subst hq2
     clear hq hq32
     go_wp2
     go_roundw
     case rel=>exact ⟨k+1,by omega,by go_num,Lib.hid (by have h:=HQ.out;rw [HTK.out];rwa [show 1+L+1+en.name.size+32=1+(L+(1+en.name.size+32)) by omega] at h)⟩
     case measure=>simp [intOf];omega
  ·have hke:k=o.ents.length:=by omega
   subst hke
   rw [List.take_length] at HPk
   generalize (o.ents.flatMap entB).length=N at HPk HLR
   obtain ⟨ys,hyl,hq⟩:=HPk.out
   obtain ⟨A,c,hA⟩:=own_slice hq.own
   subst hA
   have HE:=Lib.hid (show Below w.heap.size w wr from below_next HX.out.bel hq.bel)
   rw [hyl]
   clear hq HPk
   go_wp2
   go_ret
   first | exact ⟨A,c,by rw [HLR.out];rfl,HE.out⟩ | exact ⟨⟨A,c,by rw [HLR.out];rfl⟩,HE.out⟩
theorem rlaid_any (o:Ob) (cs:Array Value) (T E P:Option Addr) (tc ec pc:Nat) (w:World) (h:ObC w o cs T tc E ec P pc) (hf:o.Fit) (hN:o.Near) (hz:o.text.length≤300) :
  Calls Tryz.prog 56 #[.agg cs] w fun e w'=>∃ A c,e=.returned (.slice A (lenR o) c)∧Below w.heap.size w w':=by
 have h1:=hN.k1
 have h4:=hN.k4
 rcases (show o.kind=1∨o.kind=2∨o.kind=3∨o.kind=4 by omega) with hk | hk | hk | hk
 ·exact rlaid1 o cs T E P tc ec pc w h hf hN hz hk
 ·exact rlaid2 o cs T E P tc ec pc w h hf hN hz hk
 ·exact rlaid3 o cs T E P tc ec pc w h hf hN hz hk
 ·exact rlaid4 o cs T E P tc ec pc w h hf hN hz hk
end Go.Proofs.YtndgadjeeinedaaGreatDoor
