/- The document's oid: 32 bytes at a place. -/
import Derived.Maps.RangeWalk
import Derived.Test.YtndgadjeeinedaaGreatDoorMOb29s
import Derived.Lib.ConvBytes
import Derived.Test.YtndgadjeeinedaaGreatDoorMOct8s
import Derived.Test.YtndgadjeeinedaaGreatDoorMOb23s
import Derived.Test.YtndgadjeeinedaaGreatDoorMDl14s
import Derived.Test.YtndgadjeeinedaaGreatDoorMShaEnds
import Derived.Test.YtndgadjeeinedaaGreatDoorMOb1s
import Derived.Maps.OwnSet
import Derived.DeepKeys4
import Derived.Test.YtndgadjeeinedaaGreatDoorMByts
import Derived.Lib.AppendZerosOnto
set_option maxRecDepth 100000
namespace Go.Proofs.YtndgadjeeinedaaGreatDoor
open Go Go.RowKit
theorem id_size:(Tryz.prog.info? 41).map (·.size)=some 32:=by kernel_rfl
theorem id_built:Tryz.prog.built 41 []=some (u8s (List.replicate 32 0)):=by kernel_rfl
theorem roid_any (A:Option Addr) (c:Nat) (xs:List Nat) (w:World) (hv:Rd w (.slice A xs.length c) xs) (hl:32≤xs.length) :
  Calls Tryz.prog 28 #[.slice A xs.length c] w fun e w'=>e=.returned (.agg (u8s (xs.take 32)))∧Below w.heap.size w w':=by
 obtain ⟨w1,hw1⟩:∃ w1,w1=w.alloc (.cells (u8s (List.replicate 32 0)) 41):=⟨_,rfl⟩
 obtain ⟨w2,hw2⟩:∃ w2,w2=w1.alloc (.cells (u8s (List.replicate 32 0)) 41):=⟨_,rfl⟩
 have s1:w1.heap.size=w.heap.size+1:=by rw [hw1];simp
 have B1:Below w.heap.size w w1:=hw1▸(Below.refl _ _).alloc (Nat.le_refl _) _
 have B2:Below w.heap.size w w2:=by rw [hw2];exact B1.alloc (by omega) _
 have R0:Blk w2 w.heap.size 41 (u8s (List.replicate 32 0)):=by rw [hw2,hw1];exact (Blk.new w _ _).alloc _
 have R1:Blk w2 (w.heap.size+1) 41 (u8s (List.replicate 32 0)):=by
  have h:=Blk.new w1 41 (u8s (List.replicate 32 0))
  rw [s1] at h
  rw [hw2];exact h
 have HR0:=Lib.hid R0
 have HR1:=Lib.hid R1
 have HB2:=Lib.hid B2
 have hyl:(xs.take 32).length=32:=by rw [List.length_take];omega
 have hcl:32≤c:=by obtain ⟨A',c',e,hc,_⟩:=hv;injection e with _ e2 e3;omega
 have q1:∀ w',(Instr.slice 25 (.slice A xs.length c) none (some (.int .i64 (32:Int))) none).run Tryz.prog w'=.ok (.slice A 32 c) w':=fun w'=>run_sliceHi Tryz.underlying25 (by kernel_rfl) A xs.length c 32 (by omega) rfl w'
 have HV:=Lib.hid ((hv.cutHi hl).below (below_drewN B2 1) (Nat.le_refl _))
 obtain ⟨ys,hys⟩:∃ ys,ys=xs.take 32:=⟨_,rfl⟩
 rw [←hys] at hyl HV ⊢
 have HYL:=Lib.hid hyl
 have e1:=hw1.symm
 have e2:=hw2.symm
 clear hv hl B1 B2 R0 R1 hw1 hw2 hyl hys hcl
 go_enter Tryz.func28,Tryz.ntmps28
 go_wp2_with (with_reducible (show wpList _ _ _ (Oper.mk _ (Op.build _ _) _ _ _ _::_) _ _);refine pause ?_)
 unfold Paused
 change wpList _ _ _ _ _ (w.alloc (.cells (u8s (List.replicate 32 0)) 41))
 rw [e1]
 refine wpList_buildK (by rfl) 41 _ (by rfl) [] (by simp) (u8s (List.replicate 32 0)) id_built ?_
 go_wp2_with (with_reducible (show wpList _ _ _ (Oper.mk _ (Op.store 41 _ _) _ _ _ _::_) _ _);refine pause ?_)
 unfold Paused
 change wpList _ _ _ _ _ (w1.alloc (.cells (u8s (List.replicate 32 0)) 41))
 rw [e2]
 refine wpList_store_row rfl 41 (.tmp 3) (.tmp 4) rfl (w.heap.size+1) (u8s (List.replicate 32 0)) (by first | rfl | (rw [←s1];rfl)) rfl 41 (u8s (List.replicate 32 0)) HR1.out (by kernel_rfl) rfl (u8s_one _) ?_
 rw [setRow_self w2 (w.heap.size+1) (u8s (List.replicate 32 0)) 41 (0,0) HR1.out]
 simp only [Act.put]
 go_wp2
 refine wp_region_held (S:=fun _=>True) (by kernel_rfl) ?_
 change wpAnyH _ _ _ _ _ _ _ _ w2.drew
 refine wpAnyH_take (i:=0) (v:=?_) rfl (by kernel_rfl) (by kernel_rfl) (by kernel_rfl) (fun _ _ _ h=>h) (Or.inl ⟨by rfl,?_⟩) trivial ?_
 rotate_left
 ·intro w' _;go_simp;with_reducible rfl
 try go_frame
 refine wpAnyH_take (i:=1) (v:=?_) rfl (by kernel_rfl) (by kernel_rfl) (by kernel_rfl) (fun _ _ _ h=>h) (Or.inl ⟨by rfl,?_⟩) trivial ?_
 rotate_left
 ·intro w' _;go_simp;with_reducible rfl
 try go_frame
 refine wpAnyH_take (i:=2) (v:=.slice A 32 c) rfl (by kernel_rfl) (by kernel_rfl) (by kernel_rfl) (fun _ _ _ h=>h) (Or.inl ⟨by rfl,?_⟩) trivial ?_
 ·intro w' _;go_simp
 try go_frame
 obtain ⟨A',c',eA,hcc,hA⟩:=HV.out
 rw [HYL.out] at eA hA
 injection eA with e3 _ e4
 subst e3 e4
 obtain ⟨b,oo,rfl,_,hx⟩:=hA (by omega)
 refine all_one (i:=3) (by kernel_rfl) rfl (by rfl) (fun K hK=>?_)
 refine wp_copy32 (.tmp 5) (.tmp 7) rfl (w.heap.size+1) 41 (List.replicate 32 0) HR1.out.drew (by decide) rfl ⟨b,oo,none⟩ c rfl ys HYL.out (fun j hj=>by rw [Addr.add_mid];exact hx j hj) ?_
 have HD:Hid (Blk (w2.drew.setRow (w.heap.size+1) (u8s ys)) w.heap.size 41 (u8s (List.replicate 32 0))∧Blk (w2.drew.setRow (w.heap.size+1) (u8s ys)) (w.heap.size+1) 41 (u8s ys)∧Below w.heap.size w (w2.drew.setRow (w.heap.size+1) (u8s ys))):=Lib.hid ⟨HR0.out.drew.farRow (by omega) _,HR1.out.drew.row _,below_row (below_drewN HB2.out 1) (by omega) _⟩
 refine hK _ _ trivial ?_;clear hK K
 try go_frame
 refine wpAnyH_done (by kernel_rfl) ?_ _
 generalize w2.drew.setRow (w.heap.size+1) (u8s ys)=w3 at HD ⊢
 go_wp2_with (first | (refine wpList_load_row rfl 41 (.tmp 3) rfl (w.heap.size+1) rfl 41 (u8s ys) (0,0) _ HD.out.2.1 Tryz.underlying41 rfl (by rw [u8s_size,HYL.out];exact id_size) ?_) | (refine wpList_store_row rfl 41 (.tmp 2) (.tmp 9) rfl w.heap.size _ rfl rfl 41 _ HD.out.1 (by rw [u8s_size,HYL.out];exact id_size) (by rw [u8s_size,u8s_size,HYL.out];rfl) (u8s_one _) ?_))
 exact bodyPost_ret (v:=.agg (u8s ys)) (results_cell_row rfl _ _ w.heap.size 41 _ (0,0) _ rfl (HD.out.1.row _) Tryz.underlying41 rfl (by rw [u8s_size,HYL.out];exact id_size)) rfl ⟨rfl,below_row HD.out.2.2 (Nat.le_refl _) _⟩
theorem below_bytesWorld' (w:World) (e:TypeId) (s:ByteArray):Below w.heap.size w (Lib.bytesWorld w e s):=
 ⟨rfl,rfl,rfl,by rw [Lib.bytesWorld_size];omega,fun i hi=>Lib.bytesWorld_at_old w e s i hi⟩
theorem strB_conv (s:ByteArray) (w:World):∃ c w2,(convert 9 25 (.string s)).run Tryz.prog w=.ok (.slice (some ⟨w.heap.size,0,none⟩) s.size c) w2∧Rd w2 (.slice (some ⟨w.heap.size,0,none⟩) s.size c) (strB s)∧Below w.heap.size w w2:=by
 have hc:=Lib.run_convert_string_bytes (P:=Tryz.prog) w 9 25 5 s Tryz.underlying9 Tryz.underlying25 Tryz.underlying5
 refine ⟨_,_,hc,⟨_,_,by rw [strB_len],by rw [strB_len];exact grownCap_ge w s.size 0 5,fun h0=>⟨w.heap.size,0,rfl,by rw [Lib.bytesWorld_size];omega,fun i hi=>?_⟩⟩,below_bytesWorld' w _ _⟩
 rw [strB_len] at hi
 rw [Nat.zero_add,Lib.bytesWorld_cell w _ _ i (by omega)]
 have hi2:i < s.data.toList.length:=by have:s.data.toList.length=s.size:=rfl;omega
 unfold strB
 simp only [List.getD,List.getElem?_map,List.getElem?_eq_getElem hi2,Option.map_some,Option.getD_some]
theorem wpList_conv {P:Program} {ops:Array Oper} {rest:List Oper} {o:Oper} {a:Act} {w:World} {Q:Exit→Act→World→Prop} (hg:o.guard=none) (s d:TypeId) (x:Operand) (ho:o.op=.convert s d x) (u:Value) (hx:a.eval x=u) (r:Value) (w':World)
  (h:(convert s d u).run P w=.ok r w') (hk:wpList P ops Q rest (a.put o.dst r) w'):wpList P ops Q (o::rest) a w:=
 wpList_plain hg fun K hK=>by
  unfold Oper.wp execOp
  simp only [ho,hx,Sem.run_bind,h,Result.andThen_ok]
  exact hK _ _ hk
def PadN (B:Nat) (w:World) (s:Value) (n:Nat) (wr:World):Prop:=∃ ys:List Nat,ys.length=n∧Pad B w s ys wr
section
variable {B n:Nat} {w wr:World} {v:Value}
theorem PadN.low (h:PadN B w v n wr) (hB:w.heap.size=B):B≤wr.heap.size:=by
 obtain ⟨ys,_,hp⟩:=h
 exact hp.low hB
theorem PadN.bel (h:PadN B w v n wr):Below B w wr:=by
 obtain ⟨ys,_,hp⟩:=h
 exact hp.bel
theorem PadN.below (h:PadN B w v n wr) (hB:w.heap.size=B) {w':World} (hb:Below wr.heap.size wr w'):PadN B w v n w':=by
 obtain ⟨ys,hn,hp⟩:=h
 subst hB
 exact ⟨ys,hn,own_kpt hp.own (Kpt.of_below hb),below_next hp.bel hb⟩
theorem PadN.form (h:PadN B w v n wr) (hn:0 < n):∃ g c,v=.slice (some ⟨g,0,none⟩) n c∧B≤g∧(∃ x,wr.cell? ⟨g,0,none⟩=some x)∧wr.frozen? ⟨g,0,none⟩=false∧∀ x:Nat,PadN B w v n (wr.setCell ⟨g,0,none⟩ (.int .u8 (x:Int))):=by
 obtain ⟨ys,rfl,hp⟩:=h
 rcases hp.own.2 with ⟨_,h0⟩ | ⟨g,cap,cur,rfl,hg,_⟩
 ·omega
 ·refine ⟨g,cap,rfl,hg,⟨_,(hp.own.cellAt 0 (by omega)).trans (cellsB_get hn)⟩,hp.own.frozenAt 0,fun x=>⟨ys.set 0 x,by simp,?_,hp.bel.setCell (p:=⟨g,0,none⟩) hg _⟩⟩
  have h1:=hp.own.stored 0 (.int .u8 (x:Int))
  rw [show (cellsB ys).set 0 (.int .u8 (x:Int))=cellsB (ys.set 0 x) by simp [cellsB,List.map_set]] at h1
  rw [List.length_set]
  exact h1.1
end
theorem wpList_padB {ops:Array Oper} {rest:List Oper} {o:Oper} {a:Act} {wr:World} {Q:Exit→Act→World→Prop} (hgd:o.guard=none) (s x:Operand)
  (ho:o.op=.call { callee:=.builtin .append,args:=#[s,x],argTypes:=#[25,25] }) {B:Nat} {w2:World} (hB:w2.heap.size=B) {v:Value} {n:Nat} (hs:a.eval s=v) (hp:PadN B w2 v n wr) {u:Value} {xs:List Nat} (hx:a.eval x=u) (hu:Rd wr u xs) (hn:n+xs.length≤1000000)
  (h:∀ v' w',PadN B w2 v' (n+xs.length) w'→(∀ g t cs,Blk wr g t cs→t≠5→Blk w' g t cs)→wpList Tryz.prog ops Q rest (a.put o.dst v') w'):wpList Tryz.prog ops Q (o::rest) a wr:=by
 have hl:=hp.low hB
 obtain ⟨ys,rfl,hp⟩:=hp
 refine wpList_appendB hgd s x ho B v ys hs hp.own hl u hx xs hu (by omega) fun v' w' ho hg=>?_
 exact h v' w' ⟨ys++xs,List.length_append,ho,below_ownB hB hp.bel hp.own hg⟩ (fun g t cs hb ht=>hb.keepOwn hp.own hg ht)
def lenR (o:Ob):Nat:=if o.kind=1 then 1+o.text.length else if o.kind=2 then 1+(o.ents.flatMap entB).length else if o.kind=3 then 1+32+1+32 * o.pars.length+o.text.length else 1+32+o.text.length
theorem pad_one (w:World) (x:Nat):PadN w.heap.size w (.slice (some ⟨w.heap.size,0,none⟩) 1 1) 1 (w.alloc (.cells (u8s [x]) 5)):=by
 have h1:=World.ownsRow_lit (base:=w.heap.size) (e:=5) (size:=1) w (u8s [x]) 1 (Nat.le_refl _) (by decide) rfl
 exact ⟨[x],rfl,h1,(Below.refl _ _).alloc (Nat.le_refl _) _⟩
set_option maxHeartbeats 4000000 in
theorem rlaid1 (o:Ob) (cs:Array Value) (T E P:Option Addr) (tc ec pc:Nat) (w:World) (h:ObC w o cs T tc E ec P pc) (hf:o.Fit) (hN:o.Near) (hz:o.text.length≤300) (hk:o.kind=1) :
  Calls Tryz.prog 56 #[.agg cs] w fun e w'=>∃ A c,e=.returned (.slice A (lenR o) c)∧Below w.heap.size w w':=by
 obtain ⟨w2,hw2⟩:∃ w2,w2=w.alloc (.cells cs 51):=⟨_,rfl⟩
 have X1:Box w w2 w.heap.size 51 cs:=hw2▸Box.new w _ cs
 have hnI:(Tryz.prog.info? 51).map (·.size)=some cs.size:=by rw [h.size hf];kernel_rfl
 have HC:=Lib.hid (h.below X1.bel (Nat.le_refl _))
 have HF:=Lib.hid hf
 have HN:=Lib.hid hN
 have HZ:=Lib.hid hz
 have HX:=Lib.hid X1
 have K0:=h.c0
 rw [hk] at K0
 have HK0:=Lib.hid K0
 have HK1:=Lib.hid h.c1
 have HK2:=Lib.hid h.c2
 have HK3:=Lib.hid (h.c35 hf)
 have HLR:=Lib.hid (show lenR o=1+o.text.length by unfold lenR;rw [hk];rfl)
 have a0:w2.cell? ⟨w.heap.size,0,none⟩=some (.int .i64 1):=(X1.at_.cell 0).trans K0
 have HBX:=Lib.hid (fun (wx:World) (hb:Below w2.heap.size w2 wx)=>(show Box w wx w.heap.size 51 cs from X1.go hb))
 have e2:=hw2.symm
 clear h hf hN hz X1 hnI K0 hk hw2
 obtain ⟨w3,hw3⟩:∃ w3,w3=w2.alloc (.cells #[.int .u8 98] 5):=⟨_,rfl⟩
 have HP:Hid (PadN w2.heap.size w2 (.slice (some ⟨w2.heap.size,0,none⟩) 1 1) 1 w3):=Lib.hid (by rw [hw3];exact pad_one w2 98)
 have HT:=Lib.hid (HC.out.text.below HP.out.bel (Nat.le_refl _))
 have b1:w3.cell? ⟨w.heap.size,1,none⟩=some (.slice T o.text.length tc):=((HBX.out _ HP.out.bel).at_.cell 1).trans HK1.out
 have e3:=hw3.symm
 clear hw3
 go_enter Tryz.func56,Tryz.ntmps56
 go_wp2_with (with_reducible (show wpList _ _ _ (Oper.mk _ (Op.call (Call.mk (Callee.builtin Builtin.append) _ _)) _ _ _ _::_) _ _);refine pause ?_)
 unfold Paused
 refine wpList_padB (by rfl) (.tmp 17) (.tmp 19) (by rfl) rfl (by rfl) HP.out (by rfl) HT.out (by have:=HZ.out;omega) ?_
 intro v4 w4 hp _
 obtain ⟨ys,hyl,hq⟩:=hp
 obtain ⟨A,c,rfl⟩:=own_slice hq.own
 have HE:=Lib.hid (show Below w.heap.size w w4 from below_next HX.out.bel hq.bel)
 clear hq
 go_wp2
 go_ret
 exact ⟨A,c,by rw [HLR.out];rfl,HE.out⟩
set_option maxHeartbeats 4000000 in
theorem rlaid4 (o:Ob) (cs:Array Value) (T E P:Option Addr) (tc ec pc:Nat) (w:World) (h:ObC w o cs T tc E ec P pc) (hf:o.Fit) (hN:o.Near) (hz:o.text.length≤300) (hk:o.kind=4) :
  Calls Tryz.prog 56 #[.agg cs] w fun e w'=>∃ A c,e=.returned (.slice A (lenR o) c)∧Below w.heap.size w w':=by
 obtain ⟨w2,hw2⟩:∃ w2,w2=w.alloc (.cells cs 51):=⟨_,rfl⟩
 have X1:Box w w2 w.heap.size 51 cs:=hw2▸Box.new w _ cs
 have hnI:(Tryz.prog.info? 51).map (·.size)=some cs.size:=by rw [h.size hf];kernel_rfl
 have HC:=Lib.hid (h.below X1.bel (Nat.le_refl _))
 have HF:=Lib.hid hf
 have HN:=Lib.hid hN
 have HZ:=Lib.hid hz
 have HX:=Lib.hid X1
 have K0:=h.c0
 rw [hk] at K0
 have HK0:=Lib.hid K0
 have HK1:=Lib.hid h.c1
 have HK2:=Lib.hid h.c2
 have HK3:=Lib.hid (h.c35 hf)
 have HLR:=Lib.hid (show lenR o=1+32+o.text.length by unfold lenR;rw [hk];rfl)
 have a0:w2.cell? ⟨w.heap.size,0,none⟩=some (.int .i64 4):=(X1.at_.cell 0).trans K0
 have HBX:=Lib.hid (fun (wx:World) (hb:Below w2.heap.size w2 wx)=>(show Box w wx w.heap.size 51 cs from X1.go hb))
 have e2:=hw2.symm
 clear h hf hN hz X1 hnI K0 hk hw2
 go_enter Tryz.func56,Tryz.ntmps56
 obtain ⟨w3,hw3⟩:∃ w3,w3=w2.alloc (.cells #[.int .u8 103] 5):=⟨_,rfl⟩
 have HP0:Hid (PadN w2.heap.size w2 (.slice (some ⟨w2.heap.size,0,none⟩) 1 1) 1 w3):=Lib.hid (by rw [hw3];exact pad_one w2 103)
 have e3:=hw3.symm
 have b0:w3.cell? ⟨w.heap.size,0,none⟩=some (.int .i64 4):=((HBX.out _ HP0.out.bel).at_.cell 0).trans HK0.out
 clear hw3
 have HTG:Hid (Id32 o.target):=Lib.hid HF.out.target
 have HMD:Hid (w3.rangeAt w.heap.size 3 (cellsB o.target)):=Lib.hid (tgt_idx (HBX.out _ HP0.out.bel).at_ (ob_mid HC.out))
 go_wp2_with (with_reducible (show wpList _ _ _ (Oper.mk _ (Op.load 41 _) _ _ _ _::_) _ _);refine pause ?_)
 unfold Paused
 refine wpList_mid_w (by rfl) 41 (.tmp 58) (by rfl) w.heap.size 3 (by rfl) _ _ HMD.out Tryz.underlying41 (by rfl) (by rw [cellsP1_len HTG.out];kernel_rfl) ?_
 have HID:=HTG
 generalize o.target=id at HID
 have HSZ:Hid ((1:Nat)≤1):=Lib.hid (Nat.le_refl _)
 go_wp2
 clear b0 e3
 go_loopw [3,60] (fun v j wr=>∃ q:Nat,q≤32∧j=.int .i64 (q:Nat)∧Hid (PadN w2.heap.size w2 v (1+q) wr)) (fun _ j _=>32 - (intOf j).toNat)
 case atStart=>exact ⟨0,by omega,rfl,HP0⟩
 case round=>
  obtain ⟨q,hq,rfl,HQ⟩:=hrel
  by_cases hq32:q < 32
  ·have j1:((q:Nat):Int) < 32:=by omega
   have j2:(0:Int)≤((q:Nat):Int):=by omega
   have hix:∀ w',(Instr.index 41 (.agg (cellsB id).toArray) (.int .i64 (q:Nat))).run Tryz.prog w'=.ok (.int .u8 ((id.getD q 0:Nat):Int)) w':=fun w'=>run_indexArr (n:=32) Tryz.underlying41 Tryz.underlying5 (by kernel_rfl) _ q _ hq32 (by rw [List.getElem?_toArray];exact cellsB_get (by rw [HID.out.1];exact hq32)) _ rfl w'
   generalize id.getD q 0=x at hix
   go_wp2_with (with_reducible (show wpList _ _ _ (Oper.mk _ (Op.call (Call.mk (Callee.builtin Builtin.append) _ _)) _ _ _ _::_) _ _);refine pause ?_)
   unfold Paused
   change wpList _ _ _ _ _ (wr.alloc (.cells (u8s [x]) 5))
   have HPb:=Lib.hid (HQ.out.below rfl ((Below.refl wr.heap.size wr).alloc (Nat.le_refl _) (.cells (u8s [x]) 5)))
   have HRb:Hid (Rd (wr.alloc (.cells (u8s [x]) 5)) (.slice (some ⟨wr.heap.size,0,none⟩) 1 1) [x]):=Lib.hid (rd_of_lit wr [x] _ (by simp))
   generalize wr.alloc (.cells (u8s [x]) 5)=wb at HPb HRb ⊢
   generalize wr.heap.size=gs at HRb ⊢
   refine wpList_padB (by rfl) (.tmp 63) (.tmp 65) (by rfl) rfl (by rfl) HPb.out (by rfl) HRb.out (by have:=HSZ.out;simp only [List.length_cons,List.length_nil];omega) ?_
   intro v1 w1 hp1 _
   have HP1:Hid (PadN w2.heap.size w2 v1 (1+(q+1)) w1):=Lib.hid hp1
   clear hp1 hix
   go_wp2
   go_roundw
   case rel=>exact ⟨q+1,by omega,by go_num,HP1⟩
   case measure=>simp [intOf];omega
  ·have hq2:q=32:=by omega
   subst hq2
   clear hq hq32
   have b0:wr.cell? ⟨w.heap.size,0,none⟩=some (.int .i64 4):=((HBX.out _ HQ.out.bel).at_.cell 0).trans HK0.out
   have HPT:Hid (PadN w2.heap.size w2 u3 (1+32) wr):=HQ
   have HTX:=Lib.hid (HC.out.text.below HPT.out.bel (Nat.le_refl _))
   have b1:wr.cell? ⟨w.heap.size,1,none⟩=some (.slice T o.text.length tc):=((HBX.out _ HPT.out.bel).at_.cell 1).trans HK1.out
   go_wp2_with (with_reducible (show wpList _ _ _ (Oper.mk _ (Op.call (Call.mk (Callee.builtin Builtin.append) _ _)) _ _ _ _::_) _ _);refine pause ?_)
   unfold Paused
   refine wpList_padB (by rfl) (.tmp 97) (.tmp 99) (by rfl) rfl (by rfl) HPT.out (by rfl) HTX.out (by have:=HZ.out;have:=HSZ.out;omega) ?_
   intro v9 w9 hp9 _
   obtain ⟨ys,hyl,hq9⟩:=hp9
   obtain ⟨A,c,rfl⟩:=own_slice hq9.own
   have HE:=Lib.hid (show Below w.heap.size w w9 from below_next HX.out.bel hq9.bel)
   clear hq9 b1
   go_wp2
   go_ret
   exact ⟨A,c,by rw [HLR.out];rfl,HE.out⟩
end Go.Proofs.YtndgadjeeinedaaGreatDoor
/- Bytes are appended onto one's own row, what is appended lying anywhere. -/
namespace Go.Proofs.YtndgadjeeinedaaGreatDoor
open Go Go.RowKit
theorem Pad.nextP {B:Nat} {w wr w':World} {v:Value} {ys:List Nat} (h:Pad B w v ys wr) (hB:w.heap.size=B) (hb:Below wr.heap.size wr w'):Pad B w v ys w':=by
 subst hB
 exact h.step hb
theorem wpList_padP {ops:Array Oper} {rest:List Oper} {o:Oper} {a:Act} {wr:World} {Q:Exit→Act→World→Prop} (hgd:o.guard=none) (s x:Operand)
  (ho:o.op=.call { callee:=.builtin .append,args:=#[s,x],argTypes:=#[25,25] }) {B:Nat} {w2:World} (hB:w2.heap.size=B) {v:Value} {ys:List Nat} (hs:a.eval s=v) (hp:Pad B w2 v ys wr) {u:Value} {xs:List Nat} (hx:a.eval x=u) (hu:Rd wr u xs) (hn:ys.length+xs.length≤1000000)
  (h:∀ v' w',Pad B w2 v' (ys++xs) w'→wpList Tryz.prog ops Q rest (a.put o.dst v') w'):wpList Tryz.prog ops Q (o::rest) a wr:=by
 have hl:=hp.low hB
 refine wpList_appendB hgd s x ho B v ys hs hp.own hl u hx xs hu (by omega) fun v' w' ho hg=>?_
 exact h v' w' ⟨ho,below_ownB hB hp.bel hp.own hg⟩
theorem fldP_bytes (A:Option Addr) (n c:Nat):Tryz.prog.built 59 [(1,.slice A n c)]=some #[.int .i64 0,.slice A n c]:=by kernel_rfl
theorem fldP_num (n:Int):Tryz.prog.built 59 [(0,.int .i64 n)]=some #[.int .i64 n,.slice none 0 0]:=by kernel_rfl
namespace Pk
abbrev Item:=List Nat×Nat
inductive R (α:Type) where
 | bad (e:Nat)
 | ok (a:α)
noncomputable def find (l:List Item) (id:List Nat):Option Item:=l.foldl (fun o p=>if id=Sha.sum p.1 then some p else o) none
theorem find_snoc (l:List Item) (p:Item) (id:List Nat):find (l++[p]) id=if id=Sha.sum p.1 then some p else find l id:=by
 unfold find;rw [List.foldl_append];rfl
noncomputable def adm (out:List Item) (t:List Nat):Nat:=
 if 300 < t.length then 13 else match Ob.parse t with
  | .bad e=>e
  | .ok _=>if (find out (Sha.sum t)).isSome then 20 else 0
def text (ys:List Nat):Option (List Nat×List Nat):=
 if ys.length < 2 then none else if ys.length < 2+Oc.val (ys.take 2) then none else some ((ys.drop 2).take (Oc.val (ys.take 2)),ys.drop (2+Oc.val (ys.take 2)))
noncomputable def base (out kn:List Item) (id:List Nat):Option Item:=match find out id with | some p=>some p | none=>find kn id
noncomputable def told (out kn:List Item):List Nat→R (Item×List Nat)
 | []=>.bad 2
 | k::ys=>
  if k=0 then (match text ys with | none=>.bad 2 | some q=>.ok ((q.1,0),q.2))
  else if k=1 then
   (if ys.length < 32 then .bad 2 else match text (ys.drop 32) with
    | none=>.bad 2
    | some q=>match base out kn (ys.take 32) with
     | none=>.bad 9
     | some p=>if 5≤p.2 then .bad 8 else match Dl.applyP p.1 q.1 with
      | .err c=>.bad (c+1)
      | .ok t=>.ok ((t,p.2+1),q.2))
  else .bad 7
theorem told_cons (out kn:List Item) (k:Nat) (ys:List Nat):told out kn (k::ys) =
  if k=0 then (match text ys with | none=>.bad 2 | some q=>.ok ((q.1,0),q.2))
  else if k=1 then
   (if ys.length < 32 then .bad 2 else match text (ys.drop 32) with
    | none=>.bad 2
    | some q=>match base out kn (ys.take 32) with
     | none=>.bad 9
     | some p=>if 5≤p.2 then .bad 8 else match Dl.applyP p.1 q.1 with
      | .err c=>.bad (c+1)
      | .ok t=>.ok ((t,p.2+1),q.2))
  else .bad 7:=rfl
noncomputable def step (out kn:List Item) (xs:List Nat):R (Item×List Nat):=match told out kn xs with
 | .bad e=>.bad e
 | .ok q=>if adm out q.1.1=0 then .ok q else .bad (adm out q.1.1)
noncomputable def go (kn:List Item):Nat→List Item→List Nat→R (List Item)
 | 0,out,xs=>if xs.length=0 then .ok out else .bad 3
 | n+1,out,xs=>match step out kn xs with
  | .bad e=>.bad e
  | .ok q=>go kn n (out++[q.1]) q.2
noncomputable def decode (kn:List Item) (b:List Nat):R (List Item):=if 2000 < b.length then .bad 13 else match b with
 | []=>.bad 2
 | n::r=>if 64 < n then .bad 22 else go kn n [] r
def Good (l:List Item):Prop:=∀ p∈l,p.1.length≤300∧(∃ o,Ob.parse p.1=.ok o)∧p.2≤5
theorem parse_bad_pos {t:List Nat} {e:Nat} (h:Ob.parse t=.bad e):0 < e:=by
 have hf:∀ o,Prs.fin o=.bad e→0 < e:=fun o h=>by
  unfold Prs.fin at h
  split at h
  ·cases h
  ·cases h;omega
 unfold Ob.parse at h
 split at h
 ·cases h;omega
 ·repeat' split at h
  all_goals first | exact hf _ h | (cases h;omega)
theorem admit_zero {out:List Item} {t:List Nat} (h:adm out t=0):t.length≤300∧(∃ o,Ob.parse t=.ok o)∧find out (Sha.sum t)=none:=by
 unfold adm at h
 split at h
 ·cases h
 ·rename_i hl
  split at h
  ·rename_i e he
   have:=parse_bad_pos he;omega
  ·rename_i o ho
   split at h
   ·cases h
   ·rename_i hf
    exact ⟨by omega,⟨o,ho⟩,by simpa using hf⟩
theorem step_ok {out kn:List Item} {xs:List Nat} {q:Item×List Nat} (h:step out kn xs=.ok q):told out kn xs=.ok q∧adm out q.1.1=0:=by
 unfold step at h
 split at h
 ·cases h
 ·rename_i r hr
  split at h
  ·rename_i ha
   cases h
   exact ⟨hr,ha⟩
  ·cases h
theorem text_len {ys:List Nat} {q:List Nat×List Nat} (h:text ys=some q):q.2.length < ys.length∧q.1.length+2≤ys.length:=by
 unfold text at h
 split at h
 ·cases h
 ·split at h
  ·cases h
  ·cases h
   simp only [List.length_drop,List.length_take]
   omega
theorem told_len {out kn:List Item} {xs:List Nat} {q:Item×List Nat} (h:told out kn xs=.ok q):q.2.length < xs.length∧(q.1.2≤5):=by
 obtain _ | ⟨k,ys⟩:=xs
 ·cases h
 ·rw [told_cons] at h
  split at h
  ·split at h
   ·cases h
   ·rename_i r hr
    cases h
    exact ⟨by have:=(text_len hr).1;rw [List.length_cons];simp only;omega,by simp⟩
  ·split at h
   ·split at h
    ·cases h
    ·split at h
     ·cases h
     ·rename_i r hr
      split at h
      ·cases h
      ·split at h
       ·cases h
       ·split at h
        ·cases h
        ·cases h
         have:=(text_len hr).1
         rw [List.length_drop] at this
         exact ⟨by rw [List.length_cons];simp only;omega,by simp only;omega⟩
   ·cases h
theorem go_good (kn:List Item):∀ (n:Nat) (out:List Item) (xs:List Nat) (l:List Item),go kn n out xs=.ok l→Good out→Good l∧l.length=out.length+n
 | 0,out,xs,l,h,hg=>by
  unfold go at h
  split at h
  ·cases h;exact ⟨hg,rfl⟩
  ·cases h
 | n+1,out,xs,l,h,hg=>by
  unfold go at h
  split at h
  ·cases h
  ·rename_i q hq
   obtain ⟨h1,h2⟩:=step_ok hq
   have ha:=admit_zero h2
   obtain ⟨g1,g2⟩:=go_good kn n _ _ l h (fun p hp=>by
    rcases List.mem_append.1 hp with hp | hp
    ·exact hg p hp
    ·rw [List.mem_singleton.1 hp]
     exact ⟨ha.1,ha.2.1,(told_len h1).2⟩)
   exact ⟨g1,by rw [g2];simp;omega⟩
noncomputable def lays (last:Item) (t:List Nat):List Nat×Nat:=
 if last.2 < 5∧(Dl.mk last.1 t).length+40≤t.length then ((1::Sha.sum last.1)++([(Dl.mk last.1 t).length / 256,(Dl.mk last.1 t).length % 256]++Dl.mk last.1 t),last.2+1)
 else (0::([t.length / 256,t.length % 256]++t),0)
noncomputable def encGo:List (List Nat)→List Item→Item→List Nat→R (List Nat)
 | [],_,_,pk=>if 2000 < pk.length then .bad 13 else .ok pk
 | t::r,out,last,pk=>if adm out t=0 then encGo r (out++[(t,(lays last t).2)]) (t,(lays last t).2) (pk++(lays last t).1) else .bad (adm out t)
noncomputable def encode (l:List (List Nat)):R (List Nat):=if 64 < l.length then .bad 22 else encGo l [] ([],0) [l.length]
end Pk
end Go.Proofs.YtndgadjeeinedaaGreatDoor
/- Maps from ids to any values, as functions: as maps from whole numbers (MapF). -/
namespace Go.Proofs.YtndgadjeeinedaaGreatDoor
open Go Go.RowKit Go.Maps
def selfO (v:Value):Option (DataW Value×List MemPlace):=some (.held v,[])
theorem selfO_mk (v:Value):selfO v=some (.held v,[]):=by unfold selfO;rfl
theorem oid_law:Keyed Tryz.prog 42:=
 Keyed.of_law (deep_law_laid (by kernel_rfl) (m:=2) (by omega) (by rw [show Tryz.prog.types.size=230 from by kernel_rfl];decide) (by kernel_rfl) (by rw [Tryz.underlying42]))
def oidKey (xs:List Nat):Lit:=.string (keyBytes (xs.map fun (n:Nat)=>Lit.int .u8 (n:Int)))
theorem mapM_all {α β:Type} {f:α→Option β} {g:α→β}:∀ (l:List α),(∀ a∈l,f a=some (g a))→l.mapM f=some (l.map g)
 | [],_=>rfl
 | a::l,h=>by
  rw [List.mapM_cons,h a (by simp),mapM_all l (fun b hb=>h b (by simp [hb]))]
  rfl
theorem flatten_ones {α β:Type} (g:α→β):∀ (l:List α),(l.map fun a=>[g a]).flatten=l.map g
 | []=>rfl
 | a::l=>by rw [List.map_cons,List.flatten_cons,flatten_ones g l];rfl
theorem u8_wf {x:Nat} (h:x < 256):(Lit.int .u8 (x:Int)).wf=true:=by
 show (decide ((0:Int)≤(x:Int)) && decide ((x:Int)≤255))=true
 rw [decide_eq_true (by omega),decide_eq_true (by omega)]
 rfl
theorem key_lits {cs:List Value} {m c:Nat} (hl:cs.length=c) (hc:Tryz.prog.cellsOf 42=c) :
  Tryz.prog.keyLits (m+1) 42 cs=((List.range 32).mapM fun i=>Tryz.prog.keyLits m 5 ((cs.drop (i * Tryz.prog.cellsOf 5)).take (Tryz.prog.cellsOf 5))).map List.flatten:=by
 simp only [Program.keyLits,Tryz.underlying42]
 rw [if_pos (by rw [hl,hc])]
theorem oid_key {xs:List Nat} (h:Id32 xs):keyOf Tryz.prog 42 (.agg (u8s xs))=some (oidKey xs):=by
 obtain ⟨hl,hb⟩:=h
 have hc:Tryz.prog.cellsOf 42=32:=by kernel_rfl
 have hc1:Tryz.prog.cellsOf 5=1:=by kernel_rfl
 have hk:Tryz.prog.keyType 42=true:=by kernel_rfl
 have hf:(Value.agg (u8s xs)).formed Tryz.prog 42=true:=by
  unfold Value.formed
  rw [Tryz.underlying42]
  simp only
  rw [u8s_size,hl,hc]
  rfl
 obtain ⟨m,hm⟩:∃ m,Tryz.prog.types.size=m+1:=⟨230 - 1,by kernel_rfl⟩
 have hlen:(Value.agg (u8s xs)).cells.toList.length=32:=by
  show (u8s xs).toList.length=32
  simp [u8s,hl]
 have hget:∀ i,i < 32→((Value.agg (u8s xs)).cells.toList.drop (i * 1)).take 1=[Value.int .u8 ((xs.getD i 0:Nat):Int)]:=fun i hi=>by
  show ((u8s xs).toList.drop (i * 1)).take 1=_
  rw [Nat.mul_one]
  have e:(u8s xs).toList=xs.map fun (n:Nat)=>Value.int .u8 (n:Int):=by simp [u8s]
  have e1:(xs.drop i).take 1=[xs.getD i 0]:=by
   rw [List.drop_eq_getElem_cons (by omega),List.take_succ_cons,List.take_zero]
   simp [List.getD,hl,hi]
  rw [e,←List.map_drop,←List.map_take,e1]
  rfl
 have hone:∀ i∈List.range 32,Tryz.prog.keyLits Tryz.prog.types.size 5 (((Value.agg (u8s xs)).cells.toList.drop (i * 1)).take 1)=some [Lit.int .u8 ((xs.getD i 0:Nat):Int)]:=fun i hi=>by
  have h:=hb i
  rw [hget i (List.mem_range.1 hi),hm]
  generalize xs.getD i 0=y at h ⊢
  have hw:(Lit.int .u8 (y:Int)).wf=true:=u8_wf h
  simp [Program.keyLits,Tryz.underlying5,hw]
 unfold keyOf
 rw [Tryz.underlying42]
 simp only
 rw [hk,hf]
 simp only [Bool.and_self,if_true]
 rw [key_lits hlen hc,hc1,mapM_all (g:=fun i=>[Lit.int .u8 ((xs.getD i 0:Nat):Int)]) _ hone]
 simp only [Option.map_some]
 rw [flatten_ones]
 unfold oidKey
 have e:(List.range 32).map (fun i=>Lit.int .u8 ((xs.getD i 0:Nat):Int))=xs.map fun (n:Nat)=>Lit.int .u8 (n:Int):=by
  apply List.ext_getElem
  ·simp [hl]
  ·intro i h1 h2
   simp at h1
   simp [List.getD,hl,h1]
 rw [e]
theorem oidKey_lit {xs:List Nat} (h:Id32 xs):WideAt.IsKeyLit (oidKey xs):=oid_law.key (oid_key h)
theorem oidKey_ne {xs ys:List Nat} (hx:Id32 xs) (hy:Id32 ys) (h:ys≠xs):oidKey ys≠oidKey xs:=fun e=>by
 have h1:=oid_key hx
 have h2:=oid_key hy
 rw [e] at h2
 have h3:=oid_law.inj h2 h1
 injection h3 with h3
 refine h ?_
 have e2:=congrArg Array.toList h3
 simp only [u8s] at e2
 apply List.ext_getElem
 ·have:=congrArg List.length e2;simpa using this
 ·intro i i1 i2
  have:=congrArg (fun l=>l[i]?) e2
  simp [i1,i2] at this
  omega
def MapO (w:World) (b n:Nat) (f:List Nat→Option Value):Prop:=
 ∃ D:DataW Value,w.ownsMap Tryz.prog 42 selfO b n D∧∀ xs,Id32 xs→has D (oidKey xs)=(f xs).isSome∧∀ z,D.atKey (oidKey xs) (.held z)=.held ((f xs).getD z)
def updO (f:List Nat→Option Value) (x:List Nat) (v:Value):List Nat→Option Value:=fun y=>if y=x then some v else f y
section
variable {w w':World} {b n:Nat} {f:List Nat→Option Value} {t e:TypeId} {z:Value} {x:List Nat}
theorem MapO.made (w:World):MapO (w.alloc (.map #[] 0)) w.heap.size 0 (fun _=>none):=⟨_,World.ownsMap_made w _ _ _,fun _i _=>⟨rfl,fun _=>rfl⟩⟩
theorem MapO.lt (h:MapO w b n f):b < w.heap.size:=by obtain ⟨D,h,_⟩:=h;exact h.lt
theorem MapO.kept {row:Option Nat} (h:MapO w b n f) (hg:w.grownBy w' row) (hne:some b≠row):MapO w' b n f:=by obtain ⟨D,h,k⟩:=h;exact ⟨D,h.kept hg hne,k⟩
theorem MapO.below (h:MapO w b n f) (hb:Below w.heap.size w w'):MapO w' b n f:=h.kept (only_of_below hb none) (by simp)
theorem MapO.block (h:MapO w b n f) (e:w'.heap[b]? = w.heap[b]?):MapO w' b n f:=by
 obtain ⟨D,⟨es,clock,h1,h2,h3,h4⟩,k⟩:=h
 exact ⟨D,⟨es,clock,e.trans h1,h2,h3,h4⟩,k⟩
theorem MapO.is (h:MapO w b n f):∃ es clock,w.heap[b]? = some (.map es clock):=by
 obtain ⟨D,⟨es,clock,h1,_⟩,k⟩:=h
 exact ⟨es,clock,h1⟩
theorem MapO.ext (h:MapO w b n f) {g:List Nat→Option Value} (hg:∀ x,Id32 x→f x=g x):MapO w b n g:=by
 obtain ⟨D,h1,k⟩:=h
 exact ⟨D,h1,fun x hx=>by rw [←hg x hx];exact k x hx⟩
theorem MapO.look_ok (h:MapO w b n f) (ht:Tryz.prog.underlying t=some (.map 42 e)) (hz:(zeroValue e).run Tryz.prog w=.ok z w) (hi:Id32 x) :
  (Instr.lookup t (.map (some b)) (.agg (u8s x)) true).run Tryz.prog w=.ok (.tuple #[(f x).getD z,.bool (f x).isSome]) w:=by
 obtain ⟨D,h,k⟩:=h
 obtain ⟨v,ps,hrun,hv⟩:=h.look_ok oid_law ht hz (zd:=.held z) (zp:=[]) (selfO_mk z) (oid_key hi)
 have e0:DataW.held v=D.atKey (oidKey x) (.held z):=congrArg Prod.fst (Option.some.inj hv)
 rw [(k x hi).2 z] at e0
 have e1:=DataW.held.inj e0
 rw [hrun,e1,(k x hi).1]
theorem MapO.store (h:MapO w b n f) (ht:Tryz.prog.underlying t=some (.map 42 e)) (hn:n < maxLen) (hi:Id32 x) (v:Value) :
  ∃ w',(Instr.mapUpdate t (.map (some b)) (.agg (u8s x)) v).run Tryz.prog w=.ok () w'∧MapO w' b (n+1) (updO f x v)∧w.grownBy w' (some b):=by
 obtain ⟨D,h,k⟩:=h
 obtain ⟨w',hrun,h2,hg⟩:=h.update oid_law ht hn (oid_key hi) (val:=v) (d:=.held v) (ps:=[]) (selfO_mk v)
 refine ⟨w',hrun,⟨_,h2,fun y hy=>?_⟩,hg⟩
 unfold updO
 by_cases hyx:y=x
 ·subst hyx
  rw [if_pos rfl]
  exact ⟨has_put_same h.isMap (oidKey_lit hi) _,fun z=>atKey_put_same h.isMap (oidKey_lit hi) _ _⟩
 ·rw [if_neg hyx]
  exact ⟨by rw [has_put_other (oidKey_ne hi hy hyx)];exact (k y hy).1,fun z=>by rw [atKey_put_other (oidKey_ne hi hy hyx)];exact (k y hy).2 z⟩
end
end Go.Proofs.YtndgadjeeinedaaGreatDoor
/- append(s, make([]byte, k)...) onto a row of the call's own. -/
namespace Go.Proofs.YtndgadjeeinedaaGreatDoor
open Go Go.RowKit
end Go.Proofs.YtndgadjeeinedaaGreatDoor
