/- An object that is right, and isn't there yet, is admitted. -/
import Derived.Maps.RangeWalk
import Derived.Test.YtndgadjeeinedaaGreatDoorMOb32s
import Derived.Test.YtndgadjeeinedaaGreatDoorMDl6s
set_option maxRecDepth 100000
namespace Go.Proofs.YtndgadjeeinedaaGreatDoor
open Go Go.RowKit
def KSents (w:World) (a:Nat→Addr):Prop:=∀ k,(k=0∨k=1∨k=2∨k=3∨k=6∨k=7∨k=8∨k=12∨k=18∨k=19∨k=21)→SentAt w (sgs.getD k 0) (stexts.getD k []) (a k)
theorem KSents.below {w w':World} {a:Nat→Addr} (h:KSents w a) {B:Nat} (hb:Below B w w') (hB:w.heap.size≤B):KSents w' a:=fun k hk=>(h k hk).below hb hB
theorem KSents.a {w:World} {a:Nat→Addr} (h:KSents w a):ASents w a:=fun k hk=>h k (by omega)
theorem KSents.p {w:World} {a:Nat→Addr} (h:KSents w a):PSents w a:=⟨(h 1 (by omega)).var,(h 3 (by omega)).var,(h 6 (by omega)).var⟩
theorem MapO.below' {w w':World} {b n:Nat} {f:List Nat→Option Value} (h:MapO w b n f) (hb:Below w.heap.size w w'):MapO w' b n f:=h.below hb
theorem oc_bytes {xs:List Nat} (h:Sha.Byte xs):Oc.bytes xs:=Oc.bytes_of h
theorem zItem_size:((itemC zid nilV 0).toArray:Array Value).size=34:=by kernel_rfl
theorem obj36 {cs:Array Value} (h:cs.size=36):(Tryz.prog.info? 101).map (·.size)=some cs.size:=by rw [h];kernel_rfl
set_option maxHeartbeats 2000000 in
theorem admit_err (mb n c:Nat) (A:Option Addr) (ae:Addr) (w:World)
  (hP:∀ w',Below w.heap.size w w'→Calls Tryz.prog 46 #[.slice A n c] w' fun e w''=>e=.returned (.tuple #[.agg zOc,ev ae])∧Below w'.heap.size w' w'') :
  Calls Tryz.prog 23 #[.map (some mb),.slice A n c] w fun e w'=>e=.returned (.tuple #[zItem,ev ae])∧Below w.heap.size w w':=by
 obtain ⟨w1,hw1⟩:∃ w1,w1=w.alloc (.cells (itemC zid nilV 0).toArray 44):=⟨_,rfl⟩
 have HB1:Hid (Below w.heap.size w w1):=Lib.hid (hw1▸(Below.refl _ _).alloc (Nat.le_refl _) _)
 have HZ1:Hid (Blk w1 w.heap.size 44 (itemC zid nilV 0).toArray):=Lib.hid (hw1▸Blk.new w _ _)
 have CP:=hP w1 HB1.out
 have e1:=hw1.symm
 clear hP hw1
 go_enter Tryz.func23,Tryz.ntmps23
 go_wp2_with (go_at_call 46;refine pause ?_)
 unfold Paused
 change Calls _ _ _ (w.alloc (.cells (itemC zid nilV 0).toArray 44)) _
 rw [e1]
 refine CP.mono ?_
 rintro e w2 ⟨rfl,hb2⟩
 have HB2:=Lib.hid (below_next HB1.out hb2)
 have HZ2:=Lib.hid (HZ1.out.below hb2 HZ1.out.lt)
 clear hb2 CP
 go_wp2_with (with_reducible (show wpList _ _ _ (Oper.mk _ (Op.store 101 _ _) _ _ _ _::_) _ _);refine pause ?_)
 unfold Paused
 change wpList _ _ _ _ _ (w2.alloc (.cells zOc 101))
 refine wpList_store_row (by rfl) 101 (.tmp 6) (.tmp 14) (by rfl) w2.heap.size zOc (by rfl) (by rfl) 101 zOc (Blk.new w2 _ _) (obj36 (by kernel_rfl)) (by rfl) (by kernel_rfl) ?_
 have b3:Below w2.heap.size w2 ((w2.alloc (.cells zOc 101)).setRow w2.heap.size zOc):=below_row ((Below.refl _ _).alloc (Nat.le_refl _) _) (Nat.le_refl _) _
 have HB3:=Lib.hid (below_next HB2.out b3)
 have HZ3:=Lib.hid (HZ2.out.below b3 HZ2.out.lt)
 clear b3
 generalize (w2.alloc (.cells zOc 101)).setRow w2.heap.size zOc=w3 at HB3 HZ3 ⊢
 simp only [Act.put]
 go_wp2_with (with_reducible (show wpList _ _ _ (Oper.mk _ (Op.build 44 _) _ _ _ _::_) _ _);refine pause ?_)
 unfold Paused
 refine wpList_buildK (by rfl) 44 _ (by rfl) [] (by kernel_rfl) _ item_empty ?_
 go_wp2_with (with_reducible (show wpList _ _ _ (Oper.mk _ (Op.store 44 _ _) _ _ _ _::_) _ _);refine pause ?_)
 unfold Paused
 refine wpList_store_row (by rfl) 44 (.tmp 4) (.tmp 18) (by rfl) w.heap.size (itemC zid nilV 0).toArray (by rfl) (by rfl) 44 (itemC zid nilV 0).toArray HZ3.out (by rw [zItem_size];exact item_size) (by rfl) (itemC_one rfl 0) ?_
 have HX:=Lib.hid (HZ3.out.row (itemC zid nilV 0).toArray)
 have HBx:=Lib.hid (below_row HB3.out (Nat.le_refl _) (itemC zid nilV 0).toArray)
 generalize w3.setRow w.heap.size (itemC zid nilV 0).toArray=w4 at HX HBx ⊢
 simp only [Act.put]
 go_wp2
 exact bodyPost_ret (v:=.tuple #[zItem,ev ae]) (resultsP2 (t:=4) (s:=5) rfl (by rfl) HX.out zItem_size) rfl ⟨rfl,HBx.out⟩
def ParseOk (A:Option Addr) (n c:Nat) (w:World):Prop:=∀ w',Below w.heap.size w w'→Calls Tryz.prog 46 #[.slice A n c] w' fun e w''=>∃ cs:Array Value,e=.returned (.tuple #[.agg cs,.nilIface])∧cs.size=36∧cs.all (·.oneCell')=true∧Below w'.heap.size w' w''
theorem parseOk_of {o:Ob} {xs:List Nat} {a:Nat→Addr} {A:Option Addr} {n c:Nat} {w:World} (hv:Rd w (.slice A n c) xs) (hb:Sha.Byte xs) (hz:xs.length≤300) (hS:KSents w a) (hp:Ob.parse xs=.ok o):ParseOk A n c w:=fun w' hw=>
 (oparse_ok o xs a _ w' (hv.below hw (Nat.le_refl _)) (oc_bytes hb) hz (hS.p.at_ hw) hp).mono fun e w'' ⟨cs,T,tc,E,ec,P,pc,he,hf,_,ho,hbb⟩=>⟨cs,he,by rw [ho.cells,cellsOb_size _ _ _ _ _ hf.target.1],ho.one,hbb⟩
set_option maxHeartbeats 2000000 in
theorem admit_in (mb nm n c:Nat) (A:Option Addr) (xs:List Nat) (out:List Pk.It) (_aD:Addr) (w:World) (hv:Rd w (.slice A n c) xs) (hb:Sha.Byte xs) (hz:xs.length≤300) (ht:Tabs w) (hP:ParseOk A n c w) (hM:MapO w mb nm (fun id=>(Pk.fnd out id).map Pk.It.v)) (_ho:∀ p∈out,p.val.oneCell'=true) (hf:Pk.fnd out (Sha.sum xs)=none) :
  Calls Tryz.prog 23 #[.map (some mb),.slice A n c] w fun e w'=>e=.returned (.tuple #[.agg (itemC (Sha.sum xs) (.slice A n c) 0).toArray,.nilIface])∧Below w.heap.size w w':=by
 obtain ⟨w1,hw1⟩:∃ w1,w1=w.alloc (.cells (itemC zid nilV 0).toArray 44):=⟨_,rfl⟩
 have HB1:Hid (Below w.heap.size w w1):=Lib.hid (hw1▸(Below.refl _ _).alloc (Nat.le_refl _) _)
 have HZ1:Hid (Blk w1 w.heap.size 44 (itemC zid nilV 0).toArray):=Lib.hid (hw1▸Blk.new w _ _)
 have CP:=hP w1 HB1.out
 have e1:=hw1.symm
 have CID:=fun w' (hw:Below w.heap.size w w')=>oid_any xs (.slice A n c) w' (hv.below hw (Nat.le_refl _)) hb (ht.below hw (Nat.le_refl _)) (by omega)
 have HF:=Lib.hid hf
 have HM:=Lib.hid hM
 have HS:=Lib.hid (sum_id xs)
 have LK:∀ w',Below w.heap.size w w'→(Instr.lookup 40 (.map (some mb)) (.agg (u8s (Sha.sum xs))) true).run Tryz.prog w'=.ok (.tuple #[zItem,.bool false]) w':=fun w' hw=>by
  have h:=(hM.below' hw).look_ok Tryz.underlying40 (zeroItem w') (sum_id xs)
  rw [show (Pk.fnd out (Sha.sum xs)).map Pk.It.v=none by rw [hf];rfl] at h
  exact h
 obtain ⟨su,hsu⟩:∃ su,su=Sha.sum xs:=⟨_,rfl⟩
 rw [←hsu] at CID LK HS ⊢
 clear hP hw1 hv hb hz ht hM _ho hf hsu HF
 go_enter Tryz.func23,Tryz.ntmps23
 go_wp2_with (go_at_call 46;refine pause ?_)
 unfold Paused
 change Calls _ _ _ (w.alloc (.cells (itemC zid nilV 0).toArray 44)) _
 rw [e1]
 refine CP.mono ?_
 rintro e w2 ⟨cs,rfl,h36,hc1,hb2⟩
 have HC:=Lib.hid h36
 have H1:=Lib.hid hc1
 have HB2:=Lib.hid (below_next HB1.out hb2)
 have HZ2:=Lib.hid (HZ1.out.below hb2 HZ1.out.lt)
 clear hb2 CP h36 hc1
 go_wp2_with (with_reducible (show wpList _ _ _ (Oper.mk _ (Op.store 101 _ _) _ _ _ _::_) _ _);refine pause ?_)
 unfold Paused
 change wpList _ _ _ _ _ (w2.alloc (.cells zOc 101))
 refine wpList_store_row (by rfl) 101 (.tmp 6) (.tmp 14) (by rfl) w2.heap.size cs (by rfl) (by rfl) 101 zOc (Blk.new w2 _ _) (obj36 HC.out) (by rw [HC.out];rfl) H1.out ?_
 have b3:Below w2.heap.size w2 ((w2.alloc (.cells zOc 101)).setRow w2.heap.size cs):=below_row ((Below.refl _ _).alloc (Nat.le_refl _) _) (Nat.le_refl _) _
 have HB3:=Lib.hid (below_next HB2.out b3)
 have HZ3:=Lib.hid (HZ2.out.below b3 HZ2.out.lt)
 clear b3
 generalize (w2.alloc (.cells zOc 101)).setRow w2.heap.size cs=w3 at HB3 HZ3 ⊢
 simp only [Act.put]
 go_wp2_with (go_at_call 47;refine pause ?_)
 unfold Paused
 refine (CID _ HB3.out).mono ?_
 rintro e w5 ⟨rfl,hb5⟩
 have HB5:=Lib.hid (below_next HB3.out hb5)
 have HZ5:=Lib.hid (HZ3.out.below hb5 HZ3.out.lt)
 clear hb5 CID
 go_wp2_with (with_reducible (show wpList _ _ _ (Oper.mk _ (Op.store 42 _ _) _ _ _ _::_) _ _);refine pause ?_)
 unfold Paused
 change wpList _ _ _ _ _ (w5.alloc (.cells (u8s (List.replicate 32 0)) 42))
 refine wpList_store_row (by rfl) 42 (.tmp 8) (.tmp 21) (by rfl) w5.heap.size (u8s su) (by rfl) (by rfl) 42 (u8s (List.replicate 32 0)) (Blk.new w5 _ _) (by rw [u8s_size,HS.out.1];exact oid_load) (by rw [u8s_size,u8s_size,HS.out.1];rfl) (u8s_one _) ?_
 have b6:Below w5.heap.size w5 ((w5.alloc (.cells (u8s (List.replicate 32 0)) 42)).setRow w5.heap.size (u8s su)):=below_row ((Below.refl _ _).alloc (Nat.le_refl _) _) (Nat.le_refl _) _
 have HB6:=Lib.hid (below_next HB5.out b6)
 have HZ6:=Lib.hid (HZ5.out.below b6 HZ5.out.lt)
 have HI6:Hid (Blk ((w5.alloc (.cells (u8s (List.replicate 32 0)) 42)).setRow w5.heap.size (u8s su)) w5.heap.size 42 (u8s su)):=Lib.hid ((Blk.new w5 _ _).row _)
 clear b6
 generalize (w5.alloc (.cells (u8s (List.replicate 32 0)) 42)).setRow w5.heap.size (u8s su)=w6 at HB6 HZ6 HI6 ⊢
 generalize w5.heap.size=g8 at HI6 ⊢
 simp only [Act.put]
 have q6:=LK w6 HB6.out
 go_wp2_with (with_reducible (show wpList _ _ _ (Oper.mk _ (Op.load 42 _) _ _ _ _::_) _ _);refine pause ?_)
 unfold Paused
 refine wpList_row_w (by rfl) 42 (.tmp 8) (by rfl) g8 (by rfl) 42 (u8s su) _ HI6.out Tryz.underlying42 (by rfl) (by rw [u8s_size,HS.out.1];exact oid_load) ?_
 go_wp2_with (with_reducible (show wpList _ _ _ (Oper.mk _ (Op.store 44 _ _) _ _ _ _::_) _ _);refine pause ?_)
 unfold Paused
 change wpList _ _ _ _ _ (w6.alloc (.cells (itemC zid nilV 0).toArray 44))
 refine wpList_store_row (by rfl) 44 (.tmp 9) (.tmp 26) (by rfl) w6.heap.size (itemC zid nilV 0).toArray (by rfl) (by rfl) 44 (itemC zid nilV 0).toArray (Blk.new w6 _ _) (by rw [zItem_size];exact item_size) (by rfl) (itemC_one rfl 0) ?_
 have b7:Below w6.heap.size w6 ((w6.alloc (.cells (itemC zid nilV 0).toArray 44)).setRow w6.heap.size (itemC zid nilV 0).toArray):=below_row ((Below.refl _ _).alloc (Nat.le_refl _) _) (Nat.le_refl _) _
 have HB7:=Lib.hid (below_next HB6.out b7)
 have HZ7:=Lib.hid (HZ6.out.below b7 HZ6.out.lt)
 have HI7:=Lib.hid (HI6.out.below b7 HI6.out.lt)
 clear b7 q6 LK
 generalize (w6.alloc (.cells (itemC zid nilV 0).toArray 44)).setRow w6.heap.size (itemC zid nilV 0).toArray=w7 at HB7 HZ7 HI7 ⊢
 generalize w6.heap.size=g9
 simp only [Act.put]
 go_wp2_with (with_reducible (show wpList _ _ _ (Oper.mk _ (Op.load 42 _) _ _ _ _::_) _ _);refine pause ?_)
 unfold Paused
 refine wpList_row_w (by rfl) 42 (.tmp 8) (by rfl) g8 (by rfl) 42 (u8s su) _ HI7.out Tryz.underlying42 (by rfl) (by rw [u8s_size,HS.out.1];exact oid_load) ?_
 go_wp2_with (with_reducible (show wpList _ _ _ (Oper.mk _ (Op.build 44 _) _ _ _ _::_) _ _);refine pause ?_)
 unfold Paused
 refine wpList_buildK (by rfl) 44 _ (by rfl) [(0,.agg (u8s su)),(1,.slice A n c)] (by kernel_rfl) _ (item_built HS.out _ rfl) ?_
 go_wp2_with (with_reducible (show wpList _ _ _ (Oper.mk _ (Op.store 44 _ _) _ _ _ _::_) _ _);refine pause ?_)
 unfold Paused
 refine wpList_store_row (by rfl) 44 (.tmp 4) (.tmp 33) (by rfl) w.heap.size (itemC su (.slice A n c) 0).toArray (by rfl) (by rfl) 44 (itemC zid nilV 0).toArray HZ7.out (by rw [List.size_toArray,itemC_len HS.out];exact item_size) (by rw [List.size_toArray,List.size_toArray,itemC_len HS.out];rfl) (itemC_one rfl 0) ?_
 have HX:=Lib.hid (HZ7.out.row (itemC su (.slice A n c) 0).toArray)
 have HBx:=Lib.hid (below_row HB7.out (Nat.le_refl _) (itemC su (.slice A n c) 0).toArray)
 generalize w7.setRow w.heap.size (itemC su (.slice A n c) 0).toArray=w8 at HX HBx ⊢
 simp only [Act.put]
 go_wp2
 exact bodyPost_ret (v:=.tuple #[.agg (itemC su (.slice A n c) 0).toArray,.nilIface]) (resultsP2 (t:=4) (s:=5) rfl (by rfl) HX.out (by rw [List.size_toArray,itemC_len HS.out])) rfl ⟨rfl,HBx.out⟩
set_option maxHeartbeats 2000000 in
theorem admit_dup (mb nm n c:Nat) (A:Option Addr) (xs:List Nat) (out:List Pk.It) (aD:Addr) (w:World) (hv:Rd w (.slice A n c) xs) (hb:Sha.Byte xs) (hz:xs.length≤300) (ht:Tabs w) (hP:ParseOk A n c w) (hM:MapO w mb nm (fun id=>(Pk.fnd out id).map Pk.It.v)) (ho:∀ p∈out,p.val.oneCell'=true) (p:Pk.It) (hf:Pk.fnd out (Sha.sum xs)=some p) (hD:w.cell? ⟨20,0,none⟩=some (ev aD)) :
  Calls Tryz.prog 23 #[.map (some mb),.slice A n c] w fun e w'=>e=.returned (.tuple #[zItem,ev aD])∧Below w.heap.size w w':=by
 obtain ⟨w1,hw1⟩:∃ w1,w1=w.alloc (.cells (itemC zid nilV 0).toArray 44):=⟨_,rfl⟩
 have HB1:Hid (Below w.heap.size w w1):=Lib.hid (hw1▸(Below.refl _ _).alloc (Nat.le_refl _) _)
 have HZ1:Hid (Blk w1 w.heap.size 44 (itemC zid nilV 0).toArray):=Lib.hid (hw1▸Blk.new w _ _)
 have CP:=hP w1 HB1.out
 have e1:=hw1.symm
 have CID:=fun w' (hw:Below w.heap.size w w')=>oid_any xs (.slice A n c) w' (hv.below hw (Nat.le_refl _)) hb (ht.below hw (Nat.le_refl _)) (by omega)
 have HF:=Lib.hid hf
 have HM:=Lib.hid hM
 have HS:=Lib.hid (sum_id xs)
 have HV:=Lib.hid (ho p (Pk.fnd_mem hf).1)
 have HQ:=Lib.hid (sum_id p.text)
 have hm:Tryz.prog.follows .mixedOrders=true:=by kernel_rfl
 have HD:Hid (w.cell? ⟨20,0,none⟩=some (ev aD)):=Lib.hid hD
 have LK:∀ w',Below w.heap.size w w'→(Instr.lookup 40 (.map (some mb)) (.agg (u8s (Sha.sum xs))) true).run Tryz.prog w'=.ok (.tuple #[.agg (itemC (Sha.sum p.text) p.val p.depth).toArray,.bool true]) w':=fun w' hw=>by
  have h:=(hM.below' hw).look_ok Tryz.underlying40 (zeroItem w') (sum_id xs)
  rw [show (Pk.fnd out (Sha.sum xs)).map Pk.It.v=some p.v by rw [hf];rfl] at h
  exact h
 obtain ⟨su,hsu⟩:∃ su,su=Sha.sum xs:=⟨_,rfl⟩
 rw [←hsu] at CID LK HS
 obtain ⟨cp,hcp⟩:∃ cp,cp=(itemC (Sha.sum p.text) p.val p.depth).toArray:=⟨_,rfl⟩
 rw [←hcp] at LK
 have HC4:Hid (cp.size=34):=Lib.hid (by rw [hcp,List.size_toArray,itemC_len HQ.out])
 have HC5:Hid (cp.all (·.oneCell')=true):=Lib.hid (by rw [hcp];exact itemC_one HV.out _)
 clear hP hw1 hv hb hz ht hM ho hf hsu HF hD hcp
 go_enter Tryz.func23,Tryz.ntmps23
 go_wp2_with (go_at_call 46;refine pause ?_)
 unfold Paused
 change Calls _ _ _ (w.alloc (.cells (itemC zid nilV 0).toArray 44)) _
 rw [e1]
 refine CP.mono ?_
 rintro e w2 ⟨cs,rfl,h36,hc1,hb2⟩
 have HC:=Lib.hid h36
 have H1:=Lib.hid hc1
 have HB2:=Lib.hid (below_next HB1.out hb2)
 have HZ2:=Lib.hid (HZ1.out.below hb2 HZ1.out.lt)
 clear hb2 CP h36 hc1
 go_wp2_with (with_reducible (show wpList _ _ _ (Oper.mk _ (Op.store 101 _ _) _ _ _ _::_) _ _);refine pause ?_)
 unfold Paused
 change wpList _ _ _ _ _ (w2.alloc (.cells zOc 101))
 refine wpList_store_row (by rfl) 101 (.tmp 6) (.tmp 14) (by rfl) w2.heap.size cs (by rfl) (by rfl) 101 zOc (Blk.new w2 _ _) (obj36 HC.out) (by rw [HC.out];rfl) H1.out ?_
 have b3:Below w2.heap.size w2 ((w2.alloc (.cells zOc 101)).setRow w2.heap.size cs):=below_row ((Below.refl _ _).alloc (Nat.le_refl _) _) (Nat.le_refl _) _
 have HB3:=Lib.hid (below_next HB2.out b3)
 have HZ3:=Lib.hid (HZ2.out.below b3 HZ2.out.lt)
 clear b3
 generalize (w2.alloc (.cells zOc 101)).setRow w2.heap.size cs=w3 at HB3 HZ3 ⊢
 simp only [Act.put]
 go_wp2_with (go_at_call 47;refine pause ?_)
 unfold Paused
 refine (CID _ HB3.out).mono ?_
 rintro e w5 ⟨rfl,hb5⟩
 have HB5:=Lib.hid (below_next HB3.out hb5)
 have HZ5:=Lib.hid (HZ3.out.below hb5 HZ3.out.lt)
 clear hb5 CID
 go_wp2_with (with_reducible (show wpList _ _ _ (Oper.mk _ (Op.store 42 _ _) _ _ _ _::_) _ _);refine pause ?_)
 unfold Paused
 change wpList _ _ _ _ _ (w5.alloc (.cells (u8s (List.replicate 32 0)) 42))
 refine wpList_store_row (by rfl) 42 (.tmp 8) (.tmp 21) (by rfl) w5.heap.size (u8s su) (by rfl) (by rfl) 42 (u8s (List.replicate 32 0)) (Blk.new w5 _ _) (by rw [u8s_size,HS.out.1];exact oid_load) (by rw [u8s_size,u8s_size,HS.out.1];rfl) (u8s_one _) ?_
 have b6:Below w5.heap.size w5 ((w5.alloc (.cells (u8s (List.replicate 32 0)) 42)).setRow w5.heap.size (u8s su)):=below_row ((Below.refl _ _).alloc (Nat.le_refl _) _) (Nat.le_refl _) _
 have HB6:=Lib.hid (below_next HB5.out b6)
 have HZ6:=Lib.hid (HZ5.out.below b6 HZ5.out.lt)
 have HI6:Hid (Blk ((w5.alloc (.cells (u8s (List.replicate 32 0)) 42)).setRow w5.heap.size (u8s su)) w5.heap.size 42 (u8s su)):=Lib.hid ((Blk.new w5 _ _).row _)
 clear b6
 generalize (w5.alloc (.cells (u8s (List.replicate 32 0)) 42)).setRow w5.heap.size (u8s su)=w6 at HB6 HZ6 HI6 ⊢
 generalize w5.heap.size=g8 at HI6 ⊢
 simp only [Act.put]
 have q6:=LK w6 HB6.out
 go_wp2_with (with_reducible (show wpList _ _ _ (Oper.mk _ (Op.load 42 _) _ _ _ _::_) _ _);refine pause ?_)
 unfold Paused
 refine wpList_row_w (by rfl) 42 (.tmp 8) (by rfl) g8 (by rfl) 42 (u8s su) _ HI6.out Tryz.underlying42 (by rfl) (by rw [u8s_size,HS.out.1];exact oid_load) ?_
 go_wp2_with (with_reducible (show wpList _ _ _ (Oper.mk _ (Op.store 44 _ _) _ _ _ _::_) _ _);refine pause ?_)
 unfold Paused
 change wpList _ _ _ _ _ (w6.alloc (.cells (itemC zid nilV 0).toArray 44))
 refine wpList_store_row (by rfl) 44 (.tmp 9) (.tmp 26) (by rfl) w6.heap.size cp (by rfl) (by rfl) 44 (itemC zid nilV 0).toArray (Blk.new w6 _ _) (by rw [HC4.out];exact item_size) (by rw [HC4.out];rfl) HC5.out ?_
 have b7:Below w6.heap.size w6 ((w6.alloc (.cells (itemC zid nilV 0).toArray 44)).setRow w6.heap.size cp):=below_row ((Below.refl _ _).alloc (Nat.le_refl _) _) (Nat.le_refl _) _
 have HB7:=Lib.hid (below_next HB6.out b7)
 have HZ7:=Lib.hid (HZ6.out.below b7 HZ6.out.lt)
 clear b7 q6 LK
 generalize (w6.alloc (.cells (itemC zid nilV 0).toArray 44)).setRow w6.heap.size cp=w7 at HB7 HZ7 ⊢
 generalize w6.heap.size=g9
 simp only [Act.put]
 have pD:w7.cell? ⟨20,0,none⟩=some (ev aD):=(HB7.out.cell (block_lt_of_cell HD.out)).trans HD.out
 go_wp2
 refine wp_region_held (S:=fun w'=>w'=w7.drew) hm ?_
 change wpAnyH _ _ _ _ _ _ _ _ w7.drew
 refine wpAnyH_take (i:=1) (v:=?_) rfl (by kernel_rfl) (by kernel_rfl) (by kernel_rfl) (fun _ _ _ h=>h) (Or.inl ⟨by rfl,?_⟩) rfl ?_
 rotate_left
 ·rintro w' rfl;go_simp;with_reducible rfl
 try go_frame
 refine all_one (i:=0) (by kernel_rfl) rfl (by rfl) (fun K hK=>?_)
 refine wp_buildK 44 _ (by rfl) [] (by simp) (itemC zid nilV 0).toArray item_empty ?_
 refine hK _ _ rfl ?_
 try go_frame
 refine all_one (i:=2) (by kernel_rfl) rfl (by rfl) (fun K hK=>?_)
 refine wp_store_row 44 (.tmp 4) (.tmp 29) (by rfl) w.heap.size (itemC zid nilV 0).toArray (by rfl) (by rfl) 44 (itemC zid nilV 0).toArray HZ7.out.drew (by rw [zItem_size];exact item_size) (by rfl) (itemC_one rfl 0) ?_
 rw [setRow_self w7.drew w.heap.size (itemC zid nilV 0).toArray 44 (0,0) HZ7.out.drew]
 refine hK _ _ rfl ?_
 try simp only [Act.put,List.getElem_toArray,List.getElem_cons_zero,List.getElem_cons_succ]
 refine all_one (i:=3) (by kernel_rfl) rfl (by rfl) (fun K hK=>?_)
 go_simp
 refine hK _ _ rfl ?_
 try go_frame
 refine wpAnyH_done (by kernel_rfl) ?_ _
 clear pD
 go_wp2
 exact bodyPost_ret (v:=.tuple #[zItem,ev aD]) (resultsP2 (t:=4) (s:=5) rfl (by rfl) HZ7.out.drew zItem_size) rfl ⟨rfl,below_drewN HB7.out 1⟩
def ecode (a:Nat→Addr) (c:Nat):Value:=ev (a (c - 1))
theorem admit_any (mb nm n c:Nat) (A:Option Addr) (xs:List Nat) (out:List Pk.It) (a:Nat→Addr) (w:World) (hv:Rd w (.slice A n c) xs) (hb:Sha.Byte xs) (hz:xs.length≤100000) (ht:Tabs w) (hS:KSents w a) (hM:MapO w mb nm (fun id=>(Pk.fnd out id).map Pk.It.v)) (ho:∀ p∈out,p.val.oneCell'=true) :
  Calls Tryz.prog 23 #[.map (some mb),.slice A n c] w fun e w'=>
   (if Pk.adm (out.map Pk.It.item) xs=0 then e=.returned (.tuple #[.agg (itemC (Sha.sum xs) (.slice A n c) 0).toArray,.nilIface]) else e=.returned (.tuple #[zItem,ecode a (Pk.adm (out.map Pk.It.item) xs)]))∧Below w.heap.size w w':=by
 by_cases h1:300 < xs.length
 ·have e1:Pk.adm (out.map Pk.It.item) xs=13:=by unfold Pk.adm;rw [if_pos h1]
  rw [e1]
  exact (admit_err mb n c A (a 12) w fun w' hw=>oparse_large (a 12) xs _ w' (hv.below hw (Nat.le_refl _)) h1 ((hS.below hw (Nat.le_refl _)) 12 (by omega)).var).mono fun e w' h=>⟨by rw [if_neg (by omega)];exact h.1,h.2⟩
 ·cases hp:Ob.parse xs with
  | bad k=>
   have e1:Pk.adm (out.map Pk.It.item) xs=k:=by unfold Pk.adm;rw [if_neg h1,hp]
   have hk:=Pk.parse_bad_pos hp
   rw [e1]
   exact (admit_err mb n c A (a (k - 1)) w fun w' hw=>oparse_bad k xs a _ w' (hv.below hw (Nat.le_refl _)) (oc_bytes hb) (by omega) (hS.below hw (Nat.le_refl _)).p hp).mono fun e w' h=>⟨by rw [if_neg (by omega)];exact h.1,h.2⟩
  | ok o=>
   have hP:=parseOk_of hv hb (by omega) hS hp
   cases hf:Pk.fnd out (Sha.sum xs) with
   | none=>
    have e1:Pk.adm (out.map Pk.It.item) xs=0:=by
     unfold Pk.adm
     rw [if_neg h1,hp]
     simp only
     rw [←Pk.fnd_item,hf]
     rfl
    rw [e1]
    exact (admit_in mb nm n c A xs out (a 19) w hv hb (by omega) ht hP hM ho hf).mono fun e w' h=>⟨by rw [if_pos rfl];exact h.1,h.2⟩
   | some p=>
    have e1:Pk.adm (out.map Pk.It.item) xs=20:=by
     unfold Pk.adm
     rw [if_neg h1,hp]
     simp only
     rw [←Pk.fnd_item,hf]
     rfl
    rw [e1]
    exact (admit_dup mb nm n c A xs out (a 19) w hv hb (by omega) ht hP hM ho p hf (hS 19 (by omega)).var).mono fun e w' h=>⟨by rw [if_neg (by omega)];exact h.1,h.2⟩
end Go.Proofs.YtndgadjeeinedaaGreatDoor
