/- The document's Right, of objects that its Parse makes. -/
import Derived.Test.YtndgadjeeinedaaGreatDoorMOb37
set_option maxRecDepth 100000
namespace Go.Proofs.YtndgadjeeinedaaGreatDoor
open Go Go.RowKit
theorem rid_eq (w:World) (x y:List Nat) (hx:Id32 x) (hy:Id32 y):(Op.equalIn 10000 41 (.agg (cellsB x).toArray) (.agg (cellsB y).toArray)).run Tryz.prog w=.ok (eqv x y) w:=
 beq_eqv x y▸run_equalIn_u8s w 41 5 32 Tryz.underlying41 Tryz.underlying5 size_u8 x y hx.1 hy.1 hx.2 hy.2
theorem eqv_zid:eqv zid zeros32=true:=eqv_true rfl
theorem right_at (o:Ob) (hk:1≤o.kind∧o.kind≤4) (hs:o.strange=false) (hl:o.front.length+o.text.length=lenR o):o.right=(entsOk o.ents && (decide (o.pars.length≤4) && decide (lenR o≤300))):=by
 unfold Ob.right
 rw [decide_eq_true hk.1,decide_eq_true hk.2,hs,hl]
 rfl
theorem right_1 (t:List Nat):Ob.right ⟨1,t,[],zid,[]⟩=decide (lenR ⟨1,t,[],zid,[]⟩≤300):=by
 rw [right_at _ ⟨by show (1:Int)≤1;decide,by show (1:Int)≤4;decide⟩ (by simp [Ob.strange,eqv_zid]) (by simp [Ob.front,lenR,aimsB])]
 simp [entsOk,okTo]
theorem right_2 (es:List Ent):Ob.right ⟨2,[],es,zid,[]⟩=(entsOk es && decide (lenR ⟨2,[],es,zid,[]⟩≤300)):=by
 rw [right_at _ ⟨by show (1:Int)≤2;decide,by show (2:Int)≤4;decide⟩ (by simp [Ob.strange,eqv_zid]) (by simp [Ob.front,lenR,aimsB];omega)]
 simp
theorem right_3 (t tg:List Nat) (ps:List (List Nat)) (ht:Id32 tg) (hp:∀ p∈ps,Id32 p):Ob.right ⟨3,t,[],tg,ps⟩=(decide (ps.length≤4) && decide (lenR ⟨3,t,[],tg,ps⟩≤300)):=by
 rw [right_at _ ⟨by show (1:Int)≤3;decide,by show (3:Int)≤4;decide⟩ (by simp [Ob.strange,aimsB]) (by
  have h1:=lkpars_len ps hp
  have h2:=ht.1
  show ((([letterN 3]++([]:List Ent).flatMap entB)++(if aimsB 3 then tg else []))++(if (3:Int)=3 then [ps.length] else [])++ps.flatten).length+t.length=1+32+1+32 * ps.length+t.length
  rw [if_pos rfl,if_pos (show aimsB 3=true from rfl)]
  simp only [List.length_append,List.flatMap_nil,List.length_cons,List.length_nil,h1,h2])]
 simp [entsOk,okTo]
theorem right_4 (t tg:List Nat) (ht:Id32 tg):Ob.right ⟨4,t,[],tg,[]⟩=decide (lenR ⟨4,t,[],tg,[]⟩≤300):=by
 rw [right_at _ ⟨by show (1:Int)≤4;decide,by show (4:Int)≤4;decide⟩ (by simp [Ob.strange,aimsB]) (by
  have h2:=ht.1
  show ((([letterN 4]++([]:List Ent).flatMap entB)++(if aimsB 4 then tg else []))++(if (4:Int)=3 then [([]:List (List Nat)).length] else [])++([]:List (List Nat)).flatten).length+t.length=1+32+t.length
  rw [if_pos (show aimsB 4=true from rfl),if_neg (by decide)]
  simp only [List.length_append,List.flatMap_nil,List.length_cons,List.length_nil,List.flatten_nil,h2])]
 simp [entsOk,okTo]
set_option maxHeartbeats 4000000 in
theorem rright1 (t:List Nat) (cs:Array Value) (T E P:Option Addr) (tc ec pc:Nat) (w:World) (h:ObC w ⟨1,t,[],zid,[]⟩ cs T tc E ec P pc) (hf:Ob.Fit ⟨1,t,[],zid,[]⟩) (hd:Ob.Held ⟨1,t,[],zid,[]⟩) :
  Calls Tryz.prog 29 #[.agg cs] w fun e w'=>e=.returned (.bool (Ob.right ⟨1,t,[],zid,[]⟩))∧Below w.heap.size w w':=by
 obtain ⟨w2,hw2⟩:∃ w2,w2=w.alloc (.cells cs 51):=⟨_,rfl⟩
 have X1:Box w w2 w.heap.size 51 cs:=hw2▸Box.new w _ cs
 have HNI:=Lib.hid (show (Tryz.prog.info? 51).map (·.size)=some cs.size by rw [h.size hf];kernel_rfl)
 have HC:=Lib.hid h
 have HF:=Lib.hid hf
 have HD:=Lib.hid hd
 have HX:=Lib.hid X1
 have a0:w2.cell? ⟨w.heap.size,0,none⟩=some (.int .i64 1):=(X1.at_.cell 0).trans h.c0
 have a1:w2.cell? ⟨w.heap.size,1,none⟩=some (.slice T (Ob.text ⟨1,t,[],zid,[]⟩).length tc):=(X1.at_.cell 1).trans h.c1
 have a2:w2.cell? ⟨w.heap.size,2,none⟩=some (.slice E (Ob.ents ⟨1,t,[],zid,[]⟩).length ec):=(X1.at_.cell 2).trans h.c2
 have a3:w2.cell? ⟨w.heap.size,35,none⟩=some (.slice P (Ob.pars ⟨1,t,[],zid,[]⟩).length pc):=(X1.at_.cell 35).trans (h.c35 hf)
 have HK2:=Lib.hid h.c2
 have HM:=Lib.hid (h.mid X1.at_)
 dsimp only at a1 a2 a3
 try simp only [List.length_nil] at a1 a2 a3
 have e2:=hw2.symm
 clear h hf hd X1 hw2
 go_enter Tryz.func29,Tryz.ntmps29
 go_wp2_with (with_reducible (show wpList _ _ _ (Oper.mk _ (Op.load 41 _) _ _ _ _::_) _ _);refine pause ?_)
 unfold Paused
 refine wpList_mid_w (by rfl) 41 (.tmp 49) (by rfl) w.heap.size 3 (by rfl) _ _ HM.out Tryz.underlying41 (by rfl) (by rw [cellsP1_len zid_id];kernel_rfl) ?_
 have q1:=rid_eq w2 zid zeros32 zid_id zeros_id
 rw [eqv_zid,show (cellsB zeros32).toArray=#[.int .u8 0,.int .u8 0,.int .u8 0,.int .u8 0,.int .u8 0,.int .u8 0,.int .u8 0,.int .u8 0,.int .u8 0,.int .u8 0,.int .u8 0,.int .u8 0,.int .u8 0,.int .u8 0,.int .u8 0,.int .u8 0,.int .u8 0,.int .u8 0,.int .u8 0,.int .u8 0,.int .u8 0,.int .u8 0,.int .u8 0,.int .u8 0,.int .u8 0,.int .u8 0,.int .u8 0,.int .u8 0,.int .u8 0,.int .u8 0,.int .u8 0,.int .u8 0] from rfl] at q1
 by_cases hz:(300:Int) < t.length
 ·have HV:=Lib.hid (show Ob.right ⟨1,t,[],zid,[]⟩=false by rw [right_1];exact decide_eq_false (by show ¬1+t.length≤300;omega))
  go_wp2
  go_ret
  exact ⟨by rw [HV.out];rfl,HX.out.bel⟩
 ·have HTX:Hid (t.length≤300):=Lib.hid (by omega)
  go_wp2
  go_loopw [74] (fun j wr=>j=.int .i64 0∧wr=w2) (fun _ _=>0)
  case atStart=>exact ⟨rfl,rfl⟩
  case round=>
   obtain ⟨rfl,rfl⟩:=hrel
   go_wp2_with (with_reducible (show wpList _ _ _ (Oper.mk _ (Op.load 51 _) _ _ _ _::_) _ _);refine pause ?_)
   unfold Paused
   refine wpList_row_w (by rfl) 51 (.tmp 1) (by rfl) w.heap.size (by rfl) 51 cs _ HX.out.at_ robj_under (by rfl) HNI.out ?_
   have CL:=rlaid_any ⟨1,t,[],zid,[]⟩ cs T E P tc ec pc wr (HC.out.below HX.out.bel (Nat.le_refl _)) HF.out ⟨by show (1:Int)≤1;decide,by show (1:Int)≤4;decide,by show (0:Nat)≤8;omega,fun _ h=>(by cases h),by show (0:Nat)≤4;omega⟩ (by have:=HTX.out;exact this)
   go_wp2_with (go_at_call 56;refine pause ?_)
   unfold Paused
   refine CL.mono ?_
   rintro e w5 ⟨A,c,rfl,hb⟩
   have HB5:=Lib.hid (below_next HX.out.bel hb)
   have HRV:=Lib.hid (right_1 t)
   clear hb CL
   generalize lenR ⟨1,t,[],zid,[]⟩=L at HRV ⊢
   go_wp2
   go_ret
   exact ⟨by rw [HRV.out];show Ending.returned (.bool (decide ((L:Int)≤300)))=Ending.returned (.bool (decide (L≤300)));rw [show decide ((L:Int)≤300)=decide (L≤300) from decide_eq_decide.2 (by omega)],HB5.out⟩
set_option maxHeartbeats 4000000 in
theorem rright4 (t tg:List Nat) (cs:Array Value) (T E P:Option Addr) (tc ec pc:Nat) (w:World) (h:ObC w ⟨4,t,[],tg,[]⟩ cs T tc E ec P pc) (hf:Ob.Fit ⟨4,t,[],tg,[]⟩) (hd:Ob.Held ⟨4,t,[],tg,[]⟩) :
  Calls Tryz.prog 29 #[.agg cs] w fun e w'=>e=.returned (.bool (Ob.right ⟨4,t,[],tg,[]⟩))∧Below w.heap.size w w':=by
 obtain ⟨w2,hw2⟩:∃ w2,w2=w.alloc (.cells cs 51):=⟨_,rfl⟩
 have X1:Box w w2 w.heap.size 51 cs:=hw2▸Box.new w _ cs
 have HNI:=Lib.hid (show (Tryz.prog.info? 51).map (·.size)=some cs.size by rw [h.size hf];kernel_rfl)
 have HC:=Lib.hid h
 have HF:=Lib.hid hf
 have HD:=Lib.hid hd
 have HX:=Lib.hid X1
 have a0:w2.cell? ⟨w.heap.size,0,none⟩=some (.int .i64 4):=(X1.at_.cell 0).trans h.c0
 have a1:w2.cell? ⟨w.heap.size,1,none⟩=some (.slice T (Ob.text ⟨4,t,[],tg,[]⟩).length tc):=(X1.at_.cell 1).trans h.c1
 have a2:w2.cell? ⟨w.heap.size,2,none⟩=some (.slice E (Ob.ents ⟨4,t,[],tg,[]⟩).length ec):=(X1.at_.cell 2).trans h.c2
 have a3:w2.cell? ⟨w.heap.size,35,none⟩=some (.slice P (Ob.pars ⟨4,t,[],tg,[]⟩).length pc):=(X1.at_.cell 35).trans (h.c35 hf)
 have HK2:=Lib.hid h.c2
 have HM:=Lib.hid (h.mid X1.at_)
 dsimp only at a1 a2 a3
 try simp only [List.length_nil] at a1 a2 a3
 have e2:=hw2.symm
 clear h hf hd X1 hw2
 go_enter Tryz.func29,Tryz.ntmps29
 by_cases hz:(300:Int) < t.length
 ·have HV:=Lib.hid (show Ob.right ⟨4,t,[],tg,[]⟩=false by rw [right_4 t tg HF.out.target];exact decide_eq_false (by show ¬1+32+t.length≤300;omega))
  go_wp2
  go_ret
  exact ⟨by rw [HV.out];rfl,HX.out.bel⟩
 ·have HTX:Hid (t.length≤300):=Lib.hid (by omega)
  go_wp2
  go_loopw [74] (fun j wr=>j=.int .i64 0∧wr=w2) (fun _ _=>0)
  case atStart=>exact ⟨rfl,rfl⟩
  case round=>
   obtain ⟨rfl,rfl⟩:=hrel
   go_wp2_with (with_reducible (show wpList _ _ _ (Oper.mk _ (Op.load 51 _) _ _ _ _::_) _ _);refine pause ?_)
   unfold Paused
   refine wpList_row_w (by rfl) 51 (.tmp 1) (by rfl) w.heap.size (by rfl) 51 cs _ HX.out.at_ robj_under (by rfl) HNI.out ?_
   have CL:=rlaid_any ⟨4,t,[],tg,[]⟩ cs T E P tc ec pc wr (HC.out.below HX.out.bel (Nat.le_refl _)) HF.out ⟨by show (1:Int)≤4;decide,by show (4:Int)≤4;decide,by show (0:Nat)≤8;omega,fun _ h=>(by cases h),by show (0:Nat)≤4;omega⟩ (by have:=HTX.out;exact this)
   go_wp2_with (go_at_call 56;refine pause ?_)
   unfold Paused
   refine CL.mono ?_
   rintro e w5 ⟨A,c,rfl,hb⟩
   have HB5:=Lib.hid (below_next HX.out.bel hb)
   have HRV:=Lib.hid (right_4 t tg HF.out.target)
   clear hb CL
   generalize lenR ⟨4,t,[],tg,[]⟩=L at HRV ⊢
   go_wp2
   go_ret
   exact ⟨by rw [HRV.out];show Ending.returned (.bool (decide ((L:Int)≤300)))=Ending.returned (.bool (decide (L≤300)));rw [show decide ((L:Int)≤300)=decide (L≤300) from decide_eq_decide.2 (by omega)],HB5.out⟩
set_option maxHeartbeats 4000000 in
theorem rright3 (t tg:List Nat) (ps:List (List Nat)) (cs:Array Value) (T E P:Option Addr) (tc ec pc:Nat) (w:World) (h:ObC w ⟨3,t,[],tg,ps⟩ cs T tc E ec P pc) (hf:Ob.Fit ⟨3,t,[],tg,ps⟩) (hd:Ob.Held ⟨3,t,[],tg,ps⟩) :
  Calls Tryz.prog 29 #[.agg cs] w fun e w'=>e=.returned (.bool (Ob.right ⟨3,t,[],tg,ps⟩))∧Below w.heap.size w w':=by
 obtain ⟨w2,hw2⟩:∃ w2,w2=w.alloc (.cells cs 51):=⟨_,rfl⟩
 have X1:Box w w2 w.heap.size 51 cs:=hw2▸Box.new w _ cs
 have HNI:=Lib.hid (show (Tryz.prog.info? 51).map (·.size)=some cs.size by rw [h.size hf];kernel_rfl)
 have HC:=Lib.hid h
 have HF:=Lib.hid hf
 have HD:=Lib.hid hd
 have HX:=Lib.hid X1
 have a0:w2.cell? ⟨w.heap.size,0,none⟩=some (.int .i64 3):=(X1.at_.cell 0).trans h.c0
 have a1:w2.cell? ⟨w.heap.size,1,none⟩=some (.slice T (Ob.text ⟨3,t,[],tg,ps⟩).length tc):=(X1.at_.cell 1).trans h.c1
 have a2:w2.cell? ⟨w.heap.size,2,none⟩=some (.slice E (Ob.ents ⟨3,t,[],tg,ps⟩).length ec):=(X1.at_.cell 2).trans h.c2
 have a3:w2.cell? ⟨w.heap.size,35,none⟩=some (.slice P (Ob.pars ⟨3,t,[],tg,ps⟩).length pc):=(X1.at_.cell 35).trans (h.c35 hf)
 have HK2:=Lib.hid h.c2
 have HM:=Lib.hid (h.mid X1.at_)
 dsimp only at a1 a2 a3
 try simp only [List.length_nil] at a1 a2 a3
 have e2:=hw2.symm
 clear h hf hd X1 hw2
 go_enter Tryz.func29,Tryz.ntmps29
 by_cases hp4:(4:Int) < ps.length
 ·have HV:=Lib.hid (show Ob.right ⟨3,t,[],tg,ps⟩=false by rw [right_3 t tg ps HF.out.target HF.out.pars,decide_eq_false (by omega),Bool.false_and])
  go_wp2
  go_ret
  exact ⟨by rw [HV.out];rfl,HX.out.bel⟩
 have hp:ps.length≤4:=by omega
 by_cases hz:(300:Int) < t.length
 ·have HV:=Lib.hid (show Ob.right ⟨3,t,[],tg,ps⟩=false by rw [right_3 t tg ps HF.out.target HF.out.pars];rw [decide_eq_true hp,Bool.true_and];exact decide_eq_false (by show ¬1+32+1+32 * ps.length+t.length≤300;omega))
  go_wp2
  go_ret
  exact ⟨by rw [HV.out];rfl,HX.out.bel⟩
 ·have HTX:Hid (t.length≤300):=Lib.hid (by omega)
  go_wp2
  go_loopw [74] (fun j wr=>j=.int .i64 0∧wr=w2) (fun _ _=>0)
  case atStart=>exact ⟨rfl,rfl⟩
  case round=>
   obtain ⟨rfl,rfl⟩:=hrel
   go_wp2_with (with_reducible (show wpList _ _ _ (Oper.mk _ (Op.load 51 _) _ _ _ _::_) _ _);refine pause ?_)
   unfold Paused
   refine wpList_row_w (by rfl) 51 (.tmp 1) (by rfl) w.heap.size (by rfl) 51 cs _ HX.out.at_ robj_under (by rfl) HNI.out ?_
   have CL:=rlaid_any ⟨3,t,[],tg,ps⟩ cs T E P tc ec pc wr (HC.out.below HX.out.bel (Nat.le_refl _)) HF.out ⟨by show (1:Int)≤3;decide,by show (3:Int)≤4;decide,by show (0:Nat)≤8;omega,fun _ h=>(by cases h),hp⟩ (by have:=HTX.out;exact this)
   go_wp2_with (go_at_call 56;refine pause ?_)
   unfold Paused
   refine CL.mono ?_
   rintro e w5 ⟨A,c,rfl,hb⟩
   have HB5:=Lib.hid (below_next HX.out.bel hb)
   have HRV:=Lib.hid (show Ob.right ⟨3,t,[],tg,ps⟩=decide (lenR ⟨3,t,[],tg,ps⟩≤300) by rw [right_3 t tg ps HF.out.target HF.out.pars,decide_eq_true hp,Bool.true_and])
   clear hb CL
   generalize lenR ⟨3,t,[],tg,ps⟩=L at HRV ⊢
   go_wp2
   go_ret
   exact ⟨by rw [HRV.out];show Ending.returned (.bool (decide ((L:Int)≤300)))=Ending.returned (.bool (decide (L≤300)));rw [show decide ((L:Int)≤300)=decide (L≤300) from decide_eq_decide.2 (by omega)],HB5.out⟩
set_option maxHeartbeats 4000000 in
theorem rright2 (es:List Ent) (cs:Array Value) (T E P:Option Addr) (tc ec pc:Nat) (w:World) (h:ObC w ⟨2,[],es,zid,[]⟩ cs T tc E ec P pc) (hf:Ob.Fit ⟨2,[],es,zid,[]⟩) (hd:Ob.Held ⟨2,[],es,zid,[]⟩) :
  Calls Tryz.prog 29 #[.agg cs] w fun e w'=>e=.returned (.bool (Ob.right ⟨2,[],es,zid,[]⟩))∧Below w.heap.size w w':=by
 obtain ⟨w2,hw2⟩:∃ w2,w2=w.alloc (.cells cs 51):=⟨_,rfl⟩
 have X1:Box w w2 w.heap.size 51 cs:=hw2▸Box.new w _ cs
 have HNI:=Lib.hid (show (Tryz.prog.info? 51).map (·.size)=some cs.size by rw [h.size hf];kernel_rfl)
 have HC:=Lib.hid h
 have HF:=Lib.hid hf
 have HD:=Lib.hid hd
 have HX:=Lib.hid X1
 have a0:w2.cell? ⟨w.heap.size,0,none⟩=some (.int .i64 2):=(X1.at_.cell 0).trans h.c0
 have a1:w2.cell? ⟨w.heap.size,1,none⟩=some (.slice T (Ob.text ⟨2,[],es,zid,[]⟩).length tc):=(X1.at_.cell 1).trans h.c1
 have a2:w2.cell? ⟨w.heap.size,2,none⟩=some (.slice E (Ob.ents ⟨2,[],es,zid,[]⟩).length ec):=(X1.at_.cell 2).trans h.c2
 have a3:w2.cell? ⟨w.heap.size,35,none⟩=some (.slice P (Ob.pars ⟨2,[],es,zid,[]⟩).length pc):=(X1.at_.cell 35).trans (h.c35 hf)
 have HK2:=Lib.hid h.c2
 have HM:=Lib.hid (h.mid X1.at_)
 dsimp only at a1 a2 a3
 try simp only [List.length_nil] at a1 a2 a3
 have e2:=hw2.symm
 clear h hf hd X1 hw2
 go_enter Tryz.func29,Tryz.ntmps29
 go_wp2_with (with_reducible (show wpList _ _ _ (Oper.mk _ (Op.load 41 _) _ _ _ _::_) _ _);refine pause ?_)
 unfold Paused
 refine wpList_mid_w (by rfl) 41 (.tmp 49) (by rfl) w.heap.size 3 (by rfl) _ _ HM.out Tryz.underlying41 (by rfl) (by rw [cellsP1_len zid_id];kernel_rfl) ?_
 have q1:=rid_eq w2 zid zeros32 zid_id zeros_id
 rw [eqv_zid,show (cellsB zeros32).toArray=#[.int .u8 0,.int .u8 0,.int .u8 0,.int .u8 0,.int .u8 0,.int .u8 0,.int .u8 0,.int .u8 0,.int .u8 0,.int .u8 0,.int .u8 0,.int .u8 0,.int .u8 0,.int .u8 0,.int .u8 0,.int .u8 0,.int .u8 0,.int .u8 0,.int .u8 0,.int .u8 0,.int .u8 0,.int .u8 0,.int .u8 0,.int .u8 0,.int .u8 0,.int .u8 0,.int .u8 0,.int .u8 0,.int .u8 0,.int .u8 0,.int .u8 0,.int .u8 0] from rfl] at q1
 have HE:=Lib.hid (fun (b:Bool) (hb:okTo es es.length=b)=>show Ob.right ⟨2,[],es,zid,[]⟩=((decide (es.length≤8) && b) && decide (lenR ⟨2,[],es,zid,[]⟩≤300)) by rw [right_2];unfold entsOk;rw [hb])
 by_cases h8:(8:Int) < es.length
 ·have HV:=Lib.hid (show Ob.right ⟨2,[],es,zid,[]⟩=false by rw [right_2];unfold entsOk;rw [decide_eq_false (by omega),Bool.false_and,Bool.false_and])
  go_wp2
  go_ret
  exact ⟨by rw [HV.out];rfl,HX.out.bel⟩
 have hp8:es.length≤8:=by omega
 have HP8:=Lib.hid hp8
 have HNB:Hid (okTo es 0=true):=Lib.hid rfl
 clear hp8
 go_wp2
 go_loopw [74] (fun i wr=>∃ k:Nat,k≤es.length∧i=.int .i64 (k:Nat)∧Hid (okTo es k=true)∧Hid (Below w2.heap.size w2 wr)) (fun i _=>es.length - (intOf i).toNat)
 case atStart=>exact ⟨0,Nat.zero_le _,rfl,HNB,Lib.hid (Below.refl _ _)⟩
 case round=>
  obtain ⟨k,hk,rfl,HK,HB⟩:=hrel
  by_cases hlt:k < es.length
  ·have HXr:=Lib.hid (HX.out.go HB.out)
   have HHr:=Lib.hid (HC.out.ents.below HXr.out.bel (Nat.le_refl _))
   obtain ⟨sb,so,rfl,_,hsr⟩:=HHr.out.ent rfl HF.out.ents hlt
   have HSR:=Lib.hid hsr
   have HID:=Lib.hid (HF.out.ents _ (List.getElem_mem hlt))
   have HNS:=Lib.hid (HD.out.names _ (List.getElem_mem hlt))
   have HNA:=Lib.hid (nameAt_is hlt)
   have HPR:Hid (0 < k→∃ (q:ByteArray),nameAt es (k - 1)=q.toList∧wr.cell? ⟨sb,so+(k - 1) * 33,none⟩=some (.string q)):=Lib.hid (fun h0=>by
    obtain ⟨b2,o2,hA2,_,hr2⟩:=HHr.out.ent rfl HF.out.ents (show k - 1 < es.length by omega)
    injection hA2 with hA2
    injection hA2 with hb2 ho2
    subst hb2 ho2
    exact ⟨_,nameAt_is (by omega),by have:=hr2 0 _ rfl;rwa [Nat.add_zero] at this⟩)
   clear hsr
   obtain ⟨en,hen⟩:∃ en,en=es[k]:=⟨_,rfl⟩
   rw [←hen] at HSR HID HNS HNA
   clear hen
   have i1:((k:Nat):Int) < es.length:=by omega
   have i2:(0:Int)≤((k:Nat):Int):=by omega
   go_wp2_with (with_reducible (show wpList _ _ _ (Oper.mk _ (Op.load 76 _) _ _ _ _::_) _ _);refine pause ?_)
   unfold Paused
   refine wpList_mid_w (by rfl) 76 (.tmp 77) (by rfl) sb (so+k * 33) (by rfl) _ _ HSR.out Tryz.underlying76 (by rfl) (by rw [cellsE1_len HID.out];kernel_rfl) ?_
   go_wp2_with (with_reducible (show wpList _ _ _ (Oper.mk _ (Op.store 76 _ _) _ _ _ _::_) _ _);refine pause ?_)
   unfold Paused
   change wpList _ _ _ _ _ (wr.alloc (.cells (cellsE1 ⟨⟨#[]⟩,List.replicate 32 0⟩).toArray 76))
   refine wpList_store_row (by rfl) 76 (.tmp 4) (.tmp 78) (by rfl) wr.heap.size (cellsE1 en).toArray (by rfl) (by rfl) 76 (cellsE1 ⟨⟨#[]⟩,List.replicate 32 0⟩).toArray (Blk.new wr _ _) (by rw [List.size_toArray,cellsE1_len HID.out];kernel_rfl) (by rw [List.size_toArray,List.size_toArray,cellsE1_len HID.out];rfl) (arr_one (cellsE1_one en)) ?_
   have hbe:Below wr.heap.size wr ((wr.alloc (.cells (cellsE1 ⟨⟨#[]⟩,List.replicate 32 0⟩).toArray 76)).setRow wr.heap.size (cellsE1 en).toArray):=below_row ((Below.refl _ _).alloc (Nat.le_refl _) _) (Nat.le_refl _) _
   have HBa:=Lib.hid (below_next HB.out hbe)
   have HXa:=Lib.hid ((Blk.new wr 76 (cellsE1 ⟨⟨#[]⟩,List.replicate 32 0⟩).toArray).row (cellsE1 en).toArray)
   have HPa:Hid (0 < k→∃ (q:ByteArray),nameAt es (k - 1)=q.toList∧((wr.alloc (.cells (cellsE1 ⟨⟨#[]⟩,List.replicate 32 0⟩).toArray 76)).setRow wr.heap.size (cellsE1 en).toArray).cell? ⟨sb,so+(k - 1) * 33,none⟩=some (.string q)):=Lib.hid (fun h0=>by
    obtain ⟨q,h1,h2⟩:=HPR.out h0
    exact ⟨q,h1,(hbe.cell (p:=⟨sb,so+(k - 1) * 33,none⟩) (block_lt_of_cell h2)).trans h2⟩)
   clear hbe
   generalize World.setRow _ wr.heap.size (cellsE1 en).toArray=wa at HBa HXa HPa ⊢
   generalize wr.heap.size=gx at HXa ⊢
   simp only [Act.put]
   have HXw:=Lib.hid (HX.out.go HBa.out)
   have d0:wa.cell? ⟨gx,0,none⟩=some (.string en.name):=HXa.out.cell 0
   have d2:wa.cell? ⟨w.heap.size,2,none⟩=some (.slice (some ⟨sb,so,none⟩) es.length ec):=(HXw.out.at_.cell 2).trans HK2.out
   have CN:=fun w=>rnamed_any en.name w HNS.out
   have HNE:Hid (nameAt es k=en.name.data.toList):=Lib.hid (by rw [HNA.out,toList_data])
   have HNL:Hid (nameAt es k=en.name.toList):=HNA
   obtain ⟨bn,hbn⟩:∃ bn,bn=nameOk en.name.data.toList:=⟨_,rfl⟩
   rw [←hbn] at CN
   have HBN:=Lib.hid hbn
   clear hbn
   cases bn
   ·have HV:=Lib.hid ((HE.out false (okTo_false (k:=k) (by unfold okAt;rw [HNE.out,←HBN.out];rfl) hlt)).trans (by simp:_=false))
    go_wp2
    go_quiet (first | (go_at_call 55;exact Calls.quiet_of_same (CN _)))
    go_wp2
    go_ret
    exact ⟨by rw [HV.out];rfl,below_drewN HXw.out.bel _⟩
   by_cases h0:k=0
   ·subst h0
    have HO:=Lib.hid (show okTo es 1=true by rw [okTo_succ,HK.out];unfold okAt;rw [HNE.out,←HBN.out];rfl)
    go_wp2
    go_quiet (first | (go_at_call 55;exact Calls.quiet_of_same (CN _)))
    go_wp2
    have HBn:=Lib.hid (below_drewN HBa.out nq)
    go_roundw
    case rel=>exact ⟨1,by omega,by go_num,HO,HBn⟩
    case measure=>simp [intOf];omega
   ·obtain ⟨q,hq1,hq2⟩:=HPa.out (by omega)
    have HQ1:=Lib.hid hq1
    have i3:(0:Int) < ((k:Nat):Int):=by omega
    have i3n:0 < k:=by omega
    have i4:wrap64 ((k:Int) - 1)=((k - 1:Nat):Int):=by rw [IntWalk.wrap64_in _ (by have:=HP8.out;omega)];omega
    have i4b:IntKind.i64.wrap ((k:Int) - 1)=((k - 1:Nat):Int):=(IntWalk.i64_left _).trans i4
    have i5:((k - 1:Nat):Int) < es.length:=by omega
    have i6:(0:Int)≤((k - 1:Nat):Int):=by omega
    obtain ⟨bl,hbl⟩:∃ bl,bl=Op.bytesLess q.toList en.name.toList:=⟨_,rfl⟩
    have HBL:=Lib.hid hbl
    have hbl2:=hbl.symm
    clear hq1 hbl
    cases bl
    ·have HV:=Lib.hid ((HE.out false (okTo_false (k:=k) (by unfold okAt;rw [HQ1.out,HNL.out,←HBL.out,decide_eq_false h0];simp) hlt)).trans (by simp:_=false))
     go_wp2
     go_quiet (first | (go_at_call 55;exact Calls.quiet_of_same (CN _)))
     go_wp2
     go_ret
     exact ⟨by rw [HV.out];rfl,below_drewN HXw.out.bel _⟩
    ·have HO:=Lib.hid (show okTo es (k+1)=true by
      have hA:nameOk (nameAt es k)=true:=by rw [HNE.out];exact HBN.out.symm
      have hB:Op.bytesLess (nameAt es (k - 1)) (nameAt es k)=true:=by rw [HQ1.out,HNL.out];exact HBL.out.symm
      rw [okTo_succ,HK.out];unfold okAt;rw [hA,hB];simp)
     go_wp2
     go_quiet (first | (go_at_call 55;exact Calls.quiet_of_same (CN _)))
     go_wp2
     have HBn:=Lib.hid (below_drewN HBa.out nq)
     go_roundw
     case rel=>exact ⟨k+1,by omega,by go_num,HO,HBn⟩
     case measure=>simp [intOf];omega
  ·have hke:k=es.length:=by omega
   subst hke
   have HXr:=Lib.hid (HX.out.go HB.out)
   have HOK:Hid (entsOk es=true):=Lib.hid (by unfold entsOk;rw [HK.out,decide_eq_true HP8.out];rfl)
   have HNM:=Lib.hid (entsOk_near HOK.out)
   have HRV:=Lib.hid (show Ob.right ⟨2,[],es,zid,[]⟩=decide (lenR ⟨2,[],es,zid,[]⟩≤300) by rw [right_2,HOK.out,Bool.true_and])
   go_wp2_with (with_reducible (show wpList _ _ _ (Oper.mk _ (Op.load 51 _) _ _ _ _::_) _ _);refine pause ?_)
   unfold Paused
   refine wpList_row_w (by rfl) 51 (.tmp 1) (by rfl) w.heap.size (by rfl) 51 cs _ HXr.out.at_ robj_under (by rfl) HNI.out ?_
   have CL:=rlaid_any ⟨2,[],es,zid,[]⟩ cs T E P tc ec pc wr (HC.out.below HXr.out.bel (Nat.le_refl _)) HF.out ⟨by show (1:Int)≤2;decide,by show (2:Int)≤4;decide,HNM.out.1,HNM.out.2,by show (0:Nat)≤4;omega⟩ (by show (0:Nat)≤300;omega)
   go_wp2_with (go_at_call 56;refine pause ?_)
   unfold Paused
   refine CL.mono ?_
   rintro e w5 ⟨A,c,rfl,hb⟩
   have HB5:=Lib.hid (below_next HXr.out.bel hb)
   clear hb CL
   generalize lenR ⟨2,[],es,zid,[]⟩=L at HRV ⊢
   go_wp2
   go_ret
   exact ⟨by rw [HRV.out];show Ending.returned (.bool (decide ((L:Int)≤300)))=Ending.returned (.bool (decide (L≤300)));rw [show decide ((L:Int)≤300)=decide (L≤300) from decide_eq_decide.2 (by omega)],HB5.out⟩
end Go.Proofs.YtndgadjeeinedaaGreatDoor
