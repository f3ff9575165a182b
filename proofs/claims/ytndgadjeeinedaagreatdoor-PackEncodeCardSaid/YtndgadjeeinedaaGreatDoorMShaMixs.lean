/- The walk of the 64 rounds (sha.mix). -/
import Derived.Test.YtndgadjeeinedaaGreatDoorMBases
import Derived.Deep.MidRow
namespace Go.Proofs.YtndgadjeeinedaaGreatDoor
open Go Go.RowKit
structure Tabs (w:World):Prop where
 big:24 < w.heap.size∧22 < w.heap.size
 start:∀ i,i < 8→w.cell? ⟨22,i,none⟩=some (.int .u32 ((Sha.H0.getD i 0:Nat):Int))
 rounds:∀ i,i < 64→w.cell? ⟨24,i,none⟩=some (.int .u32 ((Sha.K.getD i 0:Nat):Int))
theorem Tabs.below {B:Nat} {w w':World} (h:Tabs w) (hb:Below B w w') (hB:w.heap.size≤B):Tabs w':=by
 obtain ⟨⟨h1,h2⟩,h3,h4⟩:=h
 have hz:=hb.size
 exact ⟨⟨by omega,by omega⟩,fun i hi=>(hb.cell (p:=⟨22,i,none⟩) (by show 22 < B;omega)).trans (h3 i hi),fun i hi=>(hb.cell (p:=⟨24,i,none⟩) (by show 24 < B;omega)).trans (h4 i hi)⟩
theorem S1_val (x:Nat) (h:x < 4294967296):bits .xor .u32 (bits .xor .u32 ((Sha.rl x 26:Nat):Int) ((Sha.rl x 21:Nat):Int)) ((Sha.rl x 7:Nat):Int)=((Sha.S1 x:Nat):Int):=by
 have a:=Sha.rl_lt x 26 h
 have b:=Sha.rl_lt x 21 h
 rw [u32_xor _ _ a b]
 exact u32_xor _ _ (Sha.xor_lt a b) (Sha.rl_lt x 7 h)
theorem S0_val (x:Nat) (h:x < 4294967296):bits .xor .u32 (bits .xor .u32 ((Sha.rl x 30:Nat):Int) ((Sha.rl x 19:Nat):Int)) ((Sha.rl x 10:Nat):Int)=((Sha.S0 x:Nat):Int):=by
 have a:=Sha.rl_lt x 30 h
 have b:=Sha.rl_lt x 19 h
 rw [u32_xor _ _ a b]
 exact u32_xor _ _ (Sha.xor_lt a b) (Sha.rl_lt x 10 h)
theorem not_nat (x:Nat) (h:x < 4294967296):4294967295 ^^^ x=4294967295 - x:=by
 have e:=congrArg BitVec.toNat (BitVec.allOnes_xor (x:=BitVec.ofNat 32 x))
 rw [BitVec.toNat_xor,BitVec.toNat_not,BitVec.toNat_ofNat,Nat.mod_eq_of_lt h] at e
 exact e
theorem ch_val (e f g:Nat) (he:e < 4294967296) (hf:f < 4294967296) (hg:g < 4294967296) :
  bits .xor .u32 (bits .and .u32 (e:Int) (f:Int)) (bits .and .u32 (bits .xor .u32 IntKind.u32.max (e:Int)) (g:Int))=((Sha.ch e f g:Nat):Int):=by
 have e1:bits .xor .u32 IntKind.u32.max (e:Int)=((4294967295 - e:Nat):Int):=by
  rw [←not_nat e he];exact u32_xor 4294967295 e (by omega) he
 rw [e1,u32_and _ _ he hf,u32_and _ _ (by omega) hg]
 exact u32_xor _ _ (Sha.and_lt he) (Sha.and_lt (by omega))
theorem maj_val (a b c:Nat) (ha:a < 4294967296) (hb:b < 4294967296) (hc:c < 4294967296) :
  bits .xor .u32 (bits .xor .u32 (bits .and .u32 (a:Int) (b:Int)) (bits .and .u32 (a:Int) (c:Int))) (bits .and .u32 (b:Int) (c:Int))=((Sha.maj a b c:Nat):Int):=by
 rw [u32_and _ _ ha hb,u32_and _ _ ha hc,u32_and _ _ hb hc,u32_xor _ _ (Sha.and_lt ha) (Sha.and_lt ha)]
 exact u32_xor _ _ (Sha.xor_lt (Sha.and_lt ha) (Sha.and_lt ha)) (Sha.and_lt hb)
theorem list8 {l:List Nat} (h:l.length=8):∃ a b c d e f g z,l=[a,b,c,d,e,f,g,z]:=by
 match l,h with
 | [a,b,c,d,e,f,g,z],_=>exact ⟨a,b,c,d,e,f,g,z,rfl⟩
theorem mix_info:(Tryz.prog.info? 166).map (·.size)=some 8:=by kernel_rfl
theorem addS_val (x0 x1 x2 x3 x4 x5 x6 x7 a b c d e f g z:Nat) :
  #[Value.int .u32 (((x0:Int)+a) % 4294967296),.int .u32 (((x1:Int)+b) % 4294967296),.int .u32 (((x2:Int)+c) % 4294967296),.int .u32 (((x3:Int)+d) % 4294967296),
   .int .u32 (((x4:Int)+e) % 4294967296),.int .u32 (((x5:Int)+f) % 4294967296),.int .u32 (((x6:Int)+g) % 4294967296),.int .u32 (((x7:Int)+z) % 4294967296)]
   = u32s (Sha.addS [x0,x1,x2,x3,x4,x5,x6,x7] ⟨a,b,c,d,e,f,g,z⟩):=by
 simp [u32s,Sha.addS]
structure MixW (w:World) (ws sch:List Nat) (wr:World):Prop where
 src:Blk wr w.heap.size 166 (u32s ws)
 sch:Blk wr (w.heap.size+1) 181 (u32s sch)
 res:∃ cs,cs.size=8∧Blk wr (w.heap.size+1+1) 166 cs
 bel:Below w.heap.size w wr
theorem MixW.drewN {w:World} {ws sch:List Nat} {wr:World} (h:MixW w ws sch wr) (n:Nat):MixW w ws sch (wr.drewN n):=by
 obtain ⟨cs,hz,hc⟩:=h.res
 exact ⟨h.src.drewN n,h.sch.drewN n,⟨cs,hz,hc.drewN n⟩,below_drewN h.bel n⟩
theorem MixW.start (w:World) (ws sch:List Nat):MixW w ws sch (((w.alloc (.cells (u32s ws) 166)).alloc (.cells (u32s sch) 181)).alloc (.cells (u32s (List.replicate 8 0)) 166)):=by
 have hbel:Below w.heap.size w (((w.alloc (.cells (u32s ws) 166)).alloc (.cells (u32s sch) 181)).alloc (.cells (u32s (List.replicate 8 0)) 166)):=by
  refine (((Below.refl _ _).alloc (Nat.le_refl _) _).alloc ?_ _).alloc ?_ _<;>simp<;>omega
 refine ⟨((Blk.new w _ _).alloc _).alloc _,?_,⟨u32s (List.replicate 8 0),by rw [u32s_size];rfl,?_⟩,hbel⟩
 ·have h:=(Blk.new (w.alloc (.cells (u32s ws) 166)) 181 (u32s sch)).alloc (.cells (u32s (List.replicate 8 0)) 166)
  simpa using h
 ·have h:=Blk.new ((w.alloc (.cells (u32s ws) 166)).alloc (.cells (u32s sch) 181)) 166 (u32s (List.replicate 8 0))
  have e:((w.alloc (.cells (u32s ws) 166)).alloc (.cells (u32s sch) 181)).heap.size=w.heap.size+1+1:=by simp
  rw [e] at h
  exact h
theorem MixW.word {w:World} {ws sch:List Nat} {wr:World} (h:MixW w ws sch wr) (hx:ws.length=8) (i:Nat) (hi:i < 8):wr.cell? ⟨w.heap.size,i,none⟩=some (.int .u32 ((ws.getD i 0:Nat):Int)):=by
 rw [h.src.cell i,u32s_get _ _ (by omega)]
set_option maxRecDepth 100000 in
theorem mix_any (ws sch:List Nat) (w:World) (hx:ws.length=8) (hs:sch.length=64) (hw:Sha.W32 ws) (hsw:Sha.W32 sch) (ht:Tabs w) :
  Calls Tryz.prog 101 #[.agg (u32s ws),.agg (u32s sch)] w fun e w'=>e=.returned (.agg (u32s (Sha.mix ws sch)))∧Below w.heap.size w w':=by
 go_enter Tryz.func101,Tryz.ntmps101
 go_wp2
 have hM:=MixW.start w ws sch
 change MixW w ws sch (((w.alloc (.cells (u32s ws) 166)).alloc (.cells (u32s sch) 181)).alloc (.cells #[.int .u32 0,.int .u32 0,.int .u32 0,.int .u32 0,.int .u32 0,.int .u32 0,.int .u32 0,.int .u32 0] 166)) at hM
 generalize ((w.alloc (.cells (u32s ws) 166)).alloc (.cells (u32s sch) 181)).alloc (.cells #[.int .u32 0,.int .u32 0,.int .u32 0,.int .u32 0,.int .u32 0,.int .u32 0,.int .u32 0,.int .u32 0] 166)=w1 at hM ⊢
 obtain ⟨x0,x1,x2,x3,x4,x5,x6,x7,rfl⟩:=list8 hx
 have e0:w1.cell? ⟨w.heap.size,0,none⟩=some (.int .u32 (x0:Nat)):=hM.word hx 0 (by omega)
 have e1:w1.cell? ⟨w.heap.size,1,none⟩=some (.int .u32 (x1:Nat)):=hM.word hx 1 (by omega)
 have e2:w1.cell? ⟨w.heap.size,2,none⟩=some (.int .u32 (x2:Nat)):=hM.word hx 2 (by omega)
 have e3:w1.cell? ⟨w.heap.size,3,none⟩=some (.int .u32 (x3:Nat)):=hM.word hx 3 (by omega)
 have e4:w1.cell? ⟨w.heap.size,4,none⟩=some (.int .u32 (x4:Nat)):=hM.word hx 4 (by omega)
 have e5:w1.cell? ⟨w.heap.size,5,none⟩=some (.int .u32 (x5:Nat)):=hM.word hx 5 (by omega)
 have e6:w1.cell? ⟨w.heap.size,6,none⟩=some (.int .u32 (x6:Nat)):=hM.word hx 6 (by omega)
 have e7:w1.cell? ⟨w.heap.size,7,none⟩=some (.int .u32 (x7:Nat)):=hM.word hx 7 (by omega)
 go_quiet (fail)
 go_wp2
 clear e0 e1 e2 e3 e4 e5 e6 e7
 replace hM:=hM.drewN nq
 generalize w1.drewN nq=w2 at hM ⊢
 go_loopw [5,6,7,8,9,10,11,12,35] (fun a b c d e f g h i wr=>∃ (k:Nat) (s:Sha.S8),k≤64∧i=.int .i64 k∧s=Sha.rounds (Sha.ofL [x0,x1,x2,x3,x4,x5,x6,x7]) sch k∧a=.int .u32 (s.a:Nat)∧b=.int .u32 (s.b:Nat)∧c=.int .u32 (s.c:Nat)∧d=.int .u32 (s.d:Nat)∧e=.int .u32 (s.e:Nat)∧f=.int .u32 (s.f:Nat)∧g=.int .u32 (s.g:Nat)∧h=.int .u32 (s.h:Nat)∧MixW w [x0,x1,x2,x3,x4,x5,x6,x7] sch wr) (fun _ _ _ _ _ _ _ _ i _=>64 - (intOf i).toNat)
 case atStart=>exact ⟨0,_,by omega,rfl,rfl,rfl,rfl,rfl,rfl,rfl,rfl,rfl,rfl,hM⟩
 case round=>
  obtain ⟨k,s,hk,rfl,hs8,rfl,rfl,rfl,rfl,rfl,rfl,rfl,rfl,hR⟩:=hrel
  have HS:=Lib.hid hs8
  have hok:s.ok:=by rw [hs8];exact Sha.rounds_ok _ (Sha.ofL_ok hw) k
  clear hs8
  obtain ⟨a,b,c,d,e,f,g,z⟩:=s
  obtain ⟨ha,hb,hc,hd,he,hf,hg,hh⟩:=hok
  dsimp only at ha hb hc hd he hf hg hh ⊢
  have htr:=ht.below hR.bel (Nat.le_refl _)
  by_cases hlt:k < 64
  ·go_wp2_with (go_at_call 115;refine (rot_gen _ _ _ (by assumption) (by decide)).mono ?_;rintro e w' ⟨rfl,rfl⟩)
   simp only [show rotBy (-6)=26 from rfl,show rotBy (-11)=21 from rfl,show rotBy (-25)=7 from rfl]
   rw [S1_val e he,ch_val e f g he hf hg]
   have b1:=Sha.S1_lt e he
   have b2:=Sha.ch_lt e f g he
   have HT1:=Lib.hid (show Sha.t1 ⟨a,b,c,d,e,f,g,z⟩ (Sha.K.getD k 0) (sch.getD k 0)=(z+Sha.S1 e+Sha.ch e f g+Sha.K.getD k 0+sch.getD k 0) % 4294967296 from rfl)
   have hk1:=htr.rounds k hlt
   have hk2:=hR.sch.cell k
   rw [u32s_get _ _ (by omega)] at hk2
   have b3:=Sha.K_lt k
   have b4:=hsw k
   generalize Sha.S1 e=s1 at b1 HT1 ⊢
   generalize Sha.ch e f g=c1 at b2 HT1 ⊢
   generalize hkk:Sha.K.getD k 0=kk at hk1 b3 HT1
   generalize hkw:sch.getD k 0=kw at hk2 b4 HT1
   have HN:Hid (Sha.rnd ⟨a,b,c,d,e,f,g,z⟩ kk kw=Sha.rounds (Sha.ofL [x0,x1,x2,x3,x4,x5,x6,x7]) sch (k+1)):=by
    apply Lib.hid
    show _=Sha.rnd (Sha.rounds (Sha.ofL [x0,x1,x2,x3,x4,x5,x6,x7]) sch k) (Sha.K.getD k 0) (sch.getD k 0)
    rw [hkk,hkw,←HS.out]
   clear hkk hkw
   have j1:((k:Nat):Int) < 64:=by omega
   have j2:(0:Int)≤((k:Nat):Int):=by omega
   go_quiet (fail)
   have ET:((((z:Nat):Int)+s1+c1+kk) % 4294967296+kw) % 4294967296=((Sha.t1 ⟨a,b,c,d,e,f,g,z⟩ kk kw:Nat):Int):=by
    rw [HT1.out];omega
   have b5:Sha.t1 ⟨a,b,c,d,e,f,g,z⟩ kk kw < 4294967296:=Nat.mod_lt _ (by decide)
   rw [ET]
   clear ET
   go_wp2_with (go_at_call 115;refine (rot_gen _ _ _ (by assumption) (by decide)).mono ?_;rintro e w' ⟨rfl,rfl⟩)
   go_roundw
   case rel=>
    refine ⟨k+1,_,by omega,by go_num,HN.out,?_,rfl,rfl,rfl,?_,rfl,rfl,rfl,hR.drewN _⟩
    ·rw [show rotBy (-2)=30 from rfl,show rotBy (-13)=19 from rfl,show rotBy (-22)=10 from rfl,S0_val a ha,maj_val a b c ha hb hc]
     show _=Value.int .u32 (((Sha.t1 ⟨a,b,c,d,e,f,g,z⟩ kk kw+(Sha.S0 a+Sha.maj a b c) % 4294967296) % 4294967296:Nat):Int)
     congr 1;omega
    ·show _=Value.int .u32 (((d+Sha.t1 ⟨a,b,c,d,e,f,g,z⟩ kk kw) % 4294967296:Nat):Int)
     congr 1
   case measure=>simp [intOf];omega
  ·obtain rfl:k=64:=by omega
   have e0:wr.cell? ⟨w.heap.size,0,none⟩=some (.int .u32 (x0:Nat)):=hR.word hx 0 (by omega)
   have e1:wr.cell? ⟨w.heap.size,1,none⟩=some (.int .u32 (x1:Nat)):=hR.word hx 1 (by omega)
   have e2:wr.cell? ⟨w.heap.size,2,none⟩=some (.int .u32 (x2:Nat)):=hR.word hx 2 (by omega)
   have e3:wr.cell? ⟨w.heap.size,3,none⟩=some (.int .u32 (x3:Nat)):=hR.word hx 3 (by omega)
   have e4:wr.cell? ⟨w.heap.size,4,none⟩=some (.int .u32 (x4:Nat)):=hR.word hx 4 (by omega)
   have e5:wr.cell? ⟨w.heap.size,5,none⟩=some (.int .u32 (x5:Nat)):=hR.word hx 5 (by omega)
   have e6:wr.cell? ⟨w.heap.size,6,none⟩=some (.int .u32 (x6:Nat)):=hR.word hx 6 (by omega)
   have e7:wr.cell? ⟨w.heap.size,7,none⟩=some (.int .u32 (x7:Nat)):=hR.word hx 7 (by omega)
   have hbel:=hR.bel
   obtain ⟨cs,hz,hres⟩:=hR.res
   have HC:=Lib.hid hres
   have HZ:=Lib.hid hz
   clear hz hres
   go_wp2_with (first | (refine wpList_store_row rfl 166 (.tmp 4) (.tmp 133) rfl (w.heap.size+1+1) _ rfl rfl 166 _ HC.out ?_ ?_ ?_ ?_))
   case refine_1=>exact mix_info
   case refine_2=>exact HZ.out
   case refine_3=>rw [addS_val];exact u32s_one _
   rw [addS_val]
   have em:Sha.mix [x0,x1,x2,x3,x4,x5,x6,x7] sch=Sha.addS [x0,x1,x2,x3,x4,x5,x6,x7] ⟨a,b,c,d,e,f,g,z⟩:=by
    unfold Sha.mix;rw [HS.out]
   rw [em]
   exact bodyPost_ret (v:=.agg (u32s (Sha.addS [x0,x1,x2,x3,x4,x5,x6,x7] ⟨a,b,c,d,e,f,g,z⟩))) (results_cell_row rfl _ _ (w.heap.size+1+1) 166 _ (0,0) _ rfl (HC.out.row _) Tryz.underlying166 rfl mix_info) rfl ⟨rfl,below_row hbel (by omega) _⟩
structure JoinW (w:World) (ws:List Nat) (k:Nat) (wr:World):Prop where
 src:Blk wr w.heap.size 166 (u32s ws)
 res:∃ cs,cs.size=32∧Blk wr (w.heap.size+1) 42 cs
 row:Blk wr (w.heap.size+1+1) 42 (u8s ((Sha.join ws).take k++List.replicate (32 - k) 0))
 bel:Below w.heap.size w wr
theorem JoinW.start (w:World) (ws:List Nat):JoinW w ws 0 (((w.alloc (.cells (u32s ws) 166)).alloc (.cells (u8s (List.replicate 32 0)) 42)).alloc (.cells (u8s (List.replicate 32 0)) 42)):=by
 have hbel:Below w.heap.size w (((w.alloc (.cells (u32s ws) 166)).alloc (.cells (u8s (List.replicate 32 0)) 42)).alloc (.cells (u8s (List.replicate 32 0)) 42)):=by
  refine (((Below.refl _ _).alloc (Nat.le_refl _) _).alloc ?_ _).alloc ?_ _<;>simp<;>omega
 refine ⟨((Blk.new w _ _).alloc _).alloc _,⟨u8s (List.replicate 32 0),by rw [u8s_size];rfl,?_⟩,?_,hbel⟩
 ·have h:=(Blk.new (w.alloc (.cells (u32s ws) 166)) 42 (u8s (List.replicate 32 0))).alloc (.cells (u8s (List.replicate 32 0)) 42)
  simpa using h
 ·have h:=Blk.new ((w.alloc (.cells (u32s ws) 166)).alloc (.cells (u8s (List.replicate 32 0)) 42)) 42 (u8s (List.replicate 32 0))
  have e:((w.alloc (.cells (u32s ws) 166)).alloc (.cells (u8s (List.replicate 32 0)) 42)).heap.size=w.heap.size+1+1:=by simp
  rw [e] at h
  exact h
theorem fill_take {l:List Nat} {n k:Nat} (hl:l.length=n) (hk:k < n) (x:Nat) (hx:x=l.getD k 0):(l.take k++List.replicate (n - k) 0).set k x=l.take (k+1)++List.replicate (n - (k+1)) 0:=by
 have e:=fill_set (l.take k) (n - (k+1)) x
 rw [List.length_take,Nat.min_eq_left (by omega)] at e
 rw [show n - k=n - (k+1)+1 by omega,e,hx]
 congr 1
 rw [List.take_add_one]
 simp [List.getD,show k < l.length by omega]
theorem JoinW.put {w:World} {ws:List Nat} {k:Nat} {wr:World} (h:JoinW w ws k wr) (hk:k < 32) {v:Int} (hv:v=((Sha.join ws).getD k 0:Nat)) :
  JoinW w ws (k+1) (wr.setCell ⟨w.heap.size+1+1,k,none⟩ (.int .u8 v)):=by
 obtain ⟨cs,hz,hc⟩:=h.res
 refine ⟨h.src.far (by simp;omega) _,⟨cs,hz,hc.far (by simp) _⟩,?_,h.bel.setCell (p:=⟨w.heap.size+1+1,k,none⟩) (by show w.heap.size≤w.heap.size+1+1;omega) _⟩
 have h1:=h.row.set_ k (.int .u8 v)
 rw [hv,u8s_set,fill_take (Sha.join_len ws) hk _ rfl] at h1
 rw [hv]
 exact h1
theorem oid_info:(Tryz.prog.info? 42).map (·.size)=some 32:=by kernel_rfl
set_option maxRecDepth 100000 in
theorem join_any (ws:List Nat) (w:World) (hx:ws.length=8) (hw:Sha.W32 ws) :
  Calls Tryz.prog 103 #[.agg (u32s ws)] w fun e w'=>e=.returned (.agg (u8s (Sha.join ws)))∧Below w.heap.size w w':=by
 go_enter Tryz.func103,Tryz.ntmps103
 go_wp2
 go_loopw [5] (fun i wr=>∃ k:Nat,k≤32∧i=.int .i64 k∧JoinW w ws k wr) (fun i _=>32 - (intOf i).toNat)
 case atStart=>exact ⟨0,by omega,rfl,JoinW.start w ws⟩
 case round=>
  obtain ⟨k,hk,rfl,hJ⟩:=hrel
  by_cases hlt:k < 32
  ·have e0:=hJ.src.cell (k/4)
   rw [u32s_get _ _ (by omega)] at e0
   have b0:=hw (k/4)
   have HJ:=Lib.hid (Sha.join_get ws k hlt)
   generalize ws.getD (k/4) 0=x at e0 b0 HJ
   have e1:=hJ.row.cell k
   rw [u8s_get _ _ (by simp [Sha.join_len];omega)] at e1
   generalize ((Sha.join ws).take k++List.replicate (32 - k) 0).getD k 0=y at e1
   have e2:=hJ.row.frozen k
   have i0:(0:Int)≤((k:Nat):Int):=by omega
   have i1:((k:Nat):Int) < 32:=by omega
   have i2:(0:Int)≤24 - 8 * (((k:Nat):Int) % 4):=by omega
   have i3:24 - 8 * (((k:Nat):Int) % 4) < 32:=by omega
   have i4:((k:Nat):Int) / 4 < 8:=by omega
   have i5:(0:Int)≤((k:Nat):Int) / 4:=by omega
   go_wp2
   go_roundw
   case rel=>exact ⟨k+1,by omega,by go_num,hJ.put hlt (by rw [HJ.out];simp)⟩
   case measure=>simp [intOf];omega
  ·have HK:=Lib.hid (show k=32 by omega)
   have HR:Hid (Blk wr (w.heap.size+1+1) 42 (u8s (Sha.join ws))):=by
    have h:=hJ.row
    rw [HK.out,List.take_of_length_le (by rw [Sha.join_len];omega),show List.replicate (32 - 32) 0=([]:List Nat) from rfl,List.append_nil] at h
    exact Lib.hid h
   have HL:=Lib.hid (show (u8s (Sha.join ws)).size=32 by rw [u8s_size,Sha.join_len])
   have hbel:=hJ.bel
   obtain ⟨cs,hz,hres⟩:=hJ.res
   have HC:=Lib.hid hres
   have HZ:=Lib.hid hz
   clear hz hres
   go_wp2_with (first | (refine wpList_load_row rfl 42 (.tmp 3) rfl (w.heap.size+1+1) rfl 42 _ (0,0) _ HR.out Tryz.underlying42 rfl (by rw [HL.out];exact oid_info) ?_) | (refine wpList_store_row rfl 42 (.tmp 2) (.tmp 21) rfl (w.heap.size+1) _ rfl rfl 42 _ HC.out (by rw [HL.out];exact oid_info) (by rw [HL.out];exact HZ.out) (u8s_one _) ?_))
   exact bodyPost_ret (v:=.agg (u8s (Sha.join ws))) (results_cell_row rfl _ _ (w.heap.size+1) 42 _ (0,0) _ rfl (HC.out.row _) Tryz.underlying42 rfl (by rw [HL.out];exact oid_info)) rfl ⟨rfl,below_row hbel (by omega) _⟩
end Go.Proofs.YtndgadjeeinedaaGreatDoor
/- What a message's state is: plain mathematics. -/
namespace Go.Proofs.YtndgadjeeinedaaGreatDoor
namespace Sha
theorem getD_take {l:List Nat} {n i:Nat} (h:i < n):(l.take n).getD i 0=l.getD i 0:=by
 simp [List.getD,h]
theorem getD_drop {l:List Nat} {n i:Nat}:(l.drop n).getD i 0=l.getD (n+i) 0:=by
 simp [List.getD]
theorem ext_getD {a b:List Nat} (hl:a.length=b.length) (h:∀ i,i < a.length→a.getD i 0=b.getD i 0):a=b:=by
 apply List.ext_getElem hl
 intro i h1 h2
 have:=h i h1
 simpa [List.getD,h1,h2] using this
theorem blocks_app (bs ps:List Nat):∀ n,64 * n≤bs.length→blocks (bs++ps) n=blocks bs n
 | 0,_=>rfl
 | n+1,h=>by
  show block (blocks (bs++ps) n) (((bs++ps).drop (64*n)).take 64)=block (blocks bs n) ((bs.drop (64*n)).take 64)
  rw [blocks_app bs ps n (by omega)]
  congr 1
  rw [List.drop_append_of_le_length (by omega),List.take_append_of_le_length (by rw [List.length_drop];omega)]
structure Tail (bs blk:List Nat):Prop where
 len:blk.length=64
 byte:Byte blk
 same:∀ i,i < bs.length % 64→blk.getD i 0=bs.getD (64 * (bs.length / 64)+i) 0
theorem Byte.app {a b:List Nat} (ha:Byte a) (hb:Byte b):Byte (a++b):=fun i=>by
 by_cases h:i < a.length
 ·rw [getD_append_lt h];exact ha i
 ·rw [getD_append_ge (by omega)];exact hb _
theorem Byte.take {a:List Nat} (ha:Byte a) (n:Nat):Byte (a.take n):=fun i=>by
 by_cases h:i < n
 ·rw [getD_take h];exact ha i
 ·have e:(a.take n)[i]? = none:=List.getElem?_eq_none (by rw [List.length_take];omega)
  simp [List.getD,e]
theorem Byte.drop {a:List Nat} (ha:Byte a) (n:Nat):Byte (a.drop n):=fun i=>by rw [getD_drop];exact ha _
def lay (blk c:List Nat) (f:Nat):List Nat:=blk.take f++c++blk.drop (f+c.length)
theorem lay_len {blk c:List Nat} {f:Nat} (h:f+c.length≤blk.length):(lay blk c f).length=blk.length:=by
 simp [lay];omega
theorem lay_byte {blk c:List Nat} {f:Nat} (hb:Byte blk) (hc:Byte c):Byte (lay blk c f):=((hb.take f).app hc).app (hb.drop _)
theorem lay_lo {blk c:List Nat} {f i:Nat} (hf:f≤blk.length) (h:i < f):(lay blk c f).getD i 0=blk.getD i 0:=by
 unfold lay
 rw [List.append_assoc,getD_append_lt (by rw [List.length_take];omega),getD_take h]
theorem lay_mid {blk c:List Nat} {f i:Nat} (hf:f≤blk.length) (h:f≤i) (h2:i < f+c.length):(lay blk c f).getD i 0=c.getD (i - f) 0:=by
 unfold lay
 have e:(blk.take f).length=f:=by rw [List.length_take];omega
 rw [List.append_assoc,getD_append_ge (by omega),e,getD_append_lt (by omega)]
theorem Tail.part {bs blk c:List Nat} (h:Tail bs blk) (hc:Byte c) (hn:bs.length % 64+c.length < 64):Tail (bs++c) (lay blk c (bs.length % 64)):=by
 have hq:(bs++c).length / 64=bs.length / 64:=by rw [List.length_append];omega
 have hr:(bs++c).length % 64=bs.length % 64+c.length:=by rw [List.length_append];omega
 have hlen:=h.len
 refine ⟨by rw [lay_len (by omega),hlen],lay_byte h.byte hc,fun i hi=>?_⟩
 rw [hq]
 rw [hr] at hi
 by_cases hlt:i < bs.length % 64
 ·rw [lay_lo (by omega) hlt,h.same i hlt,getD_append_lt (by omega)]
 ·rw [lay_mid (by omega) (by omega) hi,getD_append_ge (by omega)]
  congr 1;omega
theorem Tail.whole {bs blk c:List Nat} (h:Tail bs blk) (hn:bs.length % 64+c.length=64) :
  blocks (bs++c) ((bs++c).length / 64)=block (blocks bs (bs.length / 64)) (lay blk c (bs.length % 64))∧(bs++c).length % 64=0:=by
 have hq:(bs++c).length / 64=bs.length / 64+1:=by rw [List.length_append];omega
 have hlen:=h.len
 refine ⟨?_,by rw [List.length_append];omega⟩
 rw [hq]
 show block (blocks (bs++c) (bs.length / 64)) _=_
 rw [blocks_app bs c _ (by omega)]
 congr 1
 have hl:(bs++c).length=64 * (bs.length / 64)+64:=by rw [List.length_append];omega
 refine ext_getD ?_ (fun i hi=>?_)
 ·rw [List.length_take,List.length_drop,lay_len (by omega),hlen,hl];omega
 ·rw [List.length_take,List.length_drop,hl] at hi
  rw [getD_take (by omega),getD_drop]
  by_cases hlt:i < bs.length % 64
  ·rw [lay_lo (by omega) hlt,h.same i hlt,getD_append_lt (by omega)]
  ·rw [lay_mid (by omega) (by omega) (by omega),getD_append_ge (by omega)]
   congr 1;omega
theorem Tail.fresh {bs blk:List Nat} (hl:blk.length=64) (hb:Byte blk) (h0:bs.length % 64=0):Tail bs blk:=⟨hl,hb,fun i hi=>by omega⟩
theorem lay_nil (blk:List Nat) (f:Nat):lay blk [] f=blk:=by simp [lay]
theorem lay_snoc {blk c:List Nat} {f:Nat} (x:Nat) (h:f+c.length < blk.length):(lay blk c f).set (f+c.length) x=lay blk (c++[x]) f:=by
 unfold lay
 have e:(blk.take f++c).length=f+c.length:=by rw [List.length_append,List.length_take];omega
 rw [List.set_append_right _ _ (by omega),e,Nat.sub_self,List.drop_eq_getElem_cons h,List.set_cons_zero]
 simp [Nat.add_assoc]
theorem len8_len (n:Nat):(len8 n).length=8:=by simp [len8]
theorem len8_get (n k:Nat) (h:k < 8):(len8 n).getD k 0=8 * n / 2^(8*(7-k)) % 256:=by simp [len8,List.getD,h]
theorem len8_byte (n:Nat):Byte (len8 n):=fun i=>by
 by_cases h:i < 8
 ·rw [len8_get n i h];exact Nat.mod_lt _ (by decide)
 ·have e:(len8 n)[i]? = none:=List.getElem?_eq_none (by rw [len8_len];omega)
  simp [List.getD,e]
theorem take_snoc {l:List Nat} {k:Nat} (h:k < l.length):l.take (k+1)=l.take k++[l.getD k 0]:=by
 rw [List.take_add_one];simp [List.getD,h]
theorem Byte.zeros (n:Nat):Byte (List.replicate n 0):=fun i=>by
 rcases Nat.lt_or_ge i n with h | h
 ·simp [List.getD,h]
 ·simp [List.getD,h]
theorem Byte.one {x:Nat} (h:x < 256):Byte [x]:=fun i=>by
 rcases i with _ | i
 ·simpa using h
 ·simp
def gap (n:Nat):Nat:=(119 - n % 64) % 64
def upTo (bs:List Nat) (z:Nat):List Nat:=bs++[128]++List.replicate z 0
theorem upTo_len (bs:List Nat) (z:Nat):(upTo bs z).length=bs.length+1+z:=by simp [upTo];omega
theorem upTo_succ (bs:List Nat) (z:Nat):upTo bs (z+1)=upTo bs z++[0]:=by
 simp [upTo,List.replicate_succ']
theorem sum_upTo {bs blk:List Nat} (h:Tail (upTo bs (gap bs.length)) blk) :
  sum bs=join (block (blocks (upTo bs (gap bs.length)) ((upTo bs (gap bs.length)).length / 64)) (lay blk (len8 bs.length) 56)):=by
 have h56:(upTo bs (gap bs.length)).length % 64=56:=by rw [upTo_len];unfold gap;omega
 have hw:=(h.whole (c:=len8 bs.length) (by rw [h56,len8_len])).1
 rw [h56] at hw
 rw [←hw]
 rfl
end Sha
end Go.Proofs.YtndgadjeeinedaaGreatDoor
/- How a message lies in memory (struct sha.message), and what each store makes of it. -/
namespace Go.Proofs.YtndgadjeeinedaaGreatDoor
open Go Go.RowKit
def msgC (ws blk:List Nat) (f L:Nat):Array Value:=u32s ws++u8s blk++#[.int .i64 (f:Int),.int .u64 (L:Int)]
structure MsgC (w:World) (p:Nat) (ws blk:List Nat) (f L:Nat):Prop where
 at_:Blk w p 169 (msgC ws blk f L)
 len8:ws.length=8
 len64:blk.length=64
theorem msgC_size {ws blk:List Nat} {f L:Nat} (h8:ws.length=8) (h64:blk.length=64):(msgC ws blk f L).size=74:=by
 simp [msgC,u32s_size,u8s_size,h8,h64]
section
variable {w:World} {p:Nat} {ws blk:List Nat} {f L:Nat}
theorem MsgC.word (h:MsgC w p ws blk f L) (i:Nat) (hi:i < 8):w.cell? ⟨p,i,none⟩=some (.int .u32 ((ws.getD i 0:Nat):Int)):=by
 have h8:=h.len8
 rw [h.at_.cell i,←u32s_get ws i (by omega),msgC,Array.append_assoc,Array.getElem?_append_left (by rw [u32s_size];omega)]
theorem MsgC.byte (h:MsgC w p ws blk f L) (i:Nat) (hi:i < 64):w.cell? ⟨p,8+i,none⟩=some (.int .u8 ((blk.getD i 0:Nat):Int)):=by
 have h8:=h.len8
 have h64:=h.len64
 rw [h.at_.cell (8+i),←u8s_get blk i (by omega),msgC,Array.append_assoc,Array.getElem?_append_right (by rw [u32s_size];omega),Array.getElem?_append_left (by rw [u8s_size,u32s_size];omega),u32s_size]
 congr 1;omega
theorem MsgC.fill (h:MsgC w p ws blk f L):w.cell? ⟨p,72,none⟩=some (.int .i64 (f:Int)):=by
 rw [h.at_.cell 72,msgC,Array.getElem?_append_right (by rw [Array.size_append,u32s_size,u8s_size,h.len8,h.len64];omega),Array.size_append,u32s_size,u8s_size,h.len8,h.len64]
 rfl
theorem MsgC.length (h:MsgC w p ws blk f L):w.cell? ⟨p,73,none⟩=some (.int .u64 (L:Int)):=by
 rw [h.at_.cell 73,msgC,Array.getElem?_append_right (by rw [Array.size_append,u32s_size,u8s_size,h.len8,h.len64];omega),Array.size_append,u32s_size,u8s_size,h.len8,h.len64]
 rfl
theorem MsgC.frozen (h:MsgC w p ws blk f L) (i:Nat):w.frozen? ⟨p,i,none⟩=false:=h.at_.frozen i
theorem MsgC.drew (h:MsgC w p ws blk f L):MsgC w.drew p ws blk f L:=⟨h.at_.drew,h.len8,h.len64⟩
theorem MsgC.below {B:Nat} {w':World} (h:MsgC w p ws blk f L) (hb:Below B w w') (hp:p < B):MsgC w' p ws blk f L:=⟨h.at_.below hb hp,h.len8,h.len64⟩
theorem MsgC.lt (h:MsgC w p ws blk f L):p < w.heap.size:=h.at_.lt
theorem MsgC.setFill (h:MsgC w p ws blk f L) {v:Int} {f':Nat} (hv:v=f'):MsgC (w.setCell ⟨p,72,none⟩ (.int .i64 v)) p ws blk f' L:=by
 refine ⟨?_,h.len8,h.len64⟩
 have h1:=h.at_.set_ 72 (.int .i64 v)
 have h8:=h.len8
 have h64:=h.len64
 rw [show (msgC ws blk f L).setIfInBounds 72 (.int .i64 v)=msgC ws blk f' L by
  apply Array.ext'
  simp only [msgC,Array.toList_setIfInBounds,Array.toList_append,u32s,u8s]
  rw [List.set_append_right _ _ (by simp;omega)]
  simp [h8,h64,hv]] at h1
 exact h1
theorem MsgC.setLength (h:MsgC w p ws blk f L) {v:Int} {L':Nat} (hv:v=L'):MsgC (w.setCell ⟨p,73,none⟩ (.int .u64 v)) p ws blk f L':=by
 refine ⟨?_,h.len8,h.len64⟩
 have h1:=h.at_.set_ 73 (.int .u64 v)
 have h8:=h.len8
 have h64:=h.len64
 rw [show (msgC ws blk f L).setIfInBounds 73 (.int .u64 v)=msgC ws blk f L' by
  apply Array.ext'
  simp only [msgC,Array.toList_setIfInBounds,Array.toList_append,u32s,u8s]
  rw [List.set_append_right _ _ (by simp;omega)]
  simp [h8,h64,hv]] at h1
 exact h1
theorem MsgC.setByte (h:MsgC w p ws blk f L) {v:Int} {x i:Nat} (hi:i < 64) (hv:v=x):MsgC (w.setCell ⟨p,8+i,none⟩ (.int .u8 v)) p ws (blk.set i x) f L:=by
 refine ⟨?_,h.len8,by rw [List.length_set];exact h.len64⟩
 have h1:=h.at_.set_ (8+i) (.int .u8 v)
 have h8:=h.len8
 have h64:=h.len64
 rw [show (msgC ws blk f L).setIfInBounds (8+i) (.int .u8 v)=msgC ws (blk.set i x) f L by
  apply Array.ext'
  simp only [msgC,Array.toList_setIfInBounds,Array.toList_append,u32s,u8s]
  rw [List.set_append_left _ _ (by simp;omega),List.set_append_right _ _ (by simp;omega)]
  simp [h8,hv,List.map_set]] at h1
 exact h1
theorem MsgC.setWord (h:MsgC w p ws blk f L) {v:Int} {x i:Nat} (hi:i < 8) (hv:v=x):MsgC (w.setCell ⟨p,i,none⟩ (.int .u32 v)) p (ws.set i x) blk f L:=by
 refine ⟨?_,by rw [List.length_set];exact h.len8,h.len64⟩
 have h1:=h.at_.set_ i (.int .u32 v)
 have h8:=h.len8
 have h64:=h.len64
 rw [show (msgC ws blk f L).setIfInBounds i (.int .u32 v)=msgC (ws.set i x) blk f L by
  apply Array.ext'
  simp only [msgC,Array.toList_setIfInBounds,Array.toList_append,u32s,u8s]
  rw [List.append_assoc,List.set_append_left _ _ (by simp;omega)]
  simp [hv,List.map_set]] at h1
 exact h1
theorem MsgC.splice (h:MsgC w p ws blk f L) {f0:Nat} {c:List Nat} (hf:f0+c.length≤64) {cs:Array Value}
  (hcs:cs=((msgC ws blk f L).toList.take (8+f0)++(c.map (fun (n:Nat)=>Value.int .u8 (n:Int))++(msgC ws blk f L).toList.drop (8+f0+c.length))).toArray) :
  MsgC (w.setRow p cs) p ws (Sha.lay blk c f0) f L:=by
 have h8:=h.len8
 have h64:=h.len64
 refine ⟨?_,h8,by rw [Sha.lay_len (by omega)];exact h64⟩
 have h1:=h.at_.row cs
 have e:cs=msgC ws (Sha.lay blk c f0) f L:=by
  rw [hcs]
  apply Array.ext'
  simp only [msgC,Array.toList_append,u32s,u8s,Sha.lay,List.map_append,List.map_take,List.map_drop]
  generalize hA:ws.map (fun (n:Nat)=>Value.int .u32 (n:Int))=A
  generalize hB:blk.map (fun (n:Nat)=>Value.int .u8 (n:Int))=B
  have hA':A.length=8:=by rw [←hA];simpa using h8
  have hB':B.length=64:=by rw [←hB];simpa using h64
  rw [List.append_assoc A B,List.take_append,List.drop_append,hA',List.take_of_length_le (by omega),List.drop_eq_nil_of_le (by omega),show 8+f0 - 8=f0 by omega,show 8+f0+c.length - 8=f0+c.length by omega,
   List.take_append_of_le_length (by omega),List.drop_append_of_le_length (by omega)]
  simp
 rw [e] at h1 ⊢
 exact h1
end
theorem setWords {ws:List Nat} (h:ws.length=8) (a b c d e f g z:Nat) :
  (((((((ws.set 0 a).set 1 b).set 2 c).set 3 d).set 4 e).set 5 f).set 6 g).set 7 z=[a,b,c,d,e,f,g,z]:=by
 obtain ⟨x0,x1,x2,x3,x4,x5,x6,x7,rfl⟩:=list8 h
 rfl
theorem MsgC.there8 {w:World} {p:Nat} {ws blk:List Nat} {f L:Nat} (h:MsgC w p ws blk f L):w.there p 0 8:=fun j hj=>by
 rw [Nat.zero_add];exact ⟨by rw [h.word j hj];rfl,h.frozen j⟩
theorem MsgC.setEight {w:World} {p:Nat} {ws blk:List Nat} {f L:Nat} (h:MsgC w p ws blk f L) (a b c d e g i z:Nat) :
  MsgC (w.setCells p 0 [Value.int .u32 (a:Nat),.int .u32 (b:Nat),.int .u32 (c:Nat),.int .u32 (d:Nat),.int .u32 (e:Nat),.int .u32 (g:Nat),.int .u32 (i:Nat),.int .u32 (z:Nat)]) p [a,b,c,d,e,g,i,z] blk f L:=by
 rw [←setWords h.len8 a b c d e g i z]
 exact (((((((h.setWord (i:=0) (by omega) rfl).setWord (i:=1) (by omega) rfl).setWord (i:=2) (by omega) rfl).setWord (i:=3) (by omega) rfl).setWord (i:=4) (by omega) rfl).setWord (i:=5) (by omega) rfl).setWord (i:=6) (by omega) rfl).setWord (i:=7) (by omega) rfl
theorem only_setCells {a w:World} {g:Nat} (h:a.grownBy w (some g)):∀ (vs:List Value) (o:Nat) (w:World),a.grownBy w (some g)→a.grownBy (w.setCells g o vs) (some g)
 | [],_,_,h=>h
 | _::r,o,_,h'=>only_setCells h r (o+1) _ (only_setCell h' (.inl rfl) _)
end Go.Proofs.YtndgadjeeinedaaGreatDoor
/- Bytes that a slice value holds. -/
namespace Go.Proofs.YtndgadjeeinedaaGreatDoor
open Go Go.RowKit
def RdB (w:World) (p:Nat) (v:Value) (xs:List Nat):Prop:=
 ∃ A c,v=.slice A xs.length c∧xs.length≤c∧(0 < xs.length→∃ b o,A=some ⟨b,o,none⟩∧b≠p∧b < w.heap.size∧∀ i,i < xs.length→w.cell? ⟨b,o+i,none⟩=some (.int .u8 ((xs.getD i 0:Nat):Int)))
theorem RdB.only {w w':World} {p:Nat} {v:Value} {xs:List Nat} (h:RdB w p v xs) (k:w.grownBy w' (some p)):RdB w' p v xs:=by
 obtain ⟨A,c,hv,hc,hA⟩:=h
 refine ⟨A,c,hv,hc,fun h0=>?_⟩
 obtain ⟨b,o,ha,hb,hl,hx⟩:=hA h0
 exact ⟨b,o,ha,hb,Nat.lt_of_lt_of_le hl k.size,fun i hi=>k.cell (hx i hi) (fun e=>hb (by injection e))⟩
theorem RdB.cut {w:World} {p:Nat} {A:Option Addr} {n c:Nat} {xs:List Nat} (h:RdB w p (.slice A n c) xs) {k:Nat} (hk:k≤xs.length) :
  RdB w p (.slice (if c=k then A else A.map (·.add k)) (n - k) (c - k)) (xs.drop k):=by
 obtain ⟨A',c',hv,hc,hA⟩:=h
 injection hv with e1 e2 e3
 subst e1 e2 e3
 refine ⟨_,_,by rw [List.length_drop],by rw [List.length_drop];omega,fun h0=>?_⟩
 rw [List.length_drop] at h0
 obtain ⟨b,o,ha,hb,hl,hx⟩:=hA (by omega)
 refine ⟨b,o+k,?_,hb,hl,fun i hi=>?_⟩
 ·rw [if_neg (by omega),ha]
  show some ((⟨b,o,none⟩:Addr).add k)=_
  rw [Addr.add_mid]
 ·rw [List.length_drop] at hi
  rw [Nat.add_assoc,hx (k+i) (by omega),Sha.getD_drop]
theorem RdB.only' {w w':World} {p b o n c:Nat} {xs:List Nat} {s2:Value} (h:RdB w p (.slice (some ⟨b,o,none⟩) n c) xs) (k:w.grownBy w' (some p)) {m:Nat} (hk:m≤xs.length)
  (e:s2=Value.slice (if c=m then some ⟨b,o,none⟩ else (some (⟨b,o,none⟩:Addr)).map (·.add m)) (n - m) (c - m)):RdB w' p s2 (xs.drop m):=by
 rw [e];exact (h.only k).cut hk
def Rd (w:World) (v:Value) (xs:List Nat):Prop:=
 ∃ A c,v=.slice A xs.length c∧xs.length≤c∧(0 < xs.length→∃ b o,A=some ⟨b,o,none⟩∧b < w.heap.size∧∀ i,i < xs.length→w.cell? ⟨b,o+i,none⟩=some (.int .u8 ((xs.getD i 0:Nat):Int)))
theorem Rd.below {w w':World} {v:Value} {xs:List Nat} (h:Rd w v xs) {B:Nat} (hb:Below B w w') (hB:w.heap.size≤B):Rd w' v xs:=by
 obtain ⟨A,c,hv,hc,hA⟩:=h
 refine ⟨A,c,hv,hc,fun h0=>?_⟩
 obtain ⟨b,o,ha,hl,hx⟩:=hA h0
 have:=hb.size
 exact ⟨b,o,ha,by omega,fun i hi=>(hb.cell (p:=⟨b,o+i,none⟩) (by show b < B;omega)).trans (hx i hi)⟩
theorem Rd.out {w:World} {v:Value} {xs:List Nat} (h:Rd w v xs) {p:Nat} (hp:w.heap.size≤p):RdB w p v xs:=by
 obtain ⟨A,c,hv,hc,hA⟩:=h
 refine ⟨A,c,hv,hc,fun h0=>?_⟩
 obtain ⟨b,o,ha,hl,hx⟩:=hA h0
 exact ⟨b,o,ha,by omega,hl,hx⟩
theorem Rd.outB {w w':World} {v:Value} {xs:List Nat} (h:Rd w v xs) {p:Nat} (hp:w.heap.size≤p) (hb:Below w.heap.size w w'):RdB w' p v xs:=by
 obtain ⟨A,c,hv,hc,hA⟩:=h
 refine ⟨A,c,hv,hc,fun h0=>?_⟩
 obtain ⟨b,o,ha,hl,hx⟩:=hA h0
 have:=hb.size
 exact ⟨b,o,ha,by omega,by omega,fun i hi=>(hb.cell (p:=⟨b,o+i,none⟩) (by show b < _;omega)).trans (hx i hi)⟩
def RdL (w:World) (v:Value) (vs:List Value):Prop:=
 ∃ A c,v=.slice A vs.length c∧vs.length≤c∧(0 < vs.length→∃ b o,A=some ⟨b,o,none⟩∧b < w.heap.size∧∀ i u,vs[i]? = some u→w.cell? ⟨b,o+i,none⟩=some u)
end Go.Proofs.YtndgadjeeinedaaGreatDoor
