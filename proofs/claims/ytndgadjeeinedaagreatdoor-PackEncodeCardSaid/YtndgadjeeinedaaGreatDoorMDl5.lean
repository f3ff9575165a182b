/- delta.Apply: the text that a delta makes of a base. -/
import Derived.Test.YtndgadjeeinedaaGreatDoorMDl4s
namespace Go.Proofs.YtndgadjeeinedaaGreatDoor
open Go Go.RowKit Go.Shelf
attribute [local go_sem] Oper.semAt_some
namespace Dl
def adds (base d:List Nat):Ev→List Nat
 | .bad _=>[]
 | .copy n f=>(base.drop f).take n
 | .fresh n p=>(d.drop p).take n
def outs (base d:List Nat) (l:List Ev):List Nat:=l.flatMap (adds base d)
theorem outs_snoc (base d:List Nat) (l:List Ev) (e:Ev):outs base d (l++[e])=outs base d l++adds base d e:=by simp [outs]
def applyP (base d:List Nat):Res:=
 if d.length < 4 then .err 1 else if two d 0≠base.length then .err 18 else if 300 < two d 2 then .err 12 else runE base d (two d 2) (evs d 4) []
def Goes (base d:List Nat) (to:Nat) (pre:List Ev):Prop:=∀ rest,runE base d to (pre++rest) []=runE base d to rest (outs base d pre)
def Ends (base d:List Nat) (to:Nat) (pre:List Ev) (k:Nat):Prop:=∀ rest,runE base d to (pre++rest) []=.err k
theorem Goes.nil (base d:List Nat) (to:Nat):Goes base d to []:=fun _=>rfl
end Dl
def stepC (b o c:Nat):Dl.Ev→Array Value
 | .bad _=>#[.int .i64 0,.slice none 0 0,.int .i64 0]
 | .copy n f=>#[.int .i64 (n:Int),.slice none 0 0,.int .i64 (f:Int)]
 | .fresh n p=>#[.int .i64 (n:Int),.slice (some ⟨b,o+p,none⟩) n (c - p),.int .i64 0]
theorem Blk.keptFrom {X Y:World} {row:Option Nat} {g:Nat} {t:TypeId} {cs:Array Value} (h:Blk X g t cs) (hg:X.grownBy Y row) (hr:∀ r,row=some r→∃ o:Obj,X.heap[r]? = some o∧o.isCells=false):Blk Y g t cs:=
 h.grown hg (fun e=>by obtain ⟨o,ho,hc⟩:=hr g e.symm;rw [show X.heap[g]? = _ from h] at ho;cases ho;cases hc)
theorem boxed_from {β:Type} (B0 B:Nat) (t:TypeId) (v:Value):OwnFrom B0 (fun (_:β) W=>Boxed W B t v):=
 fun _ _X _Y _row hs hg hr=>Blk.keptFrom (cs:=#[v]) hs hg (fun r e=>(hr r e).2)
theorem Dl.Goes.step {base d:List Nat} {to:Nat} {pre:List Dl.Ev} {e:Dl.Ev} (h:Dl.Goes base d to pre) (he:∀ rest,Dl.runE base d to (e::rest) (Dl.outs base d pre)=Dl.runE base d to rest (Dl.outs base d pre++Dl.adds base d e)):Dl.Goes base d to (pre++[e]):=
 fun rest=>by rw [List.append_assoc,Dl.outs_snoc];exact (h _).trans (he rest)
theorem Dl.Goes.stop {base d:List Nat} {to k:Nat} {pre:List Dl.Ev} {e:Dl.Ev} (h:Dl.Goes base d to pre) (he:∀ rest,Dl.runE base d to (e::rest) (Dl.outs base d pre)=.err k):Dl.Ends base d to (pre++[e]) k:=
 fun rest=>by rw [List.append_assoc];exact (h _).trans (he rest)
theorem keepsOthers_of_below {W W1:World} (h:Below W.heap.size W W1):KeepsOthers W W1:=
 ⟨h.size,fun k _o hk _=>(h.block k (Array.getElem?_eq_some_iff.1 hk).1).trans hk⟩
def ASents (w:World) (a:Nat→Addr):Prop:=∀ k,(k=0∨k=1∨k=2∨k=3∨k=12∨k=18)→SentAt w (sgs.getD k 0) (stexts.getD k []) (a k)
def ApplyPost (r:Dl.Res) (ea:Nat→Addr) (w:World) (e:Ending) (w':World):Prop:=
 match r with
 | .err k=>e=.returned (.tuple #[.slice none 0 0,ev (ea k)])∧Below w.heap.size w w'
 | .ok l=>∃ v,e=.returned (.tuple #[v,.nilIface])∧Pad w.heap.size w v l w'
def ApI (base d:List Nat) (to B:Nat) (bv:Value) (w:World) (pre:List Dl.Ev) (W:World):Prop:=
 ((∃ v,Boxed W (B+4) 25 v∧W.ownsRow B 5 1 v (Dl.outs base d (pre.map (Dl.norm d))).length (cellsB (Dl.outs base d (pre.map (Dl.norm d))))∧(Dl.Goes base d to (pre.map (Dl.norm d))∧(Dl.outs base d (pre.map (Dl.norm d))).length≤to)) ∧
  (Boxed W B 25 bv∧Boxed W (B+1) 25 (.slice none 0 0)∧Boxed W (B+2) 27 .nilIface∧Boxed W (B+3) 3 (.int .i64 (to:Int))))∧Below B w W
def ApX (base d:List Nat) (to B:Nat) (ea:Nat→Addr) (w:World) (c:Code) (pre:List Dl.Ev) (W:World):Prop:=
 (c=.ret∧∃ k,Dl.Ends base d to (pre.map (Dl.norm d)) k∧Boxed W (B+1) 25 (.slice none 0 0)∧Boxed W (B+2) 27 (ev (ea k)))∧Below B w W
theorem ApI.own (base d:List Nat) (to B B0:Nat) (bv:Value) (w:World) (h1:B≤w.heap.size) (h2:B≤B0):OwnFrom B0 (ApI base d to B bv w):=
 OwnFrom.and (OwnFrom.and (Own.from (holdsRow_own B (B+4) 25 5 1 (fun pre:List Dl.Ev=>(Dl.outs base d (pre.map (Dl.norm d))).length) (fun pre:List Dl.Ev=>cellsB (Dl.outs base d (pre.map (Dl.norm d)))) (fun (pre:List Dl.Ev) _=>Dl.Goes base d to (pre.map (Dl.norm d))∧(Dl.outs base d (pre.map (Dl.norm d))).length≤to)) B0)
  (OwnFrom.and (boxed_from B0 _ _ _) (OwnFrom.and (boxed_from B0 _ _ _) (OwnFrom.and (boxed_from B0 _ _ _) (boxed_from B0 _ _ _))))) (ownFrom_below h1 h2)
theorem ApX.own (base d:List Nat) (to B B0:Nat) (ea:Nat→Addr) (w:World) (c:Code) (h1:B≤w.heap.size) (h2:B≤B0):OwnFrom B0 (ApX base d to B ea w c):=
 OwnFrom.and (fun _ X Y row ⟨hc,k,hk,a1,a2⟩ hg hr=>⟨hc,k,hk,boxed_from (β:=Unit) B0 _ _ _ () X Y row a1 hg hr,boxed_from (β:=Unit) B0 _ _ _ () X Y row a2 hg hr⟩) (ownFrom_below h1 h2)
theorem bxStands {W W':World} {B:Nat} {t:TypeId} {v:Value} (h:Boxed W B t v) (hb:Below W.heap.size W W'):Boxed W' B t v:=Blk.below (cs:=#[v]) h hb h.lt
theorem bxPast {W:World} {B B':Nat} {t:TypeId} {v:Value} (h:Boxed W B t v) (hn:B≠B') (u:Value):Boxed (W.setCell ⟨B',0,none⟩ u) B t v:=Blk.far (cs:=#[v]) (p:=⟨B',0,none⟩) h hn u
theorem ownsRow_some {W:World} {base:Nat} {e:TypeId} {size:Nat} {v:Value} {k:Nat} {xs:List Value} (h:W.ownsRow base e size v k xs) (h0:0 < k):∃ g cap,v=.slice (some ⟨g,0,none⟩) k cap:=by
 cases k with
 | zero=>omega
 | succ k=>exact ownsRow_succ h
theorem ap_stop {base d:List Nat} {to B B0:Nat} {ea:Nat→Addr} {w W W1:World} {pre:List Dl.Ev} {x:Dl.Ev} {k:Nat} {bv:Value} {a:Act} (h1:Below W.heap.size W W1) (hBW:Below B w W)
  (b1:Boxed W (B+1) 25 (.slice none 0 0)) (b2:Boxed W (B+2) 27 .nilIface) (hE:Dl.Ends base d to (pre.map (Dl.norm d)++[Dl.norm d x]) k) (hB:B≤w.heap.size) :
  ownPostG B0 (Below B) (ApI base d to B bv w) (ApX base d to B ea w) (pre++[x]) W .ret a ((W1.setCell ⟨B+1,0,none⟩ (.slice none 0 0)).setCell ⟨B+1+1,0,none⟩ (ev (ea k))):=by
 have hs:B≤W.heap.size:=Nat.le_trans hB hBW.size
 refine ⟨((keepsOthers_of_below h1).trans ((KeepsOthers.setCell _ _ _).trans (KeepsOthers.setCell _ _ _))).from _,⟨rfl,k,by simpa using hE,bxPast (Boxed.set _ (bxStands b1 h1)) (by omega) _,?_⟩,?_⟩
 ·exact Boxed.set _ (bxPast (bxStands b2 h1) (by omega) _)
 ·exact hBW.trans (((h1.mono hs).setCell (p:=⟨B+1,0,none⟩) (by show B≤B+1;omega) _).setCell (p:=⟨B+1+1,0,none⟩) (by show B≤B+1+1;omega) _)
theorem ap_go {base d:List Nat} {to B B0:Nat} {ea:Nat→Addr} {w W W1 w1:World} {pre:List Dl.Ev} {x:Dl.Ev} {bv v v':Value} {a:Act} {ys:List Nat} (h1:Below W.heap.size W W1) (hI:ApI base d to B bv w pre W) (hB:B≤w.heap.size)
  (bT:Boxed W (B+4) 25 v) (hown:W.ownsRow B 5 1 v (Dl.outs base d (pre.map (Dl.norm d))).length (cellsB (Dl.outs base d (pre.map (Dl.norm d)))))
  (hys:ys=Dl.outs base d (pre.map (Dl.norm d))++Dl.adds base d (Dl.norm d x)) (hG:Dl.Goes base d to (pre.map (Dl.norm d)++[Dl.norm d x])) (hle:ys.length≤to)
  (hown':w1.ownsRow B 5 1 v' ys.length (cellsB ys)) (hg:W1.grownBy w1 v.ownBlock) :
  ownPostG B0 (Below B) (ApI base d to B bv w) (ApX base d to B ea w) (pre++[x]) W .normal a (w1.setCell ⟨B+4,0,none⟩ v'):=by
 obtain ⟨⟨_,cB,cR1,cR2,cTo⟩,hBW⟩:=hI
 have hs:B≤W.heap.size:=Nat.le_trans hB hBW.size
 have hown1:W1.ownsRow B 5 1 v (Dl.outs base d (pre.map (Dl.norm d))).length (cellsB (Dl.outs base d (pre.map (Dl.norm d)))):=by
  refine hown.kept (only_of_below h1 none) ?_
  rcases hown.2 with ⟨rfl,_⟩ | ⟨g,cap,cur,rfl,_⟩
  ·exact .inl rfl
  ·exact .inr (by simp [Value.ownBlock])
 have st:∀ {P:Nat} {t:TypeId} {u:Value},Boxed W P t u→t≠5→Boxed w1 P t u:=fun hb ht=>Boxed.kept (bxStands hb h1) hg (Boxed.not_row (bxStands hb h1) ht hown1)
 have hv1:=st bT (by decide)
 have eo:Dl.outs base d ((pre++[x]).map (Dl.norm d))=ys:=by rw [List.map_append,List.map_cons,List.map_nil,Dl.outs_snoc,hys]
 have hb2:Below B W (w1.setCell ⟨B+4,0,none⟩ v'):=((h1.mono hs).grown hg (Nat.le_trans hs h1.size) (fun j ej=>(hown.lt j ej).1)).setCell (p:=⟨B+4,0,none⟩) (by show B≤B+4;omega) _
 refine ⟨(((keepsOthers_of_below h1).trans (KeepsOthers.of_grownBy hg fun j o ej hj=>?_)).trans (KeepsOthers.setCell _ _ _)).from _,hb2,⟨⟨v',hv1.set _,?_,?_,?_⟩,bxPast (st cB (by decide)) (by omega) _,bxPast (st cR1 (by decide)) (by omega) _,bxPast (st cR2 (by decide)) (by omega) _,bxPast (st cTo (by decide)) (by omega) _⟩,hBW.trans hb2⟩
 ·rcases hown1.2 with ⟨rfl,_⟩ | ⟨g,cap,cur,rfl,_,hgb,_⟩
  ·simp [Value.ownBlock] at ej
  ·obtain rfl:g=j:=by simpa [Value.ownBlock] using ej
   rw [hgb] at hj;cases hj;rfl
 ·rw [eo];exact hown'.kept (grownBy_setCell' w1 (B+4) v') (.inr (hv1.not_row (by decide) hown').symm)
 ·rw [List.map_append];exact hG
 ·rw [eo];exact hle
theorem Dl.appendB {o:Oper} {a:Act} {w:World} {K:Act→World→Prop} {Q:Exit→Act→World→Prop} (s x:Operand)
  (ho:o.op=.call { callee:=.builtin .append,args:=#[s,x],argTypes:=#[25,25] }) (base:Nat) (v:Value) (ys:List Nat) (hs:a.eval s=v) (hown:w.ownsRow base 5 1 v ys.length (cellsB ys)) (hbase:base≤w.heap.size)
  (u:Value) (hx:a.eval x=u) (xs:List Nat) (hu:Rd w u xs) (h0:0 < xs.length) (hz:ys.length+xs.length≤70368744177664)
  (h:∀ v' w',w'.ownsRow base 5 1 v' (ys++xs).length (cellsB (ys++xs))→w.grownBy w' v.ownBlock→K (a.put o.dst v') w'):o.wp Tryz.prog a w K Q:=by
 obtain ⟨i0,hi0,hiz,his,hib⟩:=info_parts byte_info
 obtain ⟨A,c,rfl,hc,hA⟩:=hu
 have e0:cellsB ys++cellsB xs=cellsB (ys++xs):=by simp [cellsB]
 obtain ⟨b,o',rfl,_,hxx⟩:=hA h0
 refine wp_append_own w s x 25 ho base 5 i0 _ 1 1 Tryz.underlying25 hi0 hiz his hib rfl (by decide) v ys.length (cellsB ys) hs hown _ xs.length c (cellsB xs) hx (by rw [cellsB_len,Nat.mul_one]) ?_ (cellsB_one _) (by unfold maxLen;omega) (by omega) hbase ?_
 ·intro j t hj
  have hjl:j < xs.length:=by have:=(List.getElem?_eq_some_iff.1 hj).1;rwa [cellsB_len] at this
  rw [cellsB_get hjl] at hj
  rw [Addr.add_mid,hxx j hjl,hj]
 ·intro v' w' h1 h2 _
  rw [e0,←List.length_append] at h1
  exact h v' w' h1 h2
theorem bxPut {W:World} {B D:Nat} {t:TypeId} {v:Value} {l:List Deferred} (h:Boxed W B t v) (hK:W.heap[D]? = some (.deferred (some l))):Boxed (W.putObj D (.deferred none)) B t v:=
 h.kept (grownBy_putObj' W D _) (fun e=>by injection e with e;subst e;rw [show W.heap[B]? = _ from h] at hK;cases hK)
set_option maxRecDepth 100000 in
theorem ap_leave {tmps:Array Value} {W2:World} {D:Nat} {v e:Value} {b1 b2:Nat} {R:Ending→World→Prop} (h4:tmps.getD 4 undef=.pointer (some ⟨b1,0,none⟩)) (h5:tmps.getD 5 undef=.pointer (some ⟨b2,0,none⟩))
  (B1:Boxed W2 b1 25 v) (B2:Boxed W2 b2 27 e) (hK:W2.heap[D]? = some (.deferred (some []))) (hR:R (.returned (.tuple #[v,e])) (W2.putObj D (.deferred none))) :
  bodyPostM Fence.wide 4 Tryz.prog Tryz.f82 R .ret { tmps:=tmps,defers:=[{ target:=.collected D,args:=#[] }] } W2:=by
 refine ⟨by simp,.inl ⟨_,_,rfl,run_takeDeferred hK,_,?_,hR⟩⟩
 have c1:=(bxPut B1 hK).cell
 have c2:=(bxPut B2 hK).cell
 generalize W2.putObj D (.deferred none)=W3 at *
 simp only [Array.getD_eq_getD_getElem?] at h4 h5
 simp [results,Tryz.results82,go_sem,h4,h5,c1,c2]
set_option maxRecDepth 100000 in
set_option maxHeartbeats 4000000 in
theorem dapply_any (Ab A:Option Addr) (nb cb n c:Nat) (base d:List Nat) (ea:Nat→Addr) (w:World) (hB:Rd w (.slice Ab nb cb) base) (hD:Rd w (.slice A n c) d) (hb:Sha.Byte d) (hS:ASents w ea) (h4:4≤d.length) (hst:Dl.two d 0=base.length) (hlg:Dl.two d 2≤300) :
  Calls Tryz.prog 82 #[.slice Ab nb cb,.slice A n c] w (ApplyPost (Dl.runE base d (Dl.two d 2) (Dl.evs d 4) []) ea w):=by
 refine (callsIn_wide (n:=4)).1 ?_
 obtain ⟨Ab',cb',hv,hcb,hAb⟩:=hB
 injection hv with e1 e2 e3
 subst e1 e3
 obtain rfl:=e2
 have SZ:∀ w',Below w.heap.size w w'→Calls Tryz.prog 95 #[.slice A n c] w' fun e w''=>e=.returned (.tuple #[.int .i64 ((base.length:Nat):Int),.int .i64 (Dl.two d 2:Nat),.nilIface])∧∃ m,w''=w'.drewN m:=fun w' hw=>hst▸sizes_any A n c d w' (hD.below hw (Nat.le_refl _)) hb h4
 obtain ⟨hnd,hcd,b,o,rfl,hbw,hcl⟩:=hD.blk (by omega)
 subst hnd
 have hDI:DIn w d b o c (ea 1) (ea 3):=⟨hcd,hb,hbw,hcl,(hS 1 (by omega)).var,(hS 3 (by omega)).var⟩
 have ST:=fun w'=>steps_any (.slice (some ⟨b,o,none⟩) d.length c) w' ⟨_,_,_,rfl⟩
 obtain ⟨to,hto⟩:∃ to,to=Dl.two d 2:=⟨_,rfl⟩
 rw [←hto] at SZ hlg
 rw [←hto]
 have HTO:=Lib.hid hto
 have b1:decide ((300:Int) < to)=false:=by simp;omega
 obtain ⟨nb,hnb⟩:∃ nb,nb=base.length:=⟨_,rfl⟩
 rw [←hnb] at SZ ⊢
 have HNB:=Lib.hid hnb
 have HLG:=Lib.hid hlg
 clear hto hlg hnb
 refine callsIn_of_wp_marks Tryz.func82 rfl trivial ?_ rfl
 simp only [Tryz.ntmps82,List.size_toArray,List.length_cons,List.length_nil,Nat.reduceAdd,Nat.reduceSub,Array.replicate_succ,Array.replicate_zero,List.push_toArray,List.append_toArray,List.nil_append,List.cons_append]
 gi_wp2_with (first | (refine ⟨trivial,?_⟩;gi_at_call 95;refine (callsIn_wide.2 (SZ _ ?_)).mono ?_;exact ((((Below.refl _ w).alloc (Nat.le_refl _) _).alloc (by simp) _).alloc (by simp;omega) _);rintro e w' ⟨rfl,m,rfl⟩) | (refine ⟨trivial,?_⟩;gi_at_call 96;refine (callsIn_wide.2 (ST _)).mono ?_;rintro e w' ⟨rfl,rfl⟩))
 clear SZ ST
 obtain ⟨B,hBe⟩:∃ B,B=w.heap.size:=⟨_,rfl⟩
 have n1:(Boxed (w.alloc (.cells #[.slice Ab nb cb] 25)) w.heap.size 25 (.slice Ab nb cb)):=Boxed.new _ _ _
 have n2:=(Boxed.new (w.alloc (.cells #[.slice Ab nb cb] 25)) 25 (.slice none 0 0))
 have n3:=(Boxed.new ((w.alloc (.cells #[.slice Ab nb cb] 25)).alloc (.cells #[.slice none 0 0] 25)) 27 .nilIface)
 have hBel:=below_drewN ((((Below.refl _ w).alloc (Nat.le_refl _) (.cells #[.slice Ab nb cb] 25)).alloc (by simp) (.cells #[.slice none 0 0] 25)).alloc (by simp;omega) (.cells #[.nilIface] 27)) m
 have n1':Boxed ((((w.alloc (.cells #[.slice Ab nb cb] 25)).alloc (.cells #[.slice none 0 0] 25)).alloc (.cells #[.nilIface] 27)).drewN m) w.heap.size 25 (.slice Ab nb cb):=(n1.alloc _).alloc _
 have n2':Boxed ((((w.alloc (.cells #[.slice Ab nb cb] 25)).alloc (.cells #[.slice none 0 0] 25)).alloc (.cells #[.nilIface] 27)).drewN m) (w.heap.size+1) 25 (.slice none 0 0):=by
  have h:=n2.alloc (.cells #[.nilIface] 27)
  simp only [World.size_alloc] at h
  exact h
 have n3':Boxed ((((w.alloc (.cells #[.slice Ab nb cb] 25)).alloc (.cells #[.slice none 0 0] 25)).alloc (.cells #[.nilIface] 27)).drewN m) (w.heap.size+2) 27 .nilIface:=by
  simp only [World.size_alloc] at n3
  exact n3
 have hz3:((((w.alloc (.cells #[.slice Ab nb cb] 25)).alloc (.cells #[.slice none 0 0] 25)).alloc (.cells #[.nilIface] 27)).drewN m).heap.size=w.heap.size+3:=by simp
 clear n1 n2 n3
 generalize ((((w.alloc (.cells #[.slice Ab nb cb] 25)).alloc (.cells #[.slice none 0 0] 25)).alloc (.cells #[.nilIface] 27)).drewN m)=w3 at *
 have n4:=Boxed.new w3 3 (.int .i64 (to:Int))
 have n5:=Boxed.new (w3.alloc (.cells #[.int .i64 (to:Int)] 3)) 25 (.slice none 0 0)
 have n6:=Boxed.new ((w3.alloc (.cells #[.int .i64 (to:Int)] 3)).alloc (.cells #[.slice none 0 0] 25)) 25 (.slice (some ⟨b,o,none⟩) d.length c)
 simp only [World.size_alloc,hz3] at n4 n5 n6
 have hBel2:=((hBel.alloc (by omega) (.cells #[.int .i64 (to:Int)] 3)).alloc (by simp;omega) (.cells #[.slice none 0 0] 25)).alloc (by simp;omega) (.cells #[.slice (some ⟨b,o,none⟩) d.length c] 25)
 have n1'':=((n1'.alloc (.cells #[.int .i64 (to:Int)] 3)).alloc (.cells #[.slice none 0 0] 25)).alloc (.cells #[.slice (some ⟨b,o,none⟩) d.length c] 25)
 have n2'':=((n2'.alloc (.cells #[.int .i64 (to:Int)] 3)).alloc (.cells #[.slice none 0 0] 25)).alloc (.cells #[.slice (some ⟨b,o,none⟩) d.length c] 25)
 have n3'':=((n3'.alloc (.cells #[.int .i64 (to:Int)] 3)).alloc (.cells #[.slice none 0 0] 25)).alloc (.cells #[.slice (some ⟨b,o,none⟩) d.length c] 25)
 have n4'':=(n4.alloc (.cells #[.slice none 0 0] 25)).alloc (.cells #[.slice (some ⟨b,o,none⟩) d.length c] 25)
 have n5'':=n5.alloc (.cells #[.slice (some ⟨b,o,none⟩) d.length c] 25)
 have hz6:(((w3.alloc (.cells #[.int .i64 (to:Int)] 3)).alloc (.cells #[.slice none 0 0] 25)).alloc (.cells #[.slice (some ⟨b,o,none⟩) d.length c] 25)).heap.size=w.heap.size+6:=by simp [hz3]
 clear n1' n2' n3' n4 n5 hBel hz3
 generalize (((w3.alloc (.cells #[.int .i64 (to:Int)] 3)).alloc (.cells #[.slice none 0 0] 25)).alloc (.cells #[.slice (some ⟨b,o,none⟩) d.length c] 25))=W0 at *
 have hB6:w.heap.size≤W0.heap.size:=by omega
 have hBW0:∀ W',Below w.heap.size w W'→∀ k,(k=0∨k=1∨k=2∨k=3∨k=12∨k=18)→W'.cell? ⟨sgs.getD k 0,0,none⟩=some (ev (ea k))∧sgs.getD k 0 < w.heap.size:=fun W' h k hk=>⟨((hS k hk).below h (Nat.le_refl _)).var,(hS k hk).lt⟩
 have hOI:=ApI.own base d to w.heap.size W0.heap.size (.slice Ab nb cb) w (Nat.le_refl _) hB6
 refine wpIn_rangeFunc_ownH rfl (by omega) (gf:=111) (lb:=#[.pointer (some ⟨w.heap.size+1+1+1+1+1,0,none⟩)]) rfl trivial (enters_of Tryz.func111 (by kernel_rfl) rfl)
  (steps_stops 3 (by omega) (w.heap.size+1+1+1+1+1) w.heap.size d b o c (ea 1) (ea 3) W0 ⟨hbw,block_lt_of_cell hDI.short,block_lt_of_cell hDI.form⟩ hB6 h4 n6.cell (hDI.below hBel2 (Nat.le_refl _))) belowK_t (belowK_b hB6) (Below.refl _ _) (fun _=>rfl)
  (ApI base d to w.heap.size (.slice Ab nb cb) w) (ApX base d to w.heap.size ea w)
  (ApI.own base d to _ _ _ w (Nat.le_refl _) hB6) (fun k=>ApX.own base d to _ _ ea w k (Nat.le_refl _) hB6)
  ⟨⟨⟨_,n5'',World.ownsRow_nil _ _ _ _,Dl.Goes.nil _ _ _,Nat.zero_le _⟩,n1'',n2'',n3'',n4''⟩,hBel2⟩
  (fun x a' W=>∃ Bx,w.heap.size+4 < Bx∧Blk W Bx 111 (stepC b o c (Dl.norm d x))∧a'={ tmps:=#[.slice Ab nb cb,.slice (some ⟨b,o,none⟩) d.length c,.pointer (some ⟨w.heap.size,0,none⟩),undef,.pointer (some ⟨w.heap.size+1,0,none⟩),.pointer (some ⟨w.heap.size+1+1,0,none⟩),.int .i64 (nb:Int),.pointer (some ⟨w.heap.size+1+1+1,0,none⟩),.nilIface,.pointer (some ⟨w.heap.size+1+1+1+1,0,none⟩),.pointer (some ⟨Bx,0,none⟩),errV (ea 1) (ea 3) (Dl.norm d x),.tuple #[.int .i64 (nb:Int),.int .i64 (to:Int),.nilIface],.slice (some ⟨b,o,none⟩) d.length c,.tuple #[.int .i64 (nb:Int),.int .i64 (to:Int),.nilIface],.int .i64 (nb:Int),.int .i64 (to:Int),.nilIface,.bool false,.nilIface,.bool false,undef,.bool false,.int .i64 (nb:Int),.slice Ab nb cb,.int .i64 (nb:Int),.bool false,undef,.bool false,.int .i64 (to:Int),.bool false,undef,.slice (some ⟨b,o,none⟩) d.length c,.func (.func 111) #[] #[.pointer (some ⟨w.heap.size+1+1+1+1+1,0,none⟩)],stepV b o c (Dl.norm d x),errV (ea 1) (ea 3) (Dl.norm d x),undef,undef,undef,undef,undef,undef,undef,undef,undef,undef,undef,undef,undef,undef,undef,undef,undef,undef,undef,undef,undef,undef,undef,undef,undef,undef,undef,undef,undef,undef,undef,undef,undef,undef,undef,undef,undef,undef,undef,undef,undef,undef,undef,undef,undef,undef,undef,undef,undef,undef,undef,undef,undef],defers:=[] })
  (fun x a' _ X Y row hs hg hr=>by obtain ⟨Bx,h1,h2,h3⟩:=hs;exact ⟨Bx,h1,h2.keptFrom hg (fun r e=>(hr r e).2),h3⟩)
  ?assign ?body ?done ?stop
 case assign=>
  intro l pre x W K hi hK
  have hsW:=hi.2.size
  have hlt:=hi.1.1.choose_spec.1.lt
  generalize Dl.norm d x=y at hK ⊢
  cases y with
  | bad s=>
   cases s
   all_goals
    simp only [stepV,errV] at hK ⊢
    gi_wp2
    exact hK _ _ ((KeepsOthers.alloc _ _).from _) ((Below.refl _ W).alloc hsW _) (hOI pre W _ none hi (World.grownBy_alloc W _ none) (fun r e=>by cases e)) ⟨W.heap.size,hlt,Blk.new _ _ _,rfl⟩
  | copy m f=>
   simp only [stepV,errV] at hK ⊢
   gi_wp2
   exact hK _ _ ((KeepsOthers.alloc _ _).from _) ((Below.refl _ W).alloc hsW _) (hOI pre W _ none hi (World.grownBy_alloc W _ none) (fun r e=>by cases e)) ⟨W.heap.size,hlt,Blk.new _ _ _,rfl⟩
  | fresh m q=>
   simp only [stepV,errV] at hK ⊢
   gi_wp2
   exact hK _ _ ((KeepsOthers.alloc _ _).from _) ((Below.refl _ W).alloc hsW _) (hOI pre W _ none hi (World.grownBy_alloc W _ none) (fun r e=>by cases e)) ⟨W.heap.size,hlt,Blk.new _ _ _,rfl⟩
 case body=>
  rintro l pre x a' W hl ⟨r,hr⟩ hI ⟨Bx,hBx,bX,rfl⟩ hlt
  obtain ⟨⟨⟨v,bT,hown,hGo,hle⟩,bB,bR1,bR2,bTo⟩,hBW⟩:=hI
  have cT:=bT.cell
  have cB:=bB.cell
  have cTo:=bTo.cell
  have cR1:=bR1.cell
  have cR2:=bR2.cell
  have fR1:=bR1.frozen
  have fR2:=bR2.frozen
  have hok:=Dl.ok_norm d x
  obtain ⟨y,hy⟩:∃ y,y=Dl.norm d x:=⟨_,rfl⟩
  have HY:=Lib.hid hy
  have HI2:Hid (ApI base d to w.heap.size (.slice Ab nb cb) w pre W):=Lib.hid ⟨⟨⟨v,bT,hown,hGo,hle⟩,bB,bR1,bR2,bTo⟩,hBW⟩
  have HGO:=Lib.hid hGo
  have HLE:=Lib.hid hle
  have HBW:=Lib.hid hBW
  have HB1:=Lib.hid bR1
  have HB2:=Lib.hid bR2
  obtain ⟨Av,cv,rfl⟩:=Pad.len (⟨hown,hBW⟩:Pad w.heap.size w v (Dl.outs base d (pre.map (Dl.norm d))) W)
  obtain ⟨lo,hlo⟩:∃ lo,lo=(Dl.outs base d (pre.map (Dl.norm d))).length:=⟨_,rfl⟩
  have HLO:=Lib.hid hlo
  have hlo3:lo≤300:=by have:=HLG.out;rw [hlo];omega
  rw [←hlo] at cT
  have HBT:Hid (Boxed W (w.heap.size+4) 25 (.slice Av lo cv)):=Lib.hid (by rw [hlo];exact bT)
  have HOWN:Hid (W.ownsRow w.heap.size 5 1 (.slice Av lo cv) (Dl.outs base d (pre.map (Dl.norm d))).length (cellsB (Dl.outs base d (pre.map (Dl.norm d))))):=Lib.hid (by rw [hlo];exact hown)
  rw [←hy] at hok bX ⊢
  clear hy hown bT hGo hle hBW bR1 bR2 bTo bB hlo
  cases y with
  | bad s=>
   cases s
   all_goals
    simp only [stepV,errV]
    gi_wp2
    refine ap_stop (Below.refl _ _) HBW.out HB1.out HB2.out (by rw [←HY.out];exact HGO.out.stop fun rest=>rfl) (Nat.le_refl _)
  | copy m f=>
   obtain ⟨m0,m1,f1⟩:=hok
   have x0:W.cell? ⟨Bx,0,none⟩=some (.int .i64 (m:Int)):=bX.cell 0
   have x1:W.cell? ⟨Bx,1,none⟩=some (.slice none 0 0):=bX.cell 1
   have x2:W.cell? ⟨Bx,2,none⟩=some (.int .i64 (f:Int)):=bX.cell 2
   have qT:∀ (w:World) (a:Option Addr) (n c n' c':Nat),(binOp .eql 25 (.slice a n c) (.slice none n' c')).run Tryz.prog w=.ok (.bool a.isNone) w:=fun w a n c n' c'=>Lib.run_eql_slice_nil w _ _ a n c n' c' Tryz.underlying25
   have hm:Tryz.prog.follows .mixedOrders=true:=by kernel_rfl
   simp only [stepV,errV]
   by_cases hr:nb < f+m
   ·have g1:decide ((nb:Int) < (f:Int)+(m:Int))=true:=by simp;omega
    have cE:W.cell? ⟨2,0,none⟩=some (ev (ea 0)):=(hBW0 W HBW.out 0 (by omega)).1
    have lE:2 < w.heap.size:=(hBW0 W HBW.out 0 (by omega)).2
    gi_wp2
    gi_region_with_o (fail)
    all_goals gi_wp2
    all_goals exact ap_stop (W1:=W.drew) (below_drewN (Below.refl _ W) 1) HBW.out HB1.out HB2.out (by rw [←HY.out];exact HGO.out.stop fun rest=>by simp only [Dl.runE];rw [if_pos (by rw [←HNB.out];omega)]) (Nat.le_refl _)
   ·have g1:decide ((nb:Int) < (f:Int)+(m:Int))=false:=by simp;omega
    have g1':¬(nb:Int) < (f:Int)+(m:Int):=by omega
    by_cases hl2:to < lo+m
    ·have g2:decide ((to:Int) < (lo:Int)+(m:Int))=true:=by simp;omega
     have cE:W.cell? ⟨4,0,none⟩=some (ev (ea 2)):=(hBW0 W HBW.out 2 (by omega)).1
     have lE:4 < w.heap.size:=(hBW0 W HBW.out 2 (by omega)).2
     gi_wp2
     gi_region_with_o (fail)
     all_goals gi_wp2
     all_goals exact ap_stop (W1:=W.drew) (below_drewN (Below.refl _ W) 1) HBW.out HB1.out HB2.out (by rw [←HY.out];exact HGO.out.stop fun rest=>by simp only [Dl.runE];rw [if_neg (by rw [←HNB.out];omega),if_pos (by rw [←HLO.out];omega)]) (Nat.le_refl _)
    ·have g2:decide ((to:Int) < (lo:Int)+(m:Int))=false:=by simp;omega
     have hbl:0 < base.length:=by rw [←HNB.out];omega
     obtain ⟨bb,ob,rfl,hbb,hbc⟩:=hAb hbl
     have HLL:=Lib.hid (show ((base.drop f).take m).length=m by rw [List.length_take,List.length_drop,←HNB.out];omega)
     have HRB:Hid (Rd W (.slice (some ⟨bb,ob+f,none⟩) m (cb - f)) ((base.drop f).take m)):=Lib.hid (by
      have hl1:((base.drop f).take m).length=m:=by rw [List.length_take,List.length_drop,←HNB.out];omega
      refine ⟨_,cb - f,by rw [hl1],by rw [hl1];have:=HNB.out;omega,fun _=>⟨bb,ob+f,rfl,Nat.lt_of_lt_of_le hbb HBW.out.size,fun i hi=>?_⟩⟩
      rw [hl1] at hi
      rw [Sha.getD_take hi,Sha.getD_drop,Nat.add_assoc]
      exact (HBW.out.cell (p:=⟨bb,ob+(f+i),none⟩) hbb).trans (hbc (f+i) (by rw [←HNB.out];omega)))
     have S1:∀ w',(Instr.slice 25 (.slice (some ⟨bb,ob,none⟩) nb cb) (some (.int .i64 (f:Int))) (some (.int .i64 ((f:Int)+(m:Int)))) none).run Tryz.prog w'=.ok (.slice (some ⟨bb,ob+f,none⟩) m (cb - f)) w':=fun w'=>by
      have h:=sl_lohi bb ob nb cb f (f+m) w' (by omega) (by rw [HNB.out] at g1';have:=HNB.out;omega) (by have:=HNB.out;omega) (lo:=(f:Int)) (hi:=(f:Int)+(m:Int)) rfl (by omega)
      rwa [show f+m - f=m by omega] at h
     have HZZ:=Lib.hid (show (Dl.outs base d (pre.map (Dl.norm d))).length+((base.drop f).take m).length≤70368744177664 by rw [←HLO.out,HLL.out];omega)
     have HNLE:=Lib.hid (show ¬base.length < f+m by rw [←HNB.out];exact hr)
     clear hAb hbc
     gi_wp2
     have w1:IntKind.i64.wrap ((f:Int)+(m:Int))=(f:Int)+(m:Int):=IntWalk.i64_in _ (by omega)
     have w2:wrap64 ((f:Int)+(m:Int))=(f:Int)+(m:Int):=by rw [IntWalk.wrap64_in _ (by omega)]
     refine regionIn_still 10 hm (by kernel_rfl) (by intro o ho c;simp at ho;rcases ho with rfl | rfl | rfl | rfl | rfl | rfl | rfl | rfl | rfl | rfl | rfl | rfl<;>simp) (by rintro ⟨a,w,h⟩;exact h) ?_
     change wpStill _ _ W.drew (fun a'=>wpList _ _ _ _ a' W.drew) _ _
     dsimp only [List.take,List.drop]
     repeat still_step
     refine wpStill_nil ?_
     change wpList _ _ _ _ _ W.drew
     refine wpList_appendB (by rfl) (.tmp 72) (.tmp 81) (by rfl) w.heap.size _ _ (by rfl) HOWN.out (Nat.le_trans (Nat.le_refl _) HBW.out.size) _ (by rfl) ((base.drop f).take m) HRB.out HZZ.out ?_
     intro v' w4 ho4 hg4
     clear w1 w2
     obtain ⟨ys,hys⟩:∃ ys,ys=Dl.outs base d (pre.map (Dl.norm d))++(base.drop f).take m:=⟨_,rfl⟩
     have HYL:=Lib.hid (show ys.length=lo+m by rw [hys,List.length_append,HLO.out,HLL.out])
     rw [←hys] at ho4
     have HYS:=Lib.hid hys
     clear hys
     obtain ⟨g4,c4,rfl⟩:=ownsRow_some ho4 (by rw [HYL.out];exact Nat.lt_of_lt_of_le m0 (Nat.le_add_left _ _))
     have HO4:=Lib.hid ho4
     have HG4:=Lib.hid hg4
     have hb4:Boxed w4 (w.heap.size+4) 25 (.slice Av lo cv):=Boxed.kept (bxStands HBT.out (below_drewN (Below.refl _ W) 1)) hg4 (Boxed.not_row (bxStands HBT.out (below_drewN (Below.refl _ W) 1)) (by decide) (show W.drew.ownsRow _ _ _ _ _ _ from HOWN.out))
     have c4':=hb4.cell
     have f4':=hb4.frozen
     clear ho4 hg4 hb4
     go_wp2
     exact ap_go (W1:=W.drew) (ys:=ys) (below_drewN (Below.refl _ W) 1) HI2.out (Nat.le_refl _) HBT.out HOWN.out (by rw [←HY.out];exact HYS.out) (by rw [←HY.out];exact HGO.out.step fun rest=>by simp only [Dl.runE];rw [if_neg HNLE.out,if_neg (by rw [←HLO.out];exact hl2)];rfl) (by rw [HYL.out];exact Nat.le_of_not_lt hl2) HO4.out HG4.out
  | fresh m q=>
   obtain ⟨m0,m1,q1⟩:=hok
   have x0:W.cell? ⟨Bx,0,none⟩=some (.int .i64 (m:Int)):=bX.cell 0
   have x1:W.cell? ⟨Bx,1,none⟩=some (.slice (some ⟨b,o+q,none⟩) m (c - q)):=bX.cell 1
   have x2:W.cell? ⟨Bx,2,none⟩=some (.int .i64 0):=bX.cell 2
   have qT:∀ (w:World) (a:Option Addr) (n c n' c':Nat),(binOp .eql 25 (.slice a n c) (.slice none n' c')).run Tryz.prog w=.ok (.bool a.isNone) w:=fun w a n c n' c'=>Lib.run_eql_slice_nil w _ _ a n c n' c' Tryz.underlying25
   have hm:Tryz.prog.follows .mixedOrders=true:=by kernel_rfl
   simp only [stepV,errV]
   by_cases hl2:to < lo+m
   ·have g2:decide ((to:Int) < (lo:Int)+(m:Int))=true:=by simp;omega
    have cE:W.cell? ⟨4,0,none⟩=some (ev (ea 2)):=(hBW0 W HBW.out 2 (by omega)).1
    have lE:4 < w.heap.size:=(hBW0 W HBW.out 2 (by omega)).2
    gi_wp2
    gi_region_with_o (fail)
    all_goals gi_wp2
    all_goals exact ap_stop (W1:=W.drew) (below_drewN (Below.refl _ W) 1) HBW.out HB1.out HB2.out (by rw [←HY.out];exact HGO.out.stop fun rest=>by simp only [Dl.runE];rw [if_pos (by rw [←HLO.out];omega)]) (Nat.le_refl _)
   ·have g2:decide ((to:Int) < (lo:Int)+(m:Int))=false:=by simp;omega
    have hl1:((d.drop q).take m).length=m:=by rw [List.length_take,List.length_drop];omega
    have HLL:=Lib.hid hl1
    have HRB:Hid (Rd W (.slice (some ⟨b,o+q,none⟩) m (c - q)) ((d.drop q).take m)):=Lib.hid (by
     refine ⟨_,c - q,by rw [hl1],by rw [hl1];omega,fun _=>⟨b,o+q,rfl,Nat.lt_of_lt_of_le hbw HBW.out.size,fun i hi=>?_⟩⟩
     rw [hl1] at hi
     rw [Sha.getD_take hi,Sha.getD_drop,Nat.add_assoc]
     exact (HBW.out.cell (p:=⟨b,o+(q+i),none⟩) hbw).trans (hcl (q+i) (by omega)))
    have HZZ:=Lib.hid (show (Dl.outs base d (pre.map (Dl.norm d))).length+((d.drop q).take m).length≤70368744177664 by rw [←HLO.out,hl1];omega)
    clear hl1
    gi_wp2_with (gi_at_builtin;refine listIn_round (by rfl) (by intro c;simp) (Dl.appendB (.tmp 36) (.tmp 38) (by rfl) w.heap.size _ _ (by rfl) HOWN.out (Nat.le_trans (Nat.le_refl _) HBW.out.size) _ (by rfl) ((d.drop q).take m) HRB.out (by rw [HLL.out];exact m0) HZZ.out ?_);intro v' w4 ho4 hg4;obtain ⟨ys,hys⟩:∃ ys,ys=Dl.outs base d (pre.map (Dl.norm d))++(d.drop q).take m:=⟨_,rfl⟩;have HYL:=Lib.hid (show ys.length=lo+m by rw [hys,List.length_append,HLO.out,HLL.out]);rw [←hys] at ho4;have HYS:=Lib.hid hys;clear hys;obtain ⟨g4,c4,rfl⟩:=ownsRow_some ho4 (by rw [HYL.out];exact Nat.lt_of_lt_of_le m0 (Nat.le_add_left _ _));have HO4:=Lib.hid ho4;have HG4:=Lib.hid hg4;have hb4:Boxed w4 (w.heap.size+4) 25 (.slice Av lo cv):=Boxed.kept HBT.out hg4 (Boxed.not_row HBT.out (by decide) HOWN.out);have c4':=hb4.cell;have f4':=hb4.frozen;clear ho4 hg4 hb4)
    exact ap_go (W1:=W) (ys:=ys) (Below.refl _ W) HI2.out (Nat.le_refl _) HBT.out HOWN.out (by rw [←HY.out];exact HYS.out) (by rw [←HY.out];exact HGO.out.step fun rest=>by simp only [Dl.runE];rw [if_neg (by rw [←HLO.out];exact hl2)];rfl) (by rw [HYL.out];exact Nat.le_of_not_lt hl2) HO4.out HG4.out
 case done=>
  rintro D ys W hD rfl ⟨⟨⟨v,bT,hown,hGo,hle⟩,bB,bR1,bR2,bTo⟩,hBW⟩ hK
  rw [Dl.evs_norm hb] at hown hGo hle
  have cT:=bT.cell
  have cTo:=bTo.cell
  have cR1:=bR1.cell
  have cR2:=bR2.cell
  have fR1:=bR1.frozen
  have fR2:=bR2.frozen
  obtain ⟨Av,cv,rfl⟩:=Pad.len (⟨hown,hBW⟩:Pad w.heap.size w v (Dl.outs base d (Dl.evs d 4)) W)
  have HOWN:=Lib.hid hown
  have HGO:=Lib.hid (hGo [])
  obtain ⟨lo,hlo⟩:∃ lo,lo=(Dl.outs base d (Dl.evs d 4)).length:=⟨_,rfl⟩
  rw [←hlo] at cT
  have HLO:=Lib.hid hlo
  have hlo3:lo≤300:=by have:=HLG.out;rw [hlo];omega
  clear hlo hown hGo hle
  have hm:Tryz.prog.follows .mixedOrders=true:=by kernel_rfl
  by_cases hs:lo < to
  ·have g1:decide ((lo:Int) < (to:Int))=true:=by simp;omega
   have g2:(lo:Int) < (to:Int):=by omega
   have cE:W.cell? ⟨3,0,none⟩=some (ev (ea 1)):=(hBW0 W hBW 1 (by omega)).1
   have lE:3 < w.heap.size:=(hBW0 W hBW 1 (by omega)).2
   have HE:=Lib.hid (show Dl.runE base d to (Dl.evs d 4) []=.err 1 by have h:=HGO.out;rw [List.append_nil] at h;rw [h];unfold Dl.runE;rw [if_pos (by rw [←HLO.out];exact hs)])
   gi_wp2
   gi_region_with_o (fail)
   all_goals gi_wp2
   all_goals
    rw [HE.out]
    have hk2:=(KeepsOthers.trans (KeepsOthers.setCell W ⟨w.heap.size+1,0,none⟩ (.slice none 0 0)) (KeepsOthers.setCell _ ⟨w.heap.size+1+1,0,none⟩ (ev (ea 1)))).same D _ hK rfl
    refine ap_leave (v:=.slice none 0 0) (e:=ev (ea 1)) (b1:=w.heap.size+1) (b2:=w.heap.size+1+1) (by rfl) (by rfl) (bxPast (Boxed.set _ bR1) (by omega) _) (Boxed.set _ (bxPast bR2 (by omega) _)) hk2 ⟨rfl,?_⟩
    refine Below.trans (below_drewN ((hBW.setCell (p:=⟨w.heap.size+1,0,none⟩) (Nat.le_add_right _ _) (.slice none 0 0)).setCell (p:=⟨w.heap.size+1+1,0,none⟩) (by show w.heap.size≤w.heap.size+1+1;omega) (ev (ea 1))) 1) ?_
    exact belowK_b (w:=w) (Nat.le_refl _) _ D _ _ (by omega) hk2 rfl rfl
  ·have g1:decide ((lo:Int) < (to:Int))=false:=by simp;omega
   have g2:¬(lo:Int) < (to:Int):=by omega
   have HE:=Lib.hid (show Dl.runE base d to (Dl.evs d 4) []=.ok (Dl.outs base d (Dl.evs d 4)) by have h:=HGO.out;rw [List.append_nil] at h;rw [h];unfold Dl.runE;rw [if_neg (by rw [←HLO.out];exact hs)])
   gi_wp2
   rw [HE.out]
   have hk2:=(KeepsOthers.trans (KeepsOthers.setCell W ⟨w.heap.size+1,0,none⟩ (.slice Av lo cv)) (KeepsOthers.setCell _ ⟨w.heap.size+1+1,0,none⟩ .nilIface)).same D _ hK rfl
   have hb2:=(hBW.setCell (p:=⟨w.heap.size+1,0,none⟩) (Nat.le_add_right _ _) (.slice Av lo cv)).setCell (p:=⟨w.heap.size+1+1,0,none⟩) (by show w.heap.size≤w.heap.size+1+1;omega) .nilIface
   have ho2:W.ownsRow w.heap.size 5 1 (.slice Av lo cv) (Dl.outs base d (Dl.evs d 4)).length (cellsB (Dl.outs base d (Dl.evs d 4))):=by rw [HLO.out];exact HOWN.out
   have ho3:=ho2.kept (grownBy_setCell' W (w.heap.size+1) (.slice Av lo cv)) (.inr (Boxed.not_row bR1 (by decide) ho2).symm)
   have ho4:=ho3.kept (grownBy_setCell' _ (w.heap.size+1+1) .nilIface) (.inr (Boxed.not_row (bxPast bR2 (by omega) (.slice Av lo cv)) (by decide) ho3).symm)
   exact ap_leave (v:=.slice Av lo cv) (e:=.nilIface) (b1:=w.heap.size+1) (b2:=w.heap.size+1+1) (by rfl) (by rfl) (bxPast (Boxed.set _ bR1) (by omega) _) (Boxed.set _ (bxPast bR2 (by omega) _)) hk2 ⟨_,rfl,ownsRow_putObj ho4 _ hk2 rfl,hb2.trans (belowK_b (w:=w) (Nat.le_refl _) _ D _ _ (by omega) hk2 rfl rfl)⟩
 case stop=>
  rintro D k pre W hD hpre ⟨⟨rfl,kk,hE,bR1,bR2⟩,hBW⟩ hK
  have HE:=Lib.hid (show Dl.runE base d to (Dl.evs d 4) []=.err kk by
   obtain ⟨rest,hr⟩:=hpre
   have h:=hE (rest.map (Dl.norm d))
   rwa [←List.map_append,hr,Dl.evs_norm hb] at h)
  gi_wp2
  rw [HE.out]
  exact ap_leave (v:=.slice none 0 0) (e:=ev (ea kk)) (b1:=w.heap.size+1) (b2:=w.heap.size+1+1) (by rfl) (by rfl) bR1 bR2 hK ⟨rfl,hBW.trans (belowK_b (w:=w) (Nat.le_refl _) W D _ _ (by omega) hK rfl rfl)⟩
end Go.Proofs.YtndgadjeeinedaaGreatDoor
