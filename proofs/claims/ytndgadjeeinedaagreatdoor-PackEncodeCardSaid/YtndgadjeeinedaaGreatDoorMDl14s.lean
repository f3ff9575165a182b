/- delta.putFresh: fresh bytes as steps of at most 127. -/
import Derived.Test.YtndgadjeeinedaaGreatDoorMDl12s
namespace Go.Proofs.YtndgadjeeinedaaGreatDoor
open Go Go.RowKit Go.Shelf
attribute [local go_sem] Oper.semAt_some
def Dl.frs (text:List Nat) (l:List (Nat×Nat)):List Nat:=l.flatMap fun x=>x.2::(text.drop x.1).take x.2
def Dl.fr (text:List Nat):List Nat:=Dl.frs text (Dl.chk text.length 0)
theorem Dl.frs_snoc (text:List Nat) (l:List (Nat×Nat)) (x:Nat×Nat):Dl.frs text (l++[x])=(Dl.frs text l++[x.2])++(text.drop x.1).take x.2:=by simp [Dl.frs]
theorem Dl.frs_len (text:List Nat):∀ (l:List (Nat×Nat)),(∀ x∈l,0 < x.2∧x.2≤127∧x.1+x.2≤text.length)→(Dl.frs text l).length≤128 * l.length
 | [],_=>Nat.zero_le _
 | x::l,h=>by
  have h1:=Dl.frs_len text l (fun y hy=>h y (by simp [hy]))
  have h2:=h x (by simp)
  have h3:((text.drop x.1).take x.2).length≤127:=by rw [List.length_take];omega
  unfold Dl.frs at h1 ⊢
  simp only [List.flatMap_cons,List.length_append,List.length_cons]
  omega
theorem Dl.chk_len (n p:Nat):(Dl.chk n p).length≤n - p:=by
 unfold Dl.chk
 generalize n - p=f
 induction f generalizing p with
 | zero=>exact Nat.le_refl _
 | succ f ih=>
  rw [Dl.chF_succ]
  split
  ·have:=ih (p+127);simp only [List.length_cons];omega
  ·simp
theorem Dl.Oth.from (B0:Nat) (w:World) {β:Type} (hB:w.heap.size≤B0):OwnFrom B0 (fun (_:β) W=>Dl.Oth w W):=fun _ X Y row hs hg hr=>⟨fun p cs T z hT e=>by
 have h1:=hs.1 p cs T z hT e
 rw [hg.block p (Array.getElem?_eq_some_iff.1 h1).1 (fun er=>by obtain ⟨_,o,ho,hc⟩:=hr p er.symm;rw [h1] at ho;cases ho;cases hc)]
 exact h1,⟨Nat.le_trans hs.2.size hg.size,fun k o hk hc=>by
 have h1:=hs.2.same k o hk hc
 rw [hg.block k (Array.getElem?_eq_some_iff.1 h1).1 (fun er=>by have h2:=(hr k er.symm).1;have h3:=(Array.getElem?_eq_some_iff.1 hk).1;omega)]
 exact h1⟩⟩
theorem Dl.Oth.put {w W : World} (h : Dl.Oth w W) (D : Nat) (o o' : Obj) (hD : w.heap.size ≤ D) (hK : W.heap[D]? = some o) (hc : o.isCells = false) : Dl.Oth w (W.putObj D o') :=
  ⟨fun p cs T z hT e => by
    have h1 := h.1 p cs T z hT e
    exact (World.putObj_heap_other (fun ek => by subst ek; rw [h1] at hK; cases hK; cases hc)).trans h1,
   ⟨Nat.le_trans h.2.size (grownBy_putObj' W D o').size, fun k o2 hk hc2 => (World.putObj_heap_other (by have := (Array.getElem?_eq_some_iff.1 hk).1; omega)).trans (h.2.same k o2 hk hc2)⟩⟩
theorem KpC.put {n₀ bB bT B0:Nat} (h1:n₀≤B0) (h2:bB < B0) (h3:bT < B0) (W:World) (l:Nat) (o o':Obj) (hl:B0≤l) (ho:W.heap[l]? = some o) (hc:o.isCells=false):KpC n₀ bB bT W (W.putObj l o'):=
 ⟨⟨rfl,rfl,rfl,(grownBy_putObj' W l o').size,fun i hi=>World.putObj_heap_other (by omega)⟩,fun k hk=>World.putObj_heap_other (by omega),fun k cs z e=>(World.putObj_heap_other (fun ek=>by subst ek;rw [e] at ho;cases ho;cases hc)).trans e⟩
def Near (Bb:Nat) (W W':World):Prop:=∀ (p:Nat) (cs:Array Value) (T:TypeId) (z:Nat×Nat),T≠5→p≠Bb→W.heap[p]? = some (Obj.cells cs T z)→W'.heap[p]? = some (Obj.cells cs T z)
theorem Near.trans {Bb:Nat} {a b c:World} (h:Near Bb a b) (k:Near Bb b c):Near Bb a c:=fun p cs T z n m e=>k p cs T z n m (h p cs T z n m e)
theorem put_box {B Bb n m:Nat} {W W1 w1:World} {v v':Value} {ys ys2:List Value} (h1:Below W.heap.size W W1) (hs:B≤W.heap.size) (hBb:B≤Bb) (bV:Boxed W Bb 25 v) (hown:W.ownsRow B 5 1 v n ys)
  (hown':w1.ownsRow B 5 1 v' m ys2) (hg:W1.grownBy w1 v.ownBlock) :
  Boxed w1 Bb 25 v∧Boxed (w1.setCell ⟨Bb,0,none⟩ v') Bb 25 v'∧(w1.setCell ⟨Bb,0,none⟩ v').ownsRow B 5 1 v' m ys2∧KeepsOthers W (w1.setCell ⟨Bb,0,none⟩ v')∧Below B W (w1.setCell ⟨Bb,0,none⟩ v')∧Near Bb W (w1.setCell ⟨Bb,0,none⟩ v'):=by
 have hown1:W1.ownsRow B 5 1 v n ys:=by
  refine hown.kept (only_of_below h1 none) ?_
  rcases hown.2 with ⟨rfl,_⟩ | ⟨g,cap,cur,rfl,_⟩
  ·exact .inl rfl
  ·exact .inr (by simp [Value.ownBlock])
 have hv1:Boxed w1 Bb 25 v:=Boxed.kept (bxStands bV h1) hg (Boxed.not_row (bxStands bV h1) (by decide) hown1)
 refine ⟨hv1,hv1.set _,hown'.kept (grownBy_setCell' w1 Bb v') (.inr (hv1.not_row (by decide) hown').symm),((keepsOthers_of_below h1).trans (KeepsOthers.of_grownBy hg fun j o ej hj=>?_)).trans (KeepsOthers.setCell _ _ _),((h1.mono hs).grown hg (Nat.le_trans hs h1.size) (fun j ej=>(hown.lt j ej).1)).setCell (p:=⟨Bb,0,none⟩) hBb _,fun p cs T z hT hp e=>?_⟩
 ·rcases hown1.2 with ⟨rfl,_⟩ | ⟨g,cap,cur,rfl,_,hgb,_⟩
  ·simp [Value.ownBlock] at ej
  ·obtain rfl:g=j:=by simpa [Value.ownBlock] using ej
   rw [hgb] at hj;cases hj;rfl
 ·have e1:W1.heap[p]? = some (Obj.cells cs T z):=(h1.block p (Array.getElem?_eq_some_iff.1 e).1).trans e
  have e2:w1.heap[p]? = some (Obj.cells cs T z):=(hg.block p (Array.getElem?_eq_some_iff.1 e1).1 (fun er=>by
   rcases hown1.2 with ⟨rfl,_⟩ | ⟨g,cap,cur,rfl,_,hgb,_⟩
   ·simp [Value.ownBlock] at er
   ·obtain rfl:p=g:=by simpa [Value.ownBlock] using er
    rw [e1] at hgb;cases hgb;exact hT rfl)).trans e1
  exact (Below.heap_setCell w1 ⟨Bb,0,none⟩ v' p hp).trans e2
def FrI (text ys0:List Nat) (B Bb:Nat) (tv:Value) (wb w:World) (pre:List (Nat×Nat)) (W:World):Prop:=
 (((∃ v,Boxed W Bb 25 v∧W.ownsRow B 5 1 v (ys0++Dl.frs text pre).length (cellsB (ys0++Dl.frs text pre))∧True)∧(Boxed W (Bb+1) 25 tv∧Boxed W (Bb+1+1) 3 (.int .i64 127)))∧Below B wb W)∧Dl.Oth w W
theorem FrI.own (text ys0:List Nat) (B Bb B0:Nat) (tv:Value) (wb w:World) (h1:B≤wb.heap.size) (h2:B≤B0) (h3:w.heap.size≤B0):OwnFrom B0 (FrI text ys0 B Bb tv wb w):=
 OwnFrom.and (OwnFrom.and (OwnFrom.and (Own.from (holdsRow_own B Bb 25 5 1 (fun pre:List (Nat×Nat)=>(ys0++Dl.frs text pre).length) (fun pre:List (Nat×Nat)=>cellsB (ys0++Dl.frs text pre)) (fun _ _=>True)) B0) (OwnFrom.and (boxed_from B0 _ _ _) (boxed_from B0 _ _ _))) (ownFrom_below h1 h2)) (Dl.Oth.from B0 w h3)
set_option maxRecDepth 100000 in
set_option maxHeartbeats 2000000 in
theorem putFresh_any (v0 tv:Value) (ys0 text:List Nat) (B:Nat) (wb w:World) (hB:wb.heap.size=B) (hP:Pad B wb v0 ys0 w) (hT:Rd wb tv text) (hl:text.length≤1000) (hz:ys0.length≤549755813888) :
  Calls Tryz.prog 50 #[v0,tv] w fun e w'=>∃ v',e=.returned v'∧Pad B wb v' (ys0++Dl.fr text) w'∧Dl.Oth w w':=by
 obtain ⟨A,c,rfl,hc,hA⟩:=hT
 have CC:=fun w'=>chunk_any (.slice A text.length c) w' ⟨_,_,_,rfl⟩
 have HP:=Lib.hid hP
 obtain ⟨A0,c0,rfl⟩:=hP.len
 have HB:=Lib.hid hB
 have HA:=Lib.hid hA
 clear hP hB hA
 refine (callsIn_wide (n:=4)).1 ?_
 refine callsIn_of_wp_marks Tryz.func50 rfl trivial ?_ rfl
 simp only [Tryz.ntmps50,List.size_toArray,List.length_cons,List.length_nil,Nat.reduceAdd,Nat.reduceSub,Array.replicate_succ,Array.replicate_zero,List.push_toArray,List.append_toArray,List.nil_append,List.cons_append]
 gi_wp2_with (refine ⟨trivial,?_⟩;gi_at_call 74;refine (callsIn_wide.2 (CC _)).mono ?_;rintro e w' ⟨rfl,rfl⟩)
 have n0:=Boxed.new w 25 (.slice A0 ys0.length c0)
 have n1:=Boxed.new (w.alloc (.cells #[.slice A0 ys0.length c0] 25)) 25 (.slice A text.length c)
 have n2:=Boxed.new ((w.alloc (.cells #[.slice A0 ys0.length c0] 25)).alloc (.cells #[.slice A text.length c] 25)) 3 (.int .i64 127)
 simp only [World.size_alloc] at n1 n2
 have m0:=(n0.alloc (.cells #[.slice A text.length c] 25)).alloc (.cells #[.int .i64 127] 3)
 have m1:=n1.alloc (.cells #[.int .i64 127] 3)
 have hsz:(((w.alloc (.cells #[.slice A0 ys0.length c0] 25)).alloc (.cells #[.slice A text.length c] 25)).alloc (.cells #[.int .i64 127] 3)).heap.size=w.heap.size+3:=by simp
 have hbw:B≤w.heap.size:=by rw [←HB.out];rw [←HB.out] at HP;exact HP.out.bel.size
 have hbl:Below B wb (((w.alloc (.cells #[.slice A0 ys0.length c0] 25)).alloc (.cells #[.slice A text.length c] 25)).alloc (.cells #[.int .i64 127] 3)):=((HP.out.bel.alloc hbw _).alloc (by simp;omega) _).alloc (by simp;omega) _
 have hot:Dl.Oth w (((w.alloc (.cells #[.slice A0 ys0.length c0] 25)).alloc (.cells #[.slice A text.length c] 25)).alloc (.cells #[.int .i64 127] 3)):=(((Dl.Oth.refl w).alloc _).alloc _).alloc _
 have how:(((w.alloc (.cells #[.slice A0 ys0.length c0] 25)).alloc (.cells #[.slice A text.length c] 25)).alloc (.cells #[.int .i64 127] 3)).ownsRow B 5 1 (.slice A0 ys0.length c0) ys0.length (cellsB ys0):=ownsRow_alloc (ownsRow_alloc (ownsRow_alloc HP.out.own _) _) _
 generalize ((w.alloc (.cells #[.slice A0 ys0.length c0] 25)).alloc (.cells #[.slice A text.length c] 25)).alloc (.cells #[.int .i64 127] 3)=W0 at *
 clear n0 n1 CC
 obtain ⟨b,o,hbo⟩:∃ b o,0 < text.length→A=some ⟨b,o,none⟩∧b < wb.heap.size∧∀ i,i < text.length→wb.cell? ⟨b,o+i,none⟩=some (.int .u8 ((text.getD i 0:Nat):Int)):=by
  by_cases h0:0 < text.length
  ·obtain ⟨b,o,h1,h2,h3⟩:=HA.out h0
   exact ⟨b,o,fun _=>⟨h1,h2,h3⟩⟩
  ·exact ⟨0,0,fun h=>absurd h h0⟩
 have HBO:=Lib.hid hbo
 have HLX:=Lib.hid (show text.length≤1000∧ys0.length≤549755813888 from ⟨hl,hz⟩)
 have RUN:=chunk1_runs 3 (w.heap.size+1) (w.heap.size+1+1) B b o c text.length A W0 m1 n2 (fun h=>(HBO.out h).1) hc (by omega) (by omega)
 clear hbo
 refine range_runs (Kp:=KpC B (w.heap.size+1) (w.heap.size+1+1)) (lb:=#[.pointer (some ⟨w.heap.size+1,0,none⟩),.pointer (some ⟨w.heap.size+1+1,0,none⟩)]) rfl (enters_of Tryz.func93 (by kernel_rfl) rfl) RUN (Below.refl _ _) (fun h k=>h.trans k)
  (KpC.put (by omega) (by omega) (by omega)) (fun _=>rfl)
  (FrI text ys0 B w.heap.size (.slice A text.length c) wb w) (FrI.own _ _ _ _ _ _ _ _ (by rw [HB.out];exact Nat.le_refl _) (by omega) (by omega))
  ⟨⟨⟨⟨_,m0,by simpa [Dl.frs] using how,trivial⟩,m1,n2⟩,hbl⟩,hot⟩
  (fun x a' _=>a'={ tmps:=#[.slice A0 ys0.length c0,.slice A text.length c,.pointer (some ⟨w.heap.size,0,none⟩),undef,.slice none 0 0,.slice (some ⟨b,o+x.1,none⟩) x.2 x.2,.slice A text.length c,.func (.func 93) #[] #[.pointer (some ⟨w.heap.size+1,0,none⟩),.pointer (some ⟨w.heap.size+1+1,0,none⟩)],.slice (some ⟨b,o+x.1,none⟩) x.2 x.2,undef,undef,undef,undef,undef,undef,undef,undef,undef,undef],defers:=[] })
  (fun x a' _ X Y row hs hg hr=>hs)
  ?assign ?body ?done
 case assign=>
  intro l pre x rest W K hx hi hK
  dsimp only [chV]
  gi_wp2
  exact hK _ _ (KeepsFrom.refl _ _) (KpC.refl _ _ _ _) hi rfl
 case body=>
  rintro l pre x rest a' W hx hI rfl
  have hin:=Dl.chF_in _ _ x (show x∈Dl.chF text.length _ 0 from (show x∈Dl.chk text.length 0 by rw [hx];simp))
  obtain ⟨⟨⟨⟨v,bV,hown,_⟩,bS,bN⟩,hBW⟩,hO⟩:=hI
  obtain ⟨q,e⟩:=x
  simp only at hin ⊢
  obtain ⟨e0,e1,eq⟩:=hin
  obtain ⟨hAe,hbb,hcel⟩:=HBO.out (by omega)
  obtain ⟨Av,cv,rfl⟩:=Pad.len (⟨hown,hBW⟩:Pad B wb v (ys0++Dl.frs text pre) W)
  obtain ⟨ys,hys⟩:∃ ys,ys=ys0++Dl.frs text pre:=⟨_,rfl⟩
  have HSNOC:=Lib.hid (show ys0++Dl.frs text (pre++[(q,e)])=(ys++[e])++(text.drop q).take e by rw [Dl.frs_snoc,hys];simp)
  have HYL:Hid (ys.length≤600000000000):=Lib.hid (by
   have h:=HLX.out
   have h2:=Dl.frs_len text pre (fun x hx'=>Dl.chF_in _ _ x (show x∈Dl.chF text.length _ 0 from (show x∈Dl.chk text.length 0 by rw [hx];simp [hx'])))
   have h3:(pre++(q,e)::rest).length≤1000:=by rw [←hx];exact Nat.le_trans (Dl.chk_len _ _) (by omega)
   rw [List.length_append] at h3
   rw [hys,List.length_append]
   omega)
  rw [←hys] at hown bV
  have cV:=bV.cell
  obtain ⟨ny,hny⟩:∃ ny,ny=ys.length:=⟨_,rfl⟩
  rw [←hny] at cV
  have HBV:Hid (Boxed W w.heap.size 25 (.slice Av ny cv)):=Lib.hid (by rw [hny];exact bV)
  have HOWN:Hid (W.ownsRow B 5 1 (.slice Av ny cv) ys.length (cellsB ys)):=Lib.hid (by rw [hny];exact hown)
  have HOA:Hid ((W.alloc (.cells (u8s [e]) 5)).ownsRow B 5 1 (.slice Av ny cv) ys.length (cellsB ys)):=Lib.hid (ownsRow_alloc HOWN.out _)
  have HRM:=Lib.hid (rd_of_lit W [e] 5 (by simp))
  have hsW:B≤W.heap.size:=by have h:=hBW.size;have h2:=HB.out;omega
  have HSW:=Lib.hid hsW
  have HSA:=Lib.hid (show B≤(W.alloc (.cells (u8s [e]) 5)).heap.size by simp;omega)
  have HBEL:=Lib.hid ((Below.refl W.heap.size W).alloc (Nat.le_refl _) (.cells (u8s [e]) 5))
  have HLB:=Lib.hid hbw
  have HZ1:=Lib.hid (show ys.length+[e].length≤70368744177664 by have:=HYL.out;simp;omega)
  have HZ2:=Lib.hid (show (ys++[e]).length+((text.drop q).take e).length≤70368744177664 by have:=HYL.out;rw [List.length_append,List.length_take];simp;omega)
  have hl2:((text.drop q).take e).length=e:=by rw [List.length_take,List.length_drop];omega
  have HL2:=Lib.hid hl2
  have HR2:Hid (∀ W',Below B wb W'→Rd W' (.slice (some ⟨b,o+q,none⟩) e e) ((text.drop q).take e)):=Lib.hid fun W' h=>by
   refine ⟨_,e,by rw [hl2],by rw [hl2];exact Nat.le_refl _,fun _=>⟨b,o+q,rfl,by have:=h.size;omega,fun i hi=>?_⟩⟩
   rw [hl2] at hi
   rw [Sha.getD_take hi,Sha.getD_drop,Nat.add_assoc]
   exact (h.cell (p:=⟨b,o+(q+i),none⟩) (by show b < B;rw [←HB.out];exact hbb)).trans (hcel (q+i) (by omega))
  have HBW:=Lib.hid hBW
  have HO:=Lib.hid hO
  have HBS:=Lib.hid bS
  have HBN:=Lib.hid bN
  have e3:(e:Int) < 256:=by omega
  have e4:0 < e:=e0
  clear hown bV hny hys hx hAe hcel hl2 hBW hO bS bN RUN n2 m0 m1 hot how hbl
  gi_wp2_with (first
   | (gi_at_builtin;refine listIn_round (by rfl) (by intro c;simp) (Dl.appendB (.tmp 9) (.tmp 13) (by rfl) B _ ys (by rfl) HOA.out HSA.out _ (by rfl) [e] HRM.out (by simp) HZ1.out ?_);intro v1 w1 ho1 hg1;obtain ⟨g1,k1,rfl⟩:=ownsRow_some ho1 (by simp);have PB:=put_box HBEL.out HSW.out HLB.out HBV.out HOWN.out ho1 hg1;have c1:=PB.1.cell;have f1:=PB.1.frozen;have HPB:=Lib.hid PB;obtain ⟨ny1,hny1⟩:∃ ny1,ny1=(ys++[e]).length:=⟨_,rfl⟩;rw [←hny1] at HPB ⊢;have HN1:=Lib.hid hny1;have c2:(w1.setCell ⟨w.heap.size,0,none⟩ (.slice (some ⟨g1,0,none⟩) ny1 k1)).cell? ⟨w.heap.size,0,none⟩=_:=HPB.out.2.1.cell;have HOWN2:Hid ((w1.setCell ⟨w.heap.size,0,none⟩ (.slice (some ⟨g1,0,none⟩) ny1 k1)).ownsRow B 5 1 (.slice (some ⟨g1,0,none⟩) ny1 k1) (ys++[e]).length (cellsB (ys++[e]))):=Lib.hid (by rw [←HN1.out];exact HPB.out.2.2.1);clear PB ho1 hg1 hny1)
   | (gi_at_builtin;refine listIn_round (by rfl) (by intro c;simp) (Dl.appendB (.tmp 15) (.tmp 16) (by rfl) B _ (ys++[e]) (by rfl) HOWN2.out (Nat.le_trans HSW.out HPB.out.2.2.2.2.1.size) _ (by rfl) ((text.drop q).take e) (HR2.out _ (HBW.out.trans HPB.out.2.2.2.2.1)) (by rw [HL2.out];exact e4) HZ2.out ?_);intro v2 w2 ho2 hg2;obtain ⟨g2,k2,rfl⟩:=ownsRow_some ho2 (by simp;omega);have PB:=put_box (Below.refl _ _) (Nat.le_trans HSW.out HPB.out.2.2.2.2.1.size) HLB.out HPB.out.2.1 HOWN2.out ho2 hg2;have c3:=PB.1.cell;have f3:=PB.1.frozen;have HPB2:=Lib.hid PB;obtain ⟨ny2,hny2⟩:∃ ny2,ny2=((ys++[e])++(text.drop q).take e).length:=⟨_,rfl⟩;rw [←hny2] at HPB2 ⊢;have HN2:=Lib.hid hny2;clear PB ho2 hg2 hny2))
  have near:=HPB.out.2.2.2.2.2.trans HPB2.out.2.2.2.2.2
  have bel:=HPB.out.2.2.2.2.1.trans HPB2.out.2.2.2.2.1
  have bS2:=near (w.heap.size+1) _ _ _ (by decide) (by omega) HBS.out
  have bN2:=near (w.heap.size+1+1) _ _ _ (by decide) (by omega) HBN.out
  refine ⟨rfl,(HPB.out.2.2.2.1.trans HPB2.out.2.2.2.1).from _,⟨bel,fun k hk=>?_,fun k cs z hk=>?_⟩,⟨⟨⟨⟨_,HPB2.out.2.1,?_,trivial⟩,bS2,bN2⟩,HBW.out.trans bel⟩,⟨fun p cs T z hT hp=>?_,HO.out.2.trans (HPB.out.2.2.2.1.trans HPB2.out.2.2.2.1)⟩⟩⟩
  ·rcases hk with rfl | rfl
   ·exact bS2.trans HBS.out.symm
   ·exact bN2.trans HBN.out.symm
  ·exact near k cs _ z (by decide) (fun ek=>by subst ek;rw [show W.heap[w.heap.size]? = _ from HBV.out] at hk;injection hk with hk;injection hk with _ hk;revert hk;decide) hk
  ·rw [HSNOC.out,←HN2.out];exact HPB2.out.2.2.1
  ·exact near p cs T z hT (fun ep=>by have:=(Array.getElem?_eq_some_iff.1 hp).1;omega) (HO.out.1 p cs T z hT hp)
 case done=>
  rintro D W hD ⟨⟨⟨⟨v,bV,hown,_⟩,bS,bN⟩,hBW⟩,hO⟩ hK
  have cV:=bV.cell
  gi_wp2
  refine ⟨by simp,.inl ⟨_,_,rfl,run_takeDeferred hK,?_⟩⟩
  refine ⟨_,results_tmp rfl _ _ _,v,rfl,⟨ownsRow_putObj hown _ hK rfl,hBW.trans (belowK_b (w:=W0) (by omega) W D _ _ hD hK rfl rfl)⟩,hO.put D _ _ (by omega) hK rfl⟩
end Go.Proofs.YtndgadjeeinedaaGreatDoor
/- What delta.Make makes, as a list: it makes the target of the base; how long it is and how many steps it has. -/
namespace Go.Proofs.YtndgadjeeinedaaGreatDoor.Dl
open Go Go.Proofs.YtndgadjeeinedaaGreatDoor
def frp (text:List Nat) (p:Nat):List Nat:=frs text (chk text.length p)
theorem frp_end {text:List Nat} {p:Nat} (h:text.length≤p):frp text p=[]:=by unfold frp;rw [chk_end h];rfl
theorem frp_step {text:List Nat} {p:Nat} (h:p < text.length):frp text p=min 127 (text.length - p)::(text.drop p).take (min 127 (text.length - p))++frp text (p+127):=by
 unfold frp;rw [chk_step h];simp [frs]
theorem frp_len (text:List Nat):∀ (k p:Nat),text.length - p≤k→(frp text p).length=(text.length - p)+(chk text.length p).length
 | 0,p,h=>by rw [frp_end (by omega),chk_end (by omega)];simp;omega
 | k+1,p,h=>by
  by_cases hp:p < text.length
  ·rw [frp_step hp,chk_step hp]
   simp only [List.cons_append,List.length_cons,List.length_append,List.length_take,List.length_drop]
   rw [frp_len text k (p+127) (by omega)]
   omega
  ·rw [frp_end (by omega),chk_end (by omega)];simp;omega
theorem at0_of_drop {d:List Nat} {q:Nat} {x:Nat} {r:List Nat} (h:d.drop q=x::r):at0 d q=x∧q < d.length∧d.drop (q+1)=r:=by
 have hq:q < d.length:=by
  by_cases hq:q < d.length
  ·exact hq
  ·rw [List.drop_eq_nil_of_le (by omega)] at h;cases h
 refine ⟨?_,hq,?_⟩
 ·have h2:(d.drop q).getD 0 0=d.getD (q+0) 0:=Sha.getD_drop ..
  rw [h] at h2
  exact h2.symm
 ·rw [←List.drop_drop,h];rfl
theorem fresh_at {d:List Nat} {q e:Nat} {t r:List Nat} (h:d.drop q=e::t++r) (ht:t.length=e) (h0:0 < e) (h1:e≤127) :
  evs d q=.fresh e (q+1)::evs d (q+1+e)∧(d.drop (q+1)).take e=t∧d.drop (q+1+e)=r:=by
 obtain ⟨a,b,c⟩:=at0_of_drop (show d.drop q=e::(t++r) from h)
 have hl:d.length - (q+1)=t.length+r.length:=by rw [←List.length_drop,c,List.length_append]
 have hev:evAt d q=(.fresh e (q+1),1+e):=by
  unfold evAt
  rw [a,if_neg (by omega),if_pos (by omega),if_neg (by omega)]
 refine ⟨?_,?_,?_⟩
 ·rw [evs_step b hev (by intro s h;cases h),Nat.add_assoc]
 ·rw [c,←ht];simp
 ·rw [←List.drop_drop,c,←ht];simp
theorem copy_at {d:List Nat} {q n f:Nat} {r:List Nat} (h:d.drop q=(128+n)::f / 256::f % 256::r) (h0:0 < n) (h1:n≤127) :
  evs d q=.copy n f::evs d (q+3)∧d.drop (q+3)=r:=by
 obtain ⟨a,b,c⟩:=at0_of_drop h
 obtain ⟨a2,b2,c2⟩:=at0_of_drop c
 obtain ⟨a3,b3,c3⟩:=at0_of_drop c2
 have hev:evAt d q=(.copy n f,3):=by
  unfold evAt two
  have e1:128+n - 128=n:=by omega
  have e2:f / 256 * 256+f % 256=f:=by omega
  rw [a,if_neg (by omega),if_neg (by omega),if_neg (by omega),a2,a3,e1,e2]
 exact ⟨evs_step b hev (by intro s h;cases h),c3⟩
theorem run_frp (base d:List Nat) (to:Nat) (text:List Nat):∀ (k p q:Nat) (r out:List Nat),text.length - p≤k→d.drop q=frp text p++r→out.length+(text.length - p)≤to →
  runE base d to (evs d q) out=runE base d to (evs d (q+(frp text p).length)) (out++text.drop p)∧d.drop (q+(frp text p).length)=r
 | 0,p,q,r,out,h,hd,ho=>by
  rw [frp_end (by omega)] at hd ⊢
  rw [List.drop_eq_nil_of_le (by omega:text.length≤p)]
  exact ⟨by simp,by simpa using hd⟩
 | k+1,p,q,r,out,h,hd,ho=>by
  by_cases hp:p < text.length
  ·obtain ⟨e,he⟩:∃ e,e=min 127 (text.length - p):=⟨_,rfl⟩
   rw [frp_step hp,←he] at hd ⊢
   have hl:((text.drop p).take e).length=e:=by rw [List.length_take,List.length_drop];omega
   rw [List.append_assoc] at hd
   obtain ⟨h1,h2,h3⟩:=fresh_at hd hl (by omega) (by omega)
   obtain ⟨g1,g2⟩:=run_frp base d to text k (p+127) (q+1+e) r (out++(text.drop p).take e) (by omega) h3 (by rw [List.length_append,hl];omega)
   have e1:q+(e::(text.drop p).take e++frp text (p+127)).length=q+1+e+(frp text (p+127)).length:=by simp [hl];omega
   have hj:(text.drop p).take e++text.drop (p+127)=text.drop p:=by
    by_cases h127:text.length - p≤127
    ·rw [List.drop_eq_nil_of_le (by omega:text.length≤p+127),List.append_nil,List.take_of_length_le (by rw [List.length_drop];omega)]
    ·rw [show e=127 by omega,←List.drop_drop,List.take_append_drop]
   rw [e1,h1,runE,if_neg (by omega),h2,g1,List.append_assoc,hj]
   exact ⟨rfl,g2⟩
  ·rw [frp_end (by omega)] at hd ⊢
   rw [List.drop_eq_nil_of_le (by omega:text.length≤p)]
   exact ⟨by simp,by simpa using hd⟩
theorem count_frp (d:List Nat) (text:List Nat):∀ (k p q:Nat) (r:List Nat) (a b:Nat),text.length - p≤k→d.drop q=frp text p++r →
  count (evs d q) a b=count (evs d (q+(frp text p).length)) a (b+(chk text.length p).length)∧d.drop (q+(frp text p).length)=r
 | 0,p,q,r,a,b,h,hd=>by
  rw [frp_end (by omega)] at hd ⊢
  rw [chk_end (by omega)]
  exact ⟨by simp,by simpa using hd⟩
 | k+1,p,q,r,a,b,h,hd=>by
  by_cases hp:p < text.length
  ·obtain ⟨e,he⟩:∃ e,e=min 127 (text.length - p):=⟨_,rfl⟩
   rw [frp_step hp,←he] at hd ⊢
   rw [chk_step hp]
   have hl:((text.drop p).take e).length=e:=by rw [List.length_take,List.length_drop];omega
   rw [List.append_assoc] at hd
   obtain ⟨h1,h2,h3⟩:=fresh_at hd hl (by omega) (by omega)
   obtain ⟨g1,g2⟩:=count_frp d text k (p+127) (q+1+e) r a (b+1) (by omega) h3
   have e1:q+(e::(text.drop p).take e++frp text (p+127)).length=q+1+e+(frp text (p+127)).length:=by simp [hl];omega
   rw [e1,h1,count,g1,List.length_cons,show b+((chk text.length (p+127)).length+1)=b+1+(chk text.length (p+127)).length by omega]
   exact ⟨rfl,g2⟩
  ·rw [frp_end (by omega)] at hd ⊢
   rw [chk_end (by omega)]
   exact ⟨by simp,by simpa using hd⟩
def mkS (target:List Nat):Nat→List (Nat×Nat×Nat)→List Nat
 | told,[]=>fr (target.drop told)
 | told,(p,n,f)::r=>fr ((target.drop told).take (p - told))++((128+n)::f / 256::f % 256::mkS target (p+n) r)
def front (base target:List Nat):List Nat:=[base.length / 256,base.length % 256,target.length / 256,target.length % 256]
def mk (base target:List Nat):List Nat:=front base target++mkS target 0 (cps base target 0)
def mkA (target:List Nat):List Nat×Nat→List (Nat×Nat×Nat)→List Nat×Nat
 | s,[]=>s
 | s,(p,n,f)::r=>mkA target (s.1++fr ((target.drop s.2).take (p - s.2))++[128+n]++[f / 256,f % 256],p+n) r
theorem mkA_snoc (target:List Nat):∀ (l:List (Nat×Nat×Nat)) (s:List Nat×Nat) (p n f:Nat),mkA target s (l++[(p,n,f)])=((mkA target s l).1++fr ((target.drop (mkA target s l).2).take (p - (mkA target s l).2))++[128+n]++[f / 256,f % 256],p+n)
 | [],_,_,_,_=>rfl
 | (_,_,_)::l,_,p,n,f=>by
  show mkA target _ (l++_)=_
  rw [mkA_snoc target l];rfl
theorem mkA_mkS (target:List Nat):∀ (l:List (Nat×Nat×Nat)) (b:List Nat) (told:Nat),(mkA target (b,told) l).1++fr (target.drop (mkA target (b,told) l).2)=b++mkS target told l
 | [],_,_=>rfl
 | (p,n,f)::l,b,told=>by
  refine (mkA_mkS target l _ (p+n)).trans ?_
  rw [mkS];simp
def okL (base target:List Nat):Nat→List (Nat×Nat×Nat)→Prop
 | told,[]=>told≤target.length
 | told,(p,n,f)::r=>told≤p∧p+n≤target.length∧4≤n∧n≤127∧f+n≤base.length∧(base.drop f).take n=(target.drop p).take n∧okL base target (p+n) r
theorem okL_cps (base target:List Nat):∀ (k p told:Nat),target.length - p≤k→told≤p→p≤target.length→okL base target told (cps base target p)
 | 0,p,told,h,h1,h2=>by rw [cps_end (by omega)];show told≤_;omega
 | k+1,p,told,h,h1,h2=>by
  by_cases hp:p < target.length
  ·rcases lg_best base (target.drop p) with ⟨e,_⟩ | ⟨e1,e2,e3,e4,e5⟩
   ·rw [cps_skip hp e]
    exact okL_cps base target k (p+1) told (by omega) (by omega) (by omega)
   ·rw [cps_copy hp (by omega)]
    have hc:=cmn_le (base.drop (lg base (target.drop p)).2) (target.drop p) 127
    rw [e3,List.length_drop,List.length_drop] at hc
    exact ⟨h1,by omega,e1,hc.1,by omega,hc.2.2.2,okL_cps base target k _ _ (by omega) (Nat.le_refl _) (by omega)⟩
  ·rw [cps_end (by omega)];show told≤_;omega
theorem okL_mid {base target:List Nat}:∀ {l:List (Nat×Nat×Nat)} {told:Nat} {b:List Nat} {p n f:Nat} {r:List (Nat×Nat×Nat)},okL base target told (l++(p,n,f)::r) →
  (mkA target (b,told) l).2≤p∧p+n≤target.length∧4≤n∧n≤127∧f+n≤base.length
 | [],_,_,_,_,_,_,h=>⟨h.1,h.2.1,h.2.2.1,h.2.2.2.1,h.2.2.2.2.1⟩
 | (_p',_n',_f')::l,_told,_b,_p,_n,_f,_r,h=>okL_mid (l:=l) (b:=_) h.2.2.2.2.2.2
theorem okL_end {base target:List Nat}:∀ {l:List (Nat×Nat×Nat)} {told:Nat} {b:List Nat},okL base target told l→(mkA target (b,told) l).2≤target.length
 | [],_,_,h=>h
 | (_p',_n',_f')::l,_told,_b,h=>okL_end (l:=l) (b:=_) h.2.2.2.2.2.2
theorem fr_eq (text:List Nat):fr text=frp text 0:=rfl
theorem run_mkS (base d target:List Nat):∀ (l:List (Nat×Nat×Nat)) (told q:Nat),okL base target told l→d.drop q=mkS target told l→runE base d target.length (evs d q) (target.take told)=.ok target
 | [],told,q,h,hd=>by
  have ht:told≤target.length:=h
  obtain ⟨g1,g2⟩:=run_frp base d target.length (target.drop told) _ 0 q [] (target.take told) (Nat.le_refl _) (by rw [←fr_eq,List.append_nil];exact hd) (by rw [List.length_take,List.length_drop];omega)
  rw [g1]
  have hq:d.length≤q+(frp (target.drop told) 0).length:=List.drop_eq_nil_iff.1 g2
  rw [evs_end hq,runE,List.drop_zero,List.take_append_drop,if_neg (Nat.lt_irrefl _)]
 | (p,n,f)::l,told,q,⟨h1,h2,h3,h4,h5,h6,h7⟩,hd=>by
  have hl:((target.drop told).take (p - told)).length=p - told:=by rw [List.length_take,List.length_drop];omega
  obtain ⟨g1,g2⟩:=run_frp base d target.length ((target.drop told).take (p - told)) _ 0 q _ (target.take told) (Nat.le_refl _) (by rw [←fr_eq];exact hd) (by rw [hl,List.length_take];omega)
  rw [g1,List.drop_zero]
  have hj:target.take told++(target.drop told).take (p - told)=target.take p:=by
   rw [←List.take_add,show told+(p - told)=p by omega]
  rw [hj]
  obtain ⟨c1,c2⟩:=copy_at g2 (by omega) h4
  rw [c1,runE,if_neg (by omega),if_neg (by rw [List.length_take];omega),h6,←List.take_add]
  exact run_mkS base d target l (p+n) _ h7 c2
theorem count_mkS (base d target:List Nat):∀ (l:List (Nat×Nat×Nat)) (told q a b:Nat),okL base target told l→d.drop q=mkS target told l →
  ∃ k,count (evs d q) a b=some (a+l.length,b+k)∧k≤target.length - told∧(mkS target told l).length≤2 * (target.length - told)
 | [],told,q,a,b,h,hd=>by
  obtain ⟨g1,g2⟩:=count_frp d (target.drop told) _ 0 q [] a b (Nat.le_refl _) (by rw [←fr_eq,List.append_nil];exact hd)
  have hq:d.length≤q+(frp (target.drop told) 0).length:=List.drop_eq_nil_iff.1 g2
  have hc:=chk_len (target.drop told).length 0
  have hf:=frp_len (target.drop told) _ 0 (Nat.le_refl _)
  rw [List.length_drop] at hc hf
  refine ⟨_,by rw [g1,evs_end hq];rfl,by rw [List.length_drop];omega,?_⟩
  rw [mkS,fr_eq,hf]
  omega
 | (p,n,f)::l,told,q,a,b,⟨h1,h2,h3,h4,h5,h6,h7⟩,hd=>by
  have hl:((target.drop told).take (p - told)).length=p - told:=by rw [List.length_take,List.length_drop];omega
  obtain ⟨g1,g2⟩:=count_frp d ((target.drop told).take (p - told)) _ 0 q _ a b (Nat.le_refl _) (by rw [←fr_eq];exact hd)
  obtain ⟨c1,c2⟩:=copy_at g2 (by omega) h4
  obtain ⟨k,k1,k2,k3⟩:=count_mkS base d target l (p+n) _ (a+1) (b+(chk ((target.drop told).take (p - told)).length 0).length) h7 c2
  have hc:=chk_len ((target.drop told).take (p - told)).length 0
  have hf:=frp_len ((target.drop told).take (p - told)) _ 0 (Nat.le_refl _)
  rw [hl] at hc hf
  refine ⟨(chk ((target.drop told).take (p - told)).length 0).length+k,?_,by rw [hl];omega,?_⟩
  ·rw [g1,c1,count,k1,List.length_cons,show a+1+l.length=a+(l.length+1) by omega,Nat.add_assoc]
  ·rw [mkS,fr_eq,List.length_append,hf,List.length_cons,List.length_cons,List.length_cons]
   omega
theorem mk_front (base target:List Nat):(mk base target).drop 4=mkS target 0 (cps base target 0):=rfl
theorem mk_len (base target:List Nat):(mk base target).length=4+(mkS target 0 (cps base target 0)).length:=by unfold mk front;simp;omega
theorem mk_two (base target:List Nat):two (mk base target) 0=base.length∧two (mk base target) 2=target.length:=by
 unfold two at0 mk front
 simp
 omega
theorem mk_back (base target:List Nat) (_hb:base.length≤300) (ht:target.length≤300):applyP base (mk base target)=.ok target:=by
 have h2:=mk_two base target
 unfold applyP
 rw [if_neg (by rw [mk_len];omega),h2.1,h2.2,if_neg (by simp),if_neg (by omega)]
 exact run_mkS base _ target _ 0 4 (okL_cps base target _ 0 0 (Nat.le_refl _) (Nat.le_refl _) (Nat.zero_le _)) (mk_front base target)
theorem mk_count (base target:List Nat):∃ k,count (evs (mk base target) 4) 0 0=some ((cps base target 0).length,k)∧k≤target.length∧(mk base target).length≤4+2 * target.length:=by
 obtain ⟨k,h1,h2,h3⟩:=count_mkS base (mk base target) target _ 0 4 0 0 (okL_cps base target _ 0 0 (Nat.le_refl _) (Nat.le_refl _) (Nat.zero_le _)) (mk_front base target)
 exact ⟨k,by simpa using h1,by omega,by rw [mk_len];omega⟩
end Go.Proofs.YtndgadjeeinedaaGreatDoor.Dl
