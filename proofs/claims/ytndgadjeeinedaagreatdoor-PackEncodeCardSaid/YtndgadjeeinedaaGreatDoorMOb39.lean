/- The document's Parse: what stands while it goes on; no bytes, too many, blobs, letters of no kind. -/
import Derived.Maps.RangeWalk
import Derived.Test.YtndgadjeeinedaaGreatDoorMOb38
import Derived.Test.YtndgadjeeinedaaGreatDoorMDl4s
set_option maxRecDepth 100000
namespace Go.Proofs.YtndgadjeeinedaaGreatDoor
open Go Go.RowKit
theorem robj_empty:Tryz.prog.built 51 []=some zc0:=by
 rw [built_of robj_under robj_zero robj_places]
 exact fill_done _ _
theorem takes_build {P:Program} {ops:Array Oper} {S:World→Prop} {o:Oper} {a:Act} (t:TypeId) (parts:Array (Nat×Operand)) (ho:o.op=.build t parts) (hw:Region.wanted o (yielded ops a.tmps)=true) (vals:List (Nat×Value))
  (hv:(parts.map fun (i,x)=>(i,a.eval x)).toList=vals) (cells:Array Value) (h:P.built t vals=some cells):YieldsIf P ops S o (.agg cells) a:=
 Or.inl ⟨hw,fun w _=>by
  unfold execOp
  simp only [ho,Sem.run_bind,run_build w t _ cells (by rw [hv];exact h),Result.andThen_ok]
  rfl⟩
theorem takes_sliceL {ops:Array Oper} {S:World→Prop} {o:Oper} {a:Act} (x lo:Operand) (ho:o.op=.slice 25 x (some lo) none none) (hw:Region.wanted o (yielded ops a.tmps)=true) (v vl u:Value) (hx:a.eval x=v) (hl:a.eval lo=vl)
  (hS:∀ w,(Instr.slice 25 v (some vl) none none).run Tryz.prog w=.ok u w):YieldsIf Tryz.prog ops S o u a:=
 Or.inl ⟨hw,fun w _=>by
  have hk:(Instr.sliceAt 25 v (some vl) none none).run Tryz.prog w=.ok u w:=by rw [←hS w];simp [Instr.sliceAt,run_underlying Tryz.underlying25]
  unfold execOp
  simp [ho,hx,hl,hk]⟩
theorem takes_sliceM {ops:Array Oper} {S:World→Prop} {o:Oper} {a:Act} (x lo hi:Operand) (ho:o.op=.slice 25 x (some lo) (some hi) none) (hw:Region.wanted o (yielded ops a.tmps)=true) (v vl vh u:Value) (hx:a.eval x=v) (hl:a.eval lo=vl) (hh:a.eval hi=vh)
  (hS:∀ w,(Instr.slice 25 v (some vl) (some vh) none).run Tryz.prog w=.ok u w):YieldsIf Tryz.prog ops S o u a:=
 Or.inl ⟨hw,fun w _=>by
  have hk:(Instr.sliceAt 25 v (some vl) (some vh) none).run Tryz.prog w=.ok u w:=by rw [←hS w];simp [Instr.sliceAt,run_underlying Tryz.underlying25]
  unfold execOp
  simp [ho,hx,hl,hh,hk]⟩
theorem sl_from {w:World} {A:Option Addr} {c:Nat} {xs:List Nat} (h:Rd w (.slice A xs.length c) xs) (k:Nat) (hk:k≤xs.length) :
  ∃ A' c',(∀ w',(Instr.slice 25 (.slice A xs.length c) (some (.int .i64 (k:Int))) none none).run Tryz.prog w'=.ok (.slice A' (xs.drop k).length c') w')∧Rd w (.slice A' (xs.drop k).length c') (xs.drop k):=by
 refine ⟨(if c=k then A else A.map (·.add k)),c - k,fun w'=>?_,?_⟩
 ·have:=run_sliceLoS Tryz.underlying25 (by kernel_rfl) A xs.length c k hk (lo:=(k:Int)) rfl w'
  rw [List.length_drop];exact this
 ·rw [List.length_drop];exact h.cut hk
theorem sl_mid {w : World} {A : Option Addr} {c : Nat} {xs : List Nat} (h : Rd w (.slice A xs.length c) xs) (k m : Nat) (hm : k + m ≤ xs.length) {hi : Int} (eh : hi = ((k + m : Nat) : Int)) :
    ∃ A' c', (∀ w', (Instr.slice 25 (.slice A xs.length c) (some (.int .i64 (k : Int))) (some (.int .i64 hi)) none).run Tryz.prog w' = .ok (.slice A' m c') w') ∧ Rd w (.slice A' m c') ((xs.drop k).take m) := by
  have hc : xs.length ≤ c := by obtain ⟨_, c', e, hc, _⟩ := h; injection e with _ _ e3; omega
  refine ⟨(if c = k then A else A.map (·.add k)), c - k, fun w' => ?_, ?_⟩
  · subst eh
    obtain ⟨p, hp⟩ : ∃ p, p = k + m := ⟨_, rfl⟩
    rw [← hp]
    have hkp : k ≤ p := by omega
    have hpc : p ≤ c := by omega
    have e : m = p - k := by omega
    rw [e]
    clear e hp hm
    cases hq : Tryz.prog.info? 5 with
    | none => have h : (Tryz.prog.info? 5).map (·.size) = some 1 := by kernel_rfl
              simp [hq] at h
    | some i =>
      have hs : i.size = 1 := by have h : (Tryz.prog.info? 5).map (·.size) = some 1 := by kernel_rfl
                                 simpa [hq] using h
      have h1 : ((k : Nat) : Int) ≤ p := by omega
      have h2 : ((p : Nat) : Int) ≤ c := by omega
      simp [Instr.slice, run_underlying Tryz.underlying25, Instr.sliceBounds, run_sliceBound, sizeOf, typeInfo, hq, hs, h1, h2]
  · have h4 := (h.cut (k := k) (by omega))
    exact h4.cutHi (by rw [List.length_drop]; omega)
structure RPW (w wr:World) (g:Nat) (rc:Array Value):Prop where
 res:Blk wr w.heap.size 51 zc0
 non:Blk wr (w.heap.size+1) 51 zc0
 ob:Blk wr g 51 rc
 bel:Below w.heap.size w wr
 gt:w.heap.size+1 < g
section
variable {w wr w':World} {g:Nat} {rc rc2:Array Value}
theorem RPW.below (h:RPW w wr g rc) (hb:Below wr.heap.size wr w'):RPW w w' g rc:=
 ⟨h.res.below hb h.res.lt,h.non.below hb h.non.lt,h.ob.below hb h.ob.lt,below_next h.bel hb,h.gt⟩
theorem RPW.put (h:RPW w wr g rc) (hg:wr.grownBy w' (some g)) (hb:Blk w' g 51 rc2):RPW w w' g rc2:=
 ⟨h.res.grown hg (fun e=>by injection e with e;have:=h.gt;omega),h.non.grown hg (fun e=>by injection e with e;have:=h.gt;omega),hb,below_of_only h.bel hg (by have:=h.gt;omega),h.gt⟩
theorem RPW.cell (h:RPW w wr g rc) (i:Nat) (u:Value):RPW w (wr.setCell ⟨g,i,none⟩ u) g (rc.setIfInBounds i u):=h.put (grown_cell _ _ _ _) (h.ob.set_ i u)
theorem RPW.own (h:RPW w wr g rc) {B n z:Nat} {e:TypeId} {v:Value} {us:List Value} (ho:wr.ownsRow B e z v n us) (hB:g < B) (hg:wr.grownBy w' v.ownBlock):RPW w w' g rc:=by
 have n0:∀ x,x < B→some x≠v.ownBlock:=fun x hx=>own_ne' ho hx
 have:=h.gt
 exact ⟨h.res.grown hg (n0 _ (by omega)),h.non.grown hg (n0 _ (by omega)),h.ob.grown hg (n0 _ hB),below_own h.bel ho (by omega) hg,h.gt⟩
end
structure ObR (m:Nat) (w0 w:World) (o:Ob) (cs:Array Value) (T:Option Addr) (tc:Nat) (E:Option Addr) (ec:Nat) (P:Option Addr) (pc:Nat):Prop where
 cells:cs=(cellsOb o.kind (.slice T o.text.length tc) (.slice E o.ents.length ec) (.slice P o.pars.length pc) o.target).toArray
 text:Rd w0 (.slice T o.text.length tc) o.text
 ents:w.ownsRow m 76 33 (.slice E o.ents.length ec) o.ents.length (cellsE o.ents)
 pars:w.ownsRow m 41 32 (.slice P o.pars.length pc) o.pars.length (cellsP o.pars)
 far:w0.heap.size≤m
theorem obr_low {w:World} {B B' k z t:Nat} {v:Value} {cs:List Value} (h:w.ownsRow B t z v k cs) (hB:B'≤B):w.ownsRow B' t z v k cs:=
 ⟨h.1,h.2.imp id fun ⟨g,c,q,h1,h2,h3⟩=>⟨g,c,q,h1,Nat.le_trans hB h2,h3⟩⟩
structure ObCR (w0 w:World) (o:Ob) (cs:Array Value) (T:Option Addr) (tc:Nat) (E:Option Addr) (ec:Nat) (P:Option Addr) (pc:Nat):Prop extends ObC w o cs T tc E ec P pc where
 was:Rd w0 (.slice T o.text.length tc) o.text
 ownE:w.ownsRow w0.heap.size 76 33 (.slice E o.ents.length ec) o.ents.length (cellsE o.ents)
 ownP:w.ownsRow w0.heap.size 41 32 (.slice P o.pars.length pc) o.pars.length (cellsP o.pars)
section
variable {m:Nat} {w0 w w':World} {o:Ob} {cs:Array Value} {T E P:Option Addr} {tc ec pc:Nat}
theorem ObR.obc (h:ObR m w0 w o cs T tc E ec P pc) (hb:Below w0.heap.size w0 w):ObC w o cs T tc E ec P pc:=
 ⟨h.cells,h.text.below hb (Nat.le_refl _),rdk_own h.ents,rdk_own h.pars⟩
theorem ObR.obcr (h:ObR m w0 w o cs T tc E ec P pc) (hb:Below w0.heap.size w0 w):ObCR w0 w o cs T tc E ec P pc:=
 ⟨⟨h.cells,h.text.below hb (Nat.le_refl _),rdk_own h.ents,rdk_own h.pars⟩,h.text,obr_low h.ents h.far,obr_low h.pars h.far⟩
theorem ObR.below (h:ObR m w0 w o cs T tc E ec P pc) (hb:Below w.heap.size w w'):ObR m w0 w' o cs T tc E ec P pc:=
 ⟨h.cells,h.text,own_kpt h.ents (Kpt.of_below hb),own_kpt h.pars (Kpt.of_below hb),h.far⟩
theorem ObR.only (h:ObR m w0 w o cs T tc E ec P pc) {x:Nat} (hx:x < m) (hg:w.grownBy w' (some x)):ObR m w0 w' o cs T tc E ec P pc:=
 ⟨h.cells,h.text,h.ents.kept hg (own_far h.ents hx),h.pars.kept hg (own_far h.pars hx),h.far⟩
end
def RPost (xs:List Nat) (w:World) (e:Ending) (w':World):Prop:=
 Below w.heap.size w w'∧(∀ c,Ob.parse xs=.bad c→e=.returned (.tuple #[.agg zc0,.int .i64 (c:Int)])) ∧
 (∀ o,Ob.parse xs=.ok o→∃ cs T tc E ec P pc,e=.returned (.tuple #[.agg cs,.int .i64 0])∧o.Fit∧o.Held∧ObCR w w' o cs T tc E ec P pc)
theorem rpost_bad {xs:List Nat} {w w':World} {e:Ending} {c:Nat} (hp:Ob.parse xs=.bad c) (hb:Below w.heap.size w w') (he:e=.returned (.tuple #[.agg zc0,.int .i64 (c:Int)])):RPost xs w e w':=
 ⟨hb,fun c' h'=>(by rw [hp] at h';injection h' with h';subst h';exact he),fun o h'=>(by rw [hp] at h';cases h')⟩
theorem rpost_ok {xs:List Nat} {w w':World} {e:Ending} {o:Ob} {cs:Array Value} {T E P:Option Addr} {tc ec pc:Nat} (hp:Ob.parse xs=.ok o) (hb:Below w.heap.size w w') (he:e=.returned (.tuple #[.agg cs,.int .i64 0])) (hf:o.Fit) (hd:o.Held) (ho:ObCR w w' o cs T tc E ec P pc):RPost xs w e w':=
 ⟨hb,fun c h'=>(by rw [hp] at h';cases h'),fun o' h'=>(by rw [hp] at h';injection h' with h';subst h';exact ⟨cs,T,tc,E,ec,P,pc,he,hf,hd,ho⟩)⟩
theorem cellsOb_k0 (k j:Int) (t e p:Value) (x:List Nat):(cellsOb k t e p x).toArray.setIfInBounds 0 (.int .i64 j)=(cellsOb j t e p x).toArray:=by
 apply Array.ext';rw [Array.toList_setIfInBounds];rfl
theorem rpw_start (w:World):RPW w ((((w.alloc (.cells zc0 51)).alloc (.cells zc0 51)).drew).alloc (.cells zc0 51)) (w.heap.size+2) (cellsOb 0 nilV nilV nilV zid).toArray:=by
 have h1:Blk (w.alloc (.cells zc0 51)) w.heap.size 51 zc0:=Blk.new w _ _
 have h2:=Blk.new (w.alloc (.cells zc0 51)) 51 zc0
 rw [World.size_alloc] at h2
 have h3:=Blk.new ((w.alloc (.cells zc0 51)).alloc (.cells zc0 51)).drew 51 zc0
 have e3:(((w.alloc (.cells zc0 51)).alloc (.cells zc0 51)).drew).heap.size=w.heap.size+2:=by
  show ((w.alloc (.cells zc0 51)).alloc (.cells zc0 51)).heap.size=_
  rw [World.size_alloc,World.size_alloc]
 rw [e3] at h3
 refine ⟨((h1.alloc _).drew).alloc _,(h2.drew).alloc _,h3,?_,by omega⟩
 exact (below_drewN (((Below.refl _ _).alloc (Nat.le_refl _) _).alloc (by simp) _) 1).alloc (by rw [show ((((w.alloc (.cells zc0 51)).alloc (.cells zc0 51)).drewN 1)).heap.size=w.heap.size+2 from e3];omega) _
theorem rparse_large (A:Option Addr) (n c:Nat) (w:World) (hz:300 < n) :
  Calls Tryz.prog 13 #[.slice A n c] w fun e w'=>e=.returned (.tuple #[.agg zc0,.int .i64 13])∧Below w.heap.size w w':=by
 obtain ⟨w2,hw2⟩:∃ w2,w2=(w.alloc (.cells zc0 51)).alloc (.cells zc0 51):=⟨_,rfl⟩
 have s1:(w.alloc (.cells zc0 51)).heap.size=w.heap.size+1:=by simp
 have HZ4:Hid (Blk w2 (w.heap.size+1) 51 zc0):=Lib.hid (by have h:=Blk.new (w.alloc (.cells zc0 51)) 51 zc0;rw [s1] at h;rw [hw2];exact h)
 have HZ2:Hid (Blk w2 w.heap.size 51 zc0):=Lib.hid (by rw [hw2];exact (Blk.new w 51 zc0).alloc _)
 have HB2:Hid (Below w.heap.size w w2):=Lib.hid (by rw [hw2];exact ((Below.refl _ _).alloc (Nat.le_refl _) _).alloc (by simp) _)
 have HST:Hid (RPW w (w2.drew.alloc (.cells zc0 51)) (w.heap.size+2) (cellsOb 0 nilV nilV nilV zid).toArray):=Lib.hid (by rw [hw2];exact rpw_start w)
 have e2:=hw2.symm
 clear hw2 s1
 have i1:(n:Int) > 300:=by omega
 go_enter Tryz.func13,Tryz.ntmps13
 go_wp2_with (with_reducible (show wpList _ _ _ (Oper.mk _ (Op.build _ _) _ _ _ _::_) _ _);refine pause ?_)
 unfold Paused
 change wpList _ _ _ _ _ (w.alloc (.cells zc0 51))
 refine wpList_buildK (by rfl) 51 _ (by rfl) [] (by simp) zc0 robj_empty ?_
 go_wp2_with (with_reducible (show wpList _ _ _ (Oper.mk _ (Op.store 51 _ _) _ _ _ _::_) _ _);refine pause ?_)
 unfold Paused
 change wpList _ _ _ _ _ ((w.alloc (.cells zc0 51)).alloc (.cells zc0 51))
 rw [e2]
 refine wpList_store_row rfl 51 (.tmp 4) (.tmp 10) rfl (w.heap.size+1) zc0 (by first | rfl | (simp;rfl)) rfl 51 zc0 HZ4.out (by kernel_rfl) rfl (by kernel_rfl) ?_
 rw [setRow_self w2 (w.heap.size+1) zc0 51 (0,0) HZ4.out]
 simp only [Act.put]
 go_wp2_with (with_reducible (show wpList _ _ _ (Oper.mk _ (Op.load 51 _) _ _ _ _::_) _ _);refine pause ?_)
 unfold Paused
 refine wpList_row_w (by rfl) 51 (.tmp 4) (by rfl) (w.heap.size+1) (by rfl) 51 zc0 _ HZ4.out robj_under (by rfl) (by kernel_rfl) ?_
 go_wp2_with (with_reducible (show wpList _ _ _ (Oper.mk _ (Op.store 51 _ _) _ _ _ _::_) _ _);refine pause ?_)
 unfold Paused
 refine wpList_store_row (by rfl) 51 (.tmp 2) (.tmp 14) (by rfl) w.heap.size zc0 (by rfl) (by rfl) 51 zc0 HZ2.out (by kernel_rfl) (by rfl) (by kernel_rfl) ?_
 rw [setRow_self w2 w.heap.size zc0 51 (0,0) HZ2.out]
 go_wp2
 exact bodyPost_ret (v:=.tuple #[.agg zc0,.int .i64 (13:Int)]) (results_cell_row2 rfl _ _ w.heap.size 51 zc0 _ _ (by rfl) (by rfl) HZ2.out robj_under rfl (by kernel_rfl)) rfl ⟨rfl,HB2.out⟩
theorem rparse_nil (A:Option Addr) (c:Nat) (w:World) :
  Calls Tryz.prog 13 #[.slice A 0 c] w (RPost [] w):=by
 obtain ⟨w2,hw2⟩:∃ w2,w2=(w.alloc (.cells zc0 51)).alloc (.cells zc0 51):=⟨_,rfl⟩
 have s1:(w.alloc (.cells zc0 51)).heap.size=w.heap.size+1:=by simp
 have HZ4:Hid (Blk w2 (w.heap.size+1) 51 zc0):=Lib.hid (by have h:=Blk.new (w.alloc (.cells zc0 51)) 51 zc0;rw [s1] at h;rw [hw2];exact h)
 have HZ2:Hid (Blk w2 w.heap.size 51 zc0):=Lib.hid (by rw [hw2];exact (Blk.new w 51 zc0).alloc _)
 have HB2:Hid (Below w.heap.size w w2):=Lib.hid (by rw [hw2];exact ((Below.refl _ _).alloc (Nat.le_refl _) _).alloc (by simp) _)
 have HST:Hid (RPW w (w2.drew.alloc (.cells zc0 51)) (w.heap.size+2) (cellsOb 0 nilV nilV nilV zid).toArray):=Lib.hid (by rw [hw2];exact rpw_start w)
 have e2:=hw2.symm
 clear hw2 s1
 go_enter Tryz.func13,Tryz.ntmps13
 go_wp2_with (with_reducible (show wpList _ _ _ (Oper.mk _ (Op.build _ _) _ _ _ _::_) _ _);refine pause ?_)
 unfold Paused
 change wpList _ _ _ _ _ (w.alloc (.cells zc0 51))
 refine wpList_buildK (by rfl) 51 _ (by rfl) [] (by simp) zc0 robj_empty ?_
 go_wp2_with (with_reducible (show wpList _ _ _ (Oper.mk _ (Op.store 51 _ _) _ _ _ _::_) _ _);refine pause ?_)
 unfold Paused
 change wpList _ _ _ _ _ ((w.alloc (.cells zc0 51)).alloc (.cells zc0 51))
 rw [e2]
 refine wpList_store_row rfl 51 (.tmp 4) (.tmp 10) rfl (w.heap.size+1) zc0 (by first | rfl | (simp;rfl)) rfl 51 zc0 HZ4.out (by kernel_rfl) rfl (by kernel_rfl) ?_
 rw [setRow_self w2 (w.heap.size+1) zc0 51 (0,0) HZ4.out]
 simp only [Act.put]
 go_wp2_with (with_reducible (show wpList _ _ _ (Oper.mk _ (Op.load 51 _) _ _ _ _::_) _ _);refine pause ?_)
 unfold Paused
 refine wpList_row_w (by rfl) 51 (.tmp 4) (by rfl) (w.heap.size+1) (by rfl) 51 zc0 _ HZ4.out robj_under (by rfl) (by kernel_rfl) ?_
 go_wp2_with (with_reducible (show wpList _ _ _ (Oper.mk _ (Op.store 51 _ _) _ _ _ _::_) _ _);refine pause ?_)
 unfold Paused
 refine wpList_store_row (by rfl) 51 (.tmp 2) (.tmp 18) (by rfl) w.heap.size zc0 (by rfl) (by rfl) 51 zc0 HZ2.out (by kernel_rfl) (by rfl) (by kernel_rfl) ?_
 rw [setRow_self w2 w.heap.size zc0 51 (0,0) HZ2.out]
 go_wp2
 exact bodyPost_ret (v:=.tuple #[.agg zc0,.int .i64 (2:Int)]) (results_cell_row2 rfl _ _ w.heap.size 51 zc0 _ _ (by rfl) (by rfl) HZ2.out robj_under rfl (by kernel_rfl)) rfl (rpost_bad (c:=2) rfl HB2.out rfl)
set_option maxHeartbeats 4000000 in
theorem rparse_kind (c:Nat) (ys:List Nat) (A:Option Addr) (cc:Nat) (w:World) (hv:Rd w (.slice A (c::ys).length cc) (c::ys)) (hb:Oc.bytes (c::ys)) (hz:(c::ys).length≤300) (n1:c≠98) (n2:c≠116) (n3:c≠99) (n4:c≠103) :
  Calls Tryz.prog 13 #[.slice A (c::ys).length cc] w (RPost (c::ys) w):=by
 have HP:=Lib.hid (show Ob.parse (c::ys)=.bad 7 by simp only [Ob.parse,if_neg n1,if_neg n2,if_neg n3,if_neg n4])
 have b1:(((c:Nat):Int) == 98)=false:=by simp;omega
 have b2:(((c:Nat):Int) == 116)=false:=by simp;omega
 have b3:(((c:Nat):Int) == 99)=false:=by simp;omega
 have b4:(((c:Nat):Int) == 103)=false:=by simp;omega
 clear n1 n2 n3 n4
 obtain ⟨w2,hw2⟩:∃ w2,w2=(w.alloc (.cells zc0 51)).alloc (.cells zc0 51):=⟨_,rfl⟩
 have s1:(w.alloc (.cells zc0 51)).heap.size=w.heap.size+1:=by simp
 have HZ4:Hid (Blk w2 (w.heap.size+1) 51 zc0):=Lib.hid (by have h:=Blk.new (w.alloc (.cells zc0 51)) 51 zc0;rw [s1] at h;rw [hw2];exact h)
 have HZ2:Hid (Blk w2 w.heap.size 51 zc0):=Lib.hid (by rw [hw2];exact (Blk.new w 51 zc0).alloc _)
 have HB2:Hid (Below w.heap.size w w2):=Lib.hid (by rw [hw2];exact ((Below.refl _ _).alloc (Nat.le_refl _) _).alloc (by simp) _)
 have HST:Hid (RPW w (w2.drew.alloc (.cells zc0 51)) (w.heap.size+2) (cellsOb 0 nilV nilV nilV zid).toArray):=Lib.hid (by rw [hw2];exact rpw_start w)
 have e2:=hw2.symm
 clear hw2 s1
 obtain ⟨A1,c1,q1,hr1⟩:=sl_from hv 1 (by simp)
 rw [show (c::ys).drop 1=ys from rfl] at q1 hr1
 have HR:=Lib.hid hr1
 have HBY:=Lib.hid (bytes_tail hb)
 have HYL:Hid (ys.length < 300):=Lib.hid (by simp only [List.length_cons] at hz;omega)
 obtain ⟨b0,o0,rfl,hx0⟩:∃ b o,A=some ⟨b,o,none⟩∧∀ wx,Below w.heap.size w wx→wx.cell? ⟨b,o,none⟩=some (.int .u8 (((c:Nat):Int):Int)):=by
  obtain ⟨A',c',e,_,h⟩:=hv
  injection e with e1 _ _
  subst e1
  obtain ⟨b,o,rfl,hbl,hx⟩:=h (by simp)
  exact ⟨b,o,rfl,fun wx hb=>(hb.cell (p:=⟨b,o,none⟩) hbl).trans (by have:=hx 0 (by simp);rwa [Nat.add_zero] at this)⟩
 have i1:¬(((c::ys).length:Int) > 300):=by omega
 have i2:¬(((c::ys).length:Int)=0):=by simp only [List.length_cons];omega
 have i3:(0:Int) < ((c::ys).length:Int):=by simp only [List.length_cons];omega
 have i4:(1:Int)≤((c::ys).length:Int):=by simp only [List.length_cons];omega
 have i5:(((c::ys).length:Int) == 0)=false:=by simp only [List.length_cons];simp;omega
 clear hv hb hz hr1
 generalize (c::ys).length=nn at *
 go_enter Tryz.func13,Tryz.ntmps13
 go_wp2_with (with_reducible (show wpList _ _ _ (Oper.mk _ (Op.build _ _) _ _ _ _::_) _ _);refine pause ?_)
 unfold Paused
 change wpList _ _ _ _ _ (w.alloc (.cells zc0 51))
 refine wpList_buildK (by rfl) 51 _ (by rfl) [] (by simp) zc0 robj_empty ?_
 go_wp2_with (with_reducible (show wpList _ _ _ (Oper.mk _ (Op.store 51 _ _) _ _ _ _::_) _ _);refine pause ?_)
 unfold Paused
 change wpList _ _ _ _ _ ((w.alloc (.cells zc0 51)).alloc (.cells zc0 51))
 rw [e2]
 refine wpList_store_row rfl 51 (.tmp 4) (.tmp 10) rfl (w.heap.size+1) zc0 (by first | rfl | (simp;rfl)) rfl 51 zc0 HZ4.out (by kernel_rfl) rfl (by kernel_rfl) ?_
 rw [setRow_self w2 (w.heap.size+1) zc0 51 (0,0) HZ4.out]
 simp only [Act.put]
 go_wp2
 refine wp_region_held (S:=fun _=>True) (by kernel_rfl) ?_
 change wpAnyH _ _ _ _ _ _ _ _ w2.drew
 refine wpAnyH_take (i:=0) (v:=.agg zc0) rfl (by kernel_rfl) (by kernel_rfl) (by kernel_rfl) (fun _ _ _ h=>h) (takes_build 51 _ (by rfl) (by rfl) [] (by simp) zc0 robj_empty) trivial ?_
 try go_frame
 refine wpAnyH_take (i:=1) (v:=?_) rfl (by kernel_rfl) (by kernel_rfl) (by kernel_rfl) (fun _ _ _ h=>h) (Or.inl ⟨by rfl,?_⟩) trivial ?_
 rotate_left
 ·intro w' _;go_simp;with_reducible rfl
 try go_frame
 refine wpAnyH_take (i:=2) (v:=.slice A1 ys.length c1) rfl (by kernel_rfl) (by kernel_rfl) (by kernel_rfl) (fun _ _ _ h=>h) (takes_sliceL (.tmp 20) (.const (.int .i64 1)) (by rfl) (by rfl) _ _ _ (by rfl) (by rfl) q1) trivial ?_
 try go_frame
 refine all_one (i:=3) (by kernel_rfl) rfl (by rfl) (fun K hK=>?_)
 go_simp
 refine hK _ _ trivial ?_;clear hK K
 try go_frame
 have hsz:w2.heap.size=w.heap.size+2:=by rw [←e2];simp
 refine all_one (i:=4) (by kernel_rfl) rfl (by rfl) (fun K hK=>?_)
 refine wp_store_row 51 (.tmp 5) (.tmp 19) (by rfl) (w.heap.size+2) zc0 (by first | rfl | (rw [←hsz];rfl)) (by rfl) 51 zc0 HST.out.ob (by kernel_rfl) (by rfl) (by kernel_rfl) ?_
 change K _ (World.setRow (w2.drew.alloc (.cells zc0 51)) (w.heap.size+2) zc0)
 rw [setRow_self _ (w.heap.size+2) zc0 51 (0,0) HST.out.ob]
 refine hK _ _ trivial ?_;clear hK K
 try simp only [Act.put,List.getElem_toArray,List.getElem_cons_zero,List.getElem_cons_succ]
 refine all_one (i:=5) (by kernel_rfl) rfl (by rfl) (fun K hK=>?_)
 go_simp
 refine hK _ _ trivial ?_;clear hK K
 try go_frame
 refine wpAnyH_done (by kernel_rfl) ?_ _
 have HW:=HST
 try rw [show (w2.alloc (.cells zc0 51)).drew=w2.drew.alloc (.cells zc0 51) from rfl]
 generalize w2.drew.alloc (.cells zc0 51)=w6 at HW ⊢
 have x0:=hx0 w6 HW.out.bel
 clear hx0 q1 HST HZ2 HZ4 HB2 e2 hsz i1 i2 i4 i5
 generalize w.heap.size+2=g at HW ⊢
 go_wp2_with (with_reducible (show wpList _ _ _ (Oper.mk _ (Op.load 51 _) _ _ _ _::_) _ _);refine pause ?_)
 unfold Paused
 refine wpList_row_w (by rfl) 51 (.tmp 4) (by rfl) (w.heap.size+1) (by rfl) 51 zc0 _ HW.out.non robj_under (by rfl) (by kernel_rfl) ?_
 go_wp2_with (with_reducible (show wpList _ _ _ (Oper.mk _ (Op.store 51 _ _) _ _ _ _::_) _ _);refine pause ?_)
 unfold Paused
 refine wpList_store_row (by rfl) 51 (.tmp 2) (.tmp 25) (by rfl) w.heap.size zc0 (by rfl) (by rfl) 51 zc0 HW.out.res (by kernel_rfl) (by rfl) (by kernel_rfl) ?_
 rw [setRow_self _ w.heap.size zc0 51 (0,0) HW.out.res]
 go_wp2
 exact bodyPost_ret (v:=.tuple #[.agg zc0,.int .i64 (7:Int)]) (results_cell_row2 rfl _ _ w.heap.size 51 zc0 _ _ (by rfl) (by rfl) HW.out.res robj_under rfl (by kernel_rfl)) rfl (rpost_bad (c:=7) HP.out HW.out.bel rfl)
set_option maxHeartbeats 4000000 in
theorem rparse_blob (ys:List Nat) (A:Option Addr) (cc:Nat) (w:World) (hv:Rd w (.slice A (98::ys).length cc) (98::ys)) (hb:Oc.bytes (98::ys)) (hz:(98::ys).length≤300) :
  Calls Tryz.prog 13 #[.slice A (98::ys).length cc] w (RPost (98::ys) w):=by
 obtain ⟨w2,hw2⟩:∃ w2,w2=(w.alloc (.cells zc0 51)).alloc (.cells zc0 51):=⟨_,rfl⟩
 have s1:(w.alloc (.cells zc0 51)).heap.size=w.heap.size+1:=by simp
 have HZ4:Hid (Blk w2 (w.heap.size+1) 51 zc0):=Lib.hid (by have h:=Blk.new (w.alloc (.cells zc0 51)) 51 zc0;rw [s1] at h;rw [hw2];exact h)
 have HZ2:Hid (Blk w2 w.heap.size 51 zc0):=Lib.hid (by rw [hw2];exact (Blk.new w 51 zc0).alloc _)
 have HB2:Hid (Below w.heap.size w w2):=Lib.hid (by rw [hw2];exact ((Below.refl _ _).alloc (Nat.le_refl _) _).alloc (by simp) _)
 have HST:Hid (RPW w (w2.drew.alloc (.cells zc0 51)) (w.heap.size+2) (cellsOb 0 nilV nilV nilV zid).toArray):=Lib.hid (by rw [hw2];exact rpw_start w)
 have e2:=hw2.symm
 clear hw2 s1
 obtain ⟨A1,c1,q1,hr1⟩:=sl_from hv 1 (by simp)
 rw [show (98::ys).drop 1=ys from rfl] at q1 hr1
 have HR:=Lib.hid hr1
 have HBY:=Lib.hid (bytes_tail hb)
 have HYL:Hid (ys.length < 300):=Lib.hid (by simp only [List.length_cons] at hz;omega)
 obtain ⟨b0,o0,rfl,hx0⟩:∃ b o,A=some ⟨b,o,none⟩∧∀ wx,Below w.heap.size w wx→wx.cell? ⟨b,o,none⟩=some (.int .u8 (98:Int)):=by
  obtain ⟨A',c',e,_,h⟩:=hv
  injection e with e1 _ _
  subst e1
  obtain ⟨b,o,rfl,hbl,hx⟩:=h (by simp)
  exact ⟨b,o,rfl,fun wx hb=>(hb.cell (p:=⟨b,o,none⟩) hbl).trans (by have:=hx 0 (by simp);rwa [Nat.add_zero] at this)⟩
 have i1:¬(((98::ys).length:Int) > 300):=by omega
 have i2:¬(((98::ys).length:Int)=0):=by simp only [List.length_cons];omega
 have i3:(0:Int) < ((98::ys).length:Int):=by simp only [List.length_cons];omega
 have i4:(1:Int)≤((98::ys).length:Int):=by simp only [List.length_cons];omega
 have i5:(((98::ys).length:Int) == 0)=false:=by simp only [List.length_cons];simp;omega
 clear hv hb hz hr1
 generalize (98::ys).length=nn at *
 go_enter Tryz.func13,Tryz.ntmps13
 go_wp2_with (with_reducible (show wpList _ _ _ (Oper.mk _ (Op.build _ _) _ _ _ _::_) _ _);refine pause ?_)
 unfold Paused
 change wpList _ _ _ _ _ (w.alloc (.cells zc0 51))
 refine wpList_buildK (by rfl) 51 _ (by rfl) [] (by simp) zc0 robj_empty ?_
 go_wp2_with (with_reducible (show wpList _ _ _ (Oper.mk _ (Op.store 51 _ _) _ _ _ _::_) _ _);refine pause ?_)
 unfold Paused
 change wpList _ _ _ _ _ ((w.alloc (.cells zc0 51)).alloc (.cells zc0 51))
 rw [e2]
 refine wpList_store_row rfl 51 (.tmp 4) (.tmp 10) rfl (w.heap.size+1) zc0 (by first | rfl | (simp;rfl)) rfl 51 zc0 HZ4.out (by kernel_rfl) rfl (by kernel_rfl) ?_
 rw [setRow_self w2 (w.heap.size+1) zc0 51 (0,0) HZ4.out]
 simp only [Act.put]
 go_wp2
 refine wp_region_held (S:=fun _=>True) (by kernel_rfl) ?_
 change wpAnyH _ _ _ _ _ _ _ _ w2.drew
 refine wpAnyH_take (i:=0) (v:=.agg zc0) rfl (by kernel_rfl) (by kernel_rfl) (by kernel_rfl) (fun _ _ _ h=>h) (takes_build 51 _ (by rfl) (by rfl) [] (by simp) zc0 robj_empty) trivial ?_
 try go_frame
 refine wpAnyH_take (i:=1) (v:=?_) rfl (by kernel_rfl) (by kernel_rfl) (by kernel_rfl) (fun _ _ _ h=>h) (Or.inl ⟨by rfl,?_⟩) trivial ?_
 rotate_left
 ·intro w' _;go_simp;with_reducible rfl
 try go_frame
 refine wpAnyH_take (i:=2) (v:=.slice A1 ys.length c1) rfl (by kernel_rfl) (by kernel_rfl) (by kernel_rfl) (fun _ _ _ h=>h) (takes_sliceL (.tmp 20) (.const (.int .i64 1)) (by rfl) (by rfl) _ _ _ (by rfl) (by rfl) q1) trivial ?_
 try go_frame
 refine all_one (i:=3) (by kernel_rfl) rfl (by rfl) (fun K hK=>?_)
 go_simp
 refine hK _ _ trivial ?_;clear hK K
 try go_frame
 have hsz:w2.heap.size=w.heap.size+2:=by rw [←e2];simp
 refine all_one (i:=4) (by kernel_rfl) rfl (by rfl) (fun K hK=>?_)
 refine wp_store_row 51 (.tmp 5) (.tmp 19) (by rfl) (w.heap.size+2) zc0 (by first | rfl | (rw [←hsz];rfl)) (by rfl) 51 zc0 HST.out.ob (by kernel_rfl) (by rfl) (by kernel_rfl) ?_
 change K _ (World.setRow (w2.drew.alloc (.cells zc0 51)) (w.heap.size+2) zc0)
 rw [setRow_self _ (w.heap.size+2) zc0 51 (0,0) HST.out.ob]
 refine hK _ _ trivial ?_;clear hK K
 try simp only [Act.put,List.getElem_toArray,List.getElem_cons_zero,List.getElem_cons_succ]
 refine all_one (i:=5) (by kernel_rfl) rfl (by rfl) (fun K hK=>?_)
 go_simp
 refine hK _ _ trivial ?_;clear hK K
 try go_frame
 refine wpAnyH_done (by kernel_rfl) ?_ _
 have HW:=HST
 try rw [show (w2.alloc (.cells zc0 51)).drew=w2.drew.alloc (.cells zc0 51) from rfl]
 generalize w2.drew.alloc (.cells zc0 51)=w6 at HW ⊢
 have x0:=hx0 w6 HW.out.bel
 clear hx0 q1 HST HZ2 HZ4 HB2 e2 hsz i1 i2 i4 i5
 generalize w.heap.size+2=g at HW ⊢
 have HWa:=Lib.hid (HW.out.cell 0 (.int .i64 1))
 rw [cellsOb_k0] at HWa
 have HWb:=Lib.hid (HWa.out.cell 1 (.slice A1 ys.length c1))
 rw [cellsOb_k1] at HWb
 have y0:w6.cell? ⟨g,0,none⟩=some (.int .i64 0):=HW.out.ob.cell 0
 have z0:=HW.out.ob.frozen 0
 have y1:(w6.setCell ⟨g,0,none⟩ (.int .i64 1)).cell? ⟨g,1,none⟩=some nilV:=HWa.out.ob.cell 1
 have z1:=HWa.out.ob.frozen 1
 go_wp2_with (with_reducible (show wpList _ _ _ (Oper.mk _ (Op.load 51 _) _ _ _ _::_) _ _);refine pause ?_)
 unfold Paused
 have HFT:Hid (Ob.Fit ⟨1,ys,[],zid,[]⟩):=Lib.hid ⟨byte_of HBY.out,fun _ h=>(by cases h),zid_id,fun _ h=>(by cases h)⟩
 have HHD:Hid (Ob.Held ⟨1,ys,[],zid,[]⟩):=Lib.hid ⟨fun _ h=>(by cases h),by have:=HYL.out;show ys.length≤_;omega⟩
 have HPR:Hid (Ob.parse (98::ys)=Prs.fin ⟨1,ys,[],zid,[]⟩):=Lib.hid rfl
 have HOR:Hid (ObR (g+1) w ((w6.setCell ⟨g,0,none⟩ (.int .i64 1)).setCell ⟨g,1,none⟩ (.slice A1 ys.length c1)) ⟨1,ys,[],zid,[]⟩ (cellsOb 1 (.slice A1 ys.length c1) nilV nilV zid).toArray A1 c1 none 0 none 0):=Lib.hid ⟨rfl,HR.out,World.ownsRow_nil _ _ _ _,World.ownsRow_nil _ _ _ _,by have:=HWb.out.gt;omega⟩
 generalize (w6.setCell ⟨g,0,none⟩ (.int .i64 1)).setCell ⟨g,1,none⟩ (.slice A1 ys.length c1)=w7 at HWb HOR ⊢
 refine wpList_row_w (by rfl) 51 (.tmp 5) (by rfl) g (by rfl) 51 (cellsOb 1 (.slice A1 ys.length c1) nilV nilV zid).toArray _ HWb.out.ob robj_under (by rfl) (by rw [cellsOb_size _ _ _ _ _ HFT.out.target.1];kernel_rfl) ?_
 have CR:=rright1 ys (cellsOb 1 (.slice A1 ys.length c1) nilV nilV zid).toArray _ _ _ _ _ _ w7 (HOR.out.obc HWb.out.bel) HFT.out HHD.out
 obtain ⟨br,hbr⟩:∃ br,br=Ob.right ⟨1,ys,[],zid,[]⟩:=⟨_,rfl⟩
 rw [←hbr] at CR
 have HBR:=Lib.hid hbr
 clear hbr
 go_wp2_with (go_at_call 29;refine pause ?_)
 unfold Paused
 refine CR.mono ?_
 rintro e w8 ⟨rfl,hb8⟩
 have HW8:=Lib.hid (HWb.out.below hb8)
 have HO8:=Lib.hid (HOR.out.below hb8)
 clear hb8 CR
 cases br
 ·have HPX:=Lib.hid (HPR.out.trans (show Prs.fin ⟨1,ys,[],zid,[]⟩=.bad 4 by unfold Prs.fin;rw [←HBR.out];rfl))
  go_wp2_with (with_reducible (show wpList _ _ _ (Oper.mk _ (Op.load 51 _) _ _ _ _::_) _ _);refine pause ?_)
  unfold Paused
  refine wpList_row_w (by rfl) 51 (.tmp 4) (by rfl) (w.heap.size+1) (by rfl) 51 zc0 _ HW8.out.non robj_under (by rfl) (by kernel_rfl) ?_
  go_wp2_with (with_reducible (show wpList _ _ _ (Oper.mk _ (Op.store 51 _ _) _ _ _ _::_) _ _);refine pause ?_)
  unfold Paused
  refine wpList_store_row (by rfl) 51 (.tmp 2) (.tmp 126) (by rfl) w.heap.size zc0 (by rfl) (by rfl) 51 zc0 HW8.out.res (by kernel_rfl) (by rfl) (by kernel_rfl) ?_
  rw [setRow_self _ w.heap.size zc0 51 (0,0) HW8.out.res]
  go_wp2
  exact bodyPost_ret (v:=.tuple #[.agg zc0,.int .i64 (4:Int)]) (results_cell_row2 rfl _ _ w.heap.size 51 zc0 _ _ (by rfl) (by rfl) HW8.out.res robj_under rfl (by kernel_rfl)) rfl (rpost_bad (c:=4) HPX.out HW8.out.bel rfl)
 ·have HPX:=Lib.hid (HPR.out.trans (show Prs.fin ⟨1,ys,[],zid,[]⟩=.ok ⟨1,ys,[],zid,[]⟩ by unfold Prs.fin;rw [←HBR.out];rfl))
  go_wp2_with (with_reducible (show wpList _ _ _ (Oper.mk _ (Op.load 51 _) _ _ _ _::_) _ _);refine pause ?_)
  unfold Paused
  refine wpList_row_w (by rfl) 51 (.tmp 5) (by rfl) g (by rfl) 51 (cellsOb 1 (.slice A1 ys.length c1) nilV nilV zid).toArray _ HW8.out.ob robj_under (by rfl) (by rw [cellsOb_size _ _ _ _ _ HFT.out.target.1];kernel_rfl) ?_
  go_wp2_with (with_reducible (show wpList _ _ _ (Oper.mk _ (Op.store 51 _ _) _ _ _ _::_) _ _);refine pause ?_)
  unfold Paused
  refine wpList_store_row (by rfl) 51 (.tmp 2) (.tmp 127) (by rfl) w.heap.size (cellsOb 1 (.slice A1 ys.length c1) nilV nilV zid).toArray (by rfl) (by rfl) 51 zc0 HW8.out.res (by rw [cellsOb_size _ _ _ _ _ HFT.out.target.1];kernel_rfl) (by rw [cellsOb_size _ _ _ _ _ HFT.out.target.1];rfl) (cellsOb_one _ _ _ _ _ _ _ _ _ _ _) ?_
  have HB9:=Lib.hid (HW8.out.res.row (cellsOb 1 (.slice A1 ys.length c1) nilV nilV zid).toArray)
  have HL9:=Lib.hid (below_row HW8.out.bel (Nat.le_refl _) (cellsOb 1 (.slice A1 ys.length c1) nilV nilV zid).toArray)
  have HO9:=Lib.hid (HO8.out.only (show w.heap.size < g+1 by have:=HW8.out.gt;omega) (show w8.grownBy (w8.setRow w.heap.size (cellsOb 1 (.slice A1 ys.length c1) nilV nilV zid).toArray) (some w.heap.size) from only_setRow (World.grownBy.refl w8 _) (Or.inl rfl) _))
  generalize w8.setRow w.heap.size (cellsOb 1 (.slice A1 ys.length c1) nilV nilV zid).toArray=w9 at HB9 HL9 HO9 ⊢
  go_wp2
  exact bodyPost_ret (v:=.tuple #[.agg (cellsOb 1 (.slice A1 ys.length c1) nilV nilV zid).toArray,.int .i64 0]) (results_cell_row2 rfl _ _ w.heap.size 51 (cellsOb 1 (.slice A1 ys.length c1) nilV nilV zid).toArray _ _ (by rfl) (by rfl) HB9.out robj_under rfl (by rw [cellsOb_size _ _ _ _ _ HFT.out.target.1];kernel_rfl)) rfl (rpost_ok HPX.out HL9.out rfl HFT.out HHD.out (HO9.out.obcr HL9.out))
end Go.Proofs.YtndgadjeeinedaaGreatDoor
