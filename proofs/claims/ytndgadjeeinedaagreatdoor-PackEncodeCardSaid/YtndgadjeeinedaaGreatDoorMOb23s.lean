/- octets.Take of an object whose reading ends by an error. -/
import Derived.Test.YtndgadjeeinedaaGreatDoorMOb18s
set_option maxRecDepth 100000
namespace Go.Proofs.YtndgadjeeinedaaGreatDoor
open Go Go.RowKit
theorem wpn {P:Program} {C:Code} {Q:Exit→Act→World→Prop} {a:Act} {w:World} (h:C.wp P (fun e a w=>e=.normal∧Q .normal a w) a w):C.wp P Q a w:=
 Code.wp_mono (fun e a w h=>by rw [h.1];exact h.2) h
set_option maxHeartbeats 1000000 in
theorem takeO_bad (K:Nat) (cap:Array Value) (w0 w:World) (A:Option Addr) (n c:Nat) (xs:List Nat) (ae:Addr) (hK:∀ args w,(callFunc K args).run Tryz.prog w=.ok (.enter K args) w)
  (hw:Below w0.heap.size w0 w) (hv:Rd w0 (.slice A n c) xs)
  (hread:∀ (w2:World) (i r:Nat),w.heap.size≤r→w.heap.size≤i→InAt w0 w2 i r xs→Below w.heap.size w w2 →
   Calls Tryz.prog K (#[.pointer (some ⟨i,0,none⟩)]++cap) w2 fun e w'=>e=.panicked [{ v:=stopV r,recovered:=false }]∧Dead w' r (ev ae)∧Kpt (fun b=>b=r) w2 w') :
  Calls Tryz.prog 69 #[.slice A n c,.func (.func K) #[] cap] w fun e w'=>e=.returned (.tuple #[.agg zOc,ev ae])∧Below w.heap.size w w':=by
 have hmf:∀ (fn:Fn) (first cap:Array Value) (w:World),(Instr.makeFunc fn first cap).run Tryz.prog w=.ok (.func fn first cap) w:=fun _ _ _ _=>rfl
 obtain ⟨u,hu⟩:∃ u,u=wzO w:=⟨_,rfl⟩
 have us:u.heap.size=w.heap.size+2:=by rw [hu];simp
 have ub:Below w.heap.size w u:=hu▸((Below.refl _ _).alloc (Nat.le_refl _) _).alloc (by simp) _
 have hw':Below w0.heap.size w0 u:=below_then hw ub
 have v2:Blk (runBoxO (takeBox u (.slice A n c)) u.heap.size) (takeBox u (.slice A n c)).heap.size 133 #[.pointer (some ⟨u.heap.size,0,none⟩)]:=((Blk.new (takeBox u (.slice A n c)) _ _).alloc _).alloc _
 have CR:=runO_bad K cap u.heap.size (takeBox u (.slice A n c)) (fun w'=>Dead w' u.heap.size (ev ae)∧Kpt (fun b=>b=u.heap.size) (runBoxO (takeBox u (.slice A n c)) u.heap.size) w') hK
  ((hread (runBoxO (takeBox u (.slice A n c)) u.heap.size) ((takeBox u (.slice A n c)).heap.size+2) u.heap.size (by omega) (by rw [takeBox_size];omega) (inAtO_run hw' hv) (ub.trans ((belowO_run u _).mono (by omega)))).mono fun e w' ⟨he,hd,hk⟩=>⟨he,hk.blk (resO_run u _) (by rw [takeBox_size];omega),hd,hk⟩)
  (fun a h=>(h.2.blk v2 (by rw [takeBox_size];omega)).cell 0) (fun a b h k=>⟨h.1.grown k,h.2.trans (Kpt.of_below k)⟩)
 have HT:Hid ((((w.alloc (.cells zOc 101)).alloc (.cells zOc 101)).alloc (.cells #[.slice A n c,.bool true,.bool false,.nilIface] 135)).alloc (.cells #[.pointer (some ⟨w.heap.size+1+1,0,none⟩)] 133)=takeBox u (.slice A n c)):=Lib.hid (by
  show _=(u.alloc _).alloc (.cells #[.pointer (some ⟨u.heap.size,0,none⟩)] _)
  rw [us,hu])
 rw [us] at CR
 have HU:=Lib.hid hu
 clear hread hw hv hw' v2
 go_enter_defers Tryz.func69,Tryz.ntmps69
 go_wp2_with (go_at_call 85;refine pause ?_)
 unfold Paused
 change Calls _ _ _ ((((w.alloc (.cells zOc 101)).alloc (.cells zOc 101)).alloc (.cells #[.slice A n c,.bool true,.bool false,.nilIface] 135)).alloc (.cells #[.pointer (some ⟨w.heap.size+1+1,0,none⟩)] 133)) _
 rw [HT.out]
 refine CR.mono ?_
 rintro e w5 ⟨rfl,hd,hk⟩
 have hX:Below w.heap.size w (runBoxO (takeBox u (.slice A n c)) u.heap.size):=ub.trans ((belowO_run u _).mono (by omega))
 have hz4:Blk u w.heap.size 101 zOc:=by rw [HU.out];exact (Blk.new w 101 zOc).alloc _
 have hz6:Blk u (w.heap.size+1) 101 zOc:=by
  rw [HU.out]
  have h:=Blk.new (w.alloc (.cells zOc 101)) 101 zOc
  rwa [World.size_alloc] at h
 have hXb:=belowO_run u (.slice A n c)
 have hvr:=varO_run u (.slice A n c)
 rw [us] at hXb hX hvr
 have B4:Blk w5 w.heap.size 101 zOc:=hk.blk (hz4.below hXb (by omega)) (by omega)
 have B6:Blk w5 (w.heap.size+1) 101 zOc:=hk.blk (hz6.below hXb (by omega)) (by omega)
 have B7:Blk w5 (w.heap.size+3) 133 #[.pointer (some ⟨w.heap.size+2,0,none⟩)]:=hk.blk hvr (by omega)
 obtain ⟨vd,hd⟩:=hd
 have KA:Kpt (fun b=>w.heap.size≤b) (runBoxO (takeBox u (.slice A n c)) (w.heap.size+2)) w5:=⟨hk.os,hk.tape,hk.output,hk.size,fun b hb hn=>hk.block b hb (by omega)⟩
 have HB4:=Lib.hid B4
 have HB6:=Lib.hid B6
 have HB7:=Lib.hid B7
 have HBR:=Lib.hid hd
 have HKA:=Lib.hid KA
 have HXX:=Lib.hid hX
 have hm:Tryz.prog.follows .mixedOrders=true:=by kernel_rfl
 clear hd hk B4 B6 B7 KA hX hXb hvr hz4 hz6 CR ub us hu
 go_wp2_with (with_reducible (show wpList _ _ _ (Oper.mk _ (Op.store 101 _ _) _ _ _ _::_) _ _);refine pause ?_)
 unfold Paused
 change wpList _ _ _ _ _ (w5.alloc (.cells zOc 101))
 refine wpList_store_row (by rfl) 101 (.tmp 8) (.tmp 15) (by rfl) w5.heap.size zOc (by rfl) (by rfl) 101 zOc (Blk.new w5 _ _) (by kernel_rfl) (by rfl) (by kernel_rfl) ?_
 have b6:Below w5.heap.size w5 ((w5.alloc (.cells zOc 101)).setRow w5.heap.size zOc):=below_row ((Below.refl _ _).alloc (Nat.le_refl _) _) (Nat.le_refl _) _
 have HBB:=Lib.hid b6
 generalize (w5.alloc (.cells zOc 101)).setRow w5.heap.size zOc=w6 at b6 HBB ⊢
 have p0:w6.cell? ⟨w.heap.size+3,0,none⟩=some (.pointer (some ⟨w.heap.size+2,0,none⟩)):=(HB7.out.below b6 HB7.out.lt).cell 0
 have p1:w6.cell? ⟨w.heap.size+2,2,none⟩=some (.bool true):=(HBR.out.below b6 HBR.out.lt).cell 2
 have p2:w6.cell? ⟨w.heap.size+2,3,none⟩=some (ev ae):=(HBR.out.below b6 HBR.out.lt).cell 3
 have HB46:=Lib.hid (HB4.out.below b6 HB4.out.lt)
 have HB66:=Lib.hid (HB6.out.below b6 HB6.out.lt)
 have HBR6:=Lib.hid (HBR.out.below b6 HBR.out.lt)
 clear b6
 simp only [Act.put]
 go_wp2
 refine wpn ?_
 refine wp_region_held (S:=fun w'=>w'=w6.drew) hm ?_
 change wpAnyH _ _ _ _ _ _ _ _ w6.drew
 refine wpAnyH_take (i:=0) (v:=.agg zOc) rfl (by kernel_rfl) (by kernel_rfl) (by kernel_rfl) (fun _ _ _ h=>by cases h.1) (takes_row 101 (.tmp 6) (by rfl) (by rfl) (w.heap.size+1) (by rfl) 101 zOc _ (fun w' hw=>by rw [hw];exact HB66.out.drew) Tryz.underlying101 (by rfl) (by kernel_rfl)) rfl ?_
 try simp only [Act.put,List.getElem_toArray,List.getElem_cons_zero,List.setIfInBounds_toArray,List.set_cons_zero,List.set_cons_succ]
 refine wpAnyH_take (i:=1) (v:=?_) rfl (by kernel_rfl) (by kernel_rfl) (by kernel_rfl) (fun _ _ _ h=>by cases h.1) (Or.inl ⟨by rfl,?_⟩) rfl ?_
 rotate_left
 ·rintro w' rfl;go_simp;with_reducible rfl
 try simp only [Act.put,List.getElem_toArray,List.getElem_cons_zero,List.getElem_cons_succ,List.setIfInBounds_toArray,List.set_cons_zero,List.set_cons_succ]
 refine wpAnyH_take (i:=2) (v:=?_) rfl (by kernel_rfl) (by kernel_rfl) (by kernel_rfl) (fun _ _ _ h=>by cases h.1) (Or.inl ⟨by rfl,?_⟩) rfl ?_
 rotate_left
 ·rintro w' rfl;go_simp;with_reducible rfl
 try simp only [Act.put,List.getElem_toArray,List.getElem_cons_zero,List.getElem_cons_succ,List.setIfInBounds_toArray,List.set_cons_zero,List.set_cons_succ]
 refine wpAnyH_take (i:=3) (v:=?_) rfl (by kernel_rfl) (by kernel_rfl) (by kernel_rfl) (fun _ _ _ h=>by cases h.1) (Or.inl ⟨by rfl,?_⟩) rfl ?_
 rotate_left
 ·rintro w' rfl;go_simp;with_reducible rfl
 try simp only [Act.put,List.getElem_toArray,List.getElem_cons_zero,List.getElem_cons_succ,List.setIfInBounds_toArray,List.set_cons_zero,List.set_cons_succ]
 refine wpAnyH_take (i:=4) (v:=?_) rfl (by kernel_rfl) (by kernel_rfl) (by kernel_rfl) (fun _ _ _ h=>by cases h.1) (Or.inl ⟨by rfl,?_⟩) rfl ?_
 rotate_left
 ·rintro w' rfl;go_simp;with_reducible rfl
 try simp only [Act.put,List.getElem_toArray,List.getElem_cons_zero,List.getElem_cons_succ,List.setIfInBounds_toArray,List.set_cons_zero,List.set_cons_succ]
 refine all_one (i:=5) (by kernel_rfl) rfl (by rfl) (fun K hK=>?_)
 refine wp_store_row 101 (.tmp 4) (.tmp 20) (by rfl) w.heap.size zOc (by rfl) (by rfl) 101 zOc HB46.out.drew (by kernel_rfl) (by rfl) (by kernel_rfl) ?_
 rw [setRow_self w6.drew w.heap.size zOc 101 (0,0) HB46.out.drew]
 refine hK _ _ rfl ?_
 try simp only [Act.put,List.getElem_toArray,List.getElem_cons_zero,List.getElem_cons_succ]
 refine all_one (i:=6) (by kernel_rfl) rfl (by rfl) (fun K hK=>?_)
 go_simp
 refine hK _ _ rfl ?_
 try simp only [Act.put,List.getElem_toArray,List.getElem_cons_zero,List.getElem_cons_succ,List.setIfInBounds_toArray,List.set_cons_zero,List.set_cons_succ]
 refine wpAnyH_done (by kernel_rfl) ?_ _
 refine ⟨rfl,?_⟩
 have q0:w6.drew.cell? ⟨w.heap.size+3,0,none⟩=some (.pointer (some ⟨w.heap.size+2,0,none⟩)):=p0
 clear p0 p1 p2
 go_wp2
 refine leaves_cons (f:=84) (args:=#[.pointer (some ⟨w.heap.size+3,0,none⟩)]) (by simp) (by simp [go_sem]) ?_
 refine (closeO_any (w.heap.size+3) (w.heap.size+2) _ _ _ _ w6.drew q0 HBR6.out.drew).mono ?_
 rintro e u' w8 ⟨rfl,rfl,hg8⟩
 have KB:Kpt (fun b=>w.heap.size≤b) (runBoxO (takeBox u (.slice A n c)) (w.heap.size+2)) w8:=((HKA.out.trans (Kpt.of_below HBB.out)).trans (Kpt.of_below (below_drewN (Below.refl _ w6) 1))).trans (Kpt.of_grown hg8 (by omega))
 have hbl:Below w.heap.size w w8:=HXX.out.trans ⟨KB.os,KB.tape,KB.output,KB.size,fun k hk=>KB.block k (Nat.lt_of_lt_of_le hk HXX.out.size) (by omega)⟩
 exact ⟨_,resultsO2 (t:=4) (s:=5) rfl (by rfl) (HB46.out.drew.grown hg8 (fun e=>by injection e with e;omega)) (by rfl),rfl,hbl⟩
theorem own_ne' {w:World} {B n z r:Nat} {v:Value} {cs:List Value} {e:TypeId} (h:w.ownsRow B e z v n cs) (hr:r < B):some r≠v.ownBlock:=fun e=>by
 have:=(h.lt r e.symm).1
 omega
theorem own_far {w:World} {B n z r:Nat} {v:Value} {cs:List Value} {e:TypeId} (h:w.ownsRow B e z v n cs) (hr:r < B):v.ownBlock=none∨v.ownBlock≠some r:=by
 cases hv:v.ownBlock with
 | none=>exact Or.inl rfl
 | some g=>exact Or.inr (fun e=>own_ne' h hr (by rw [hv,e]))
structure NX (w0 wf w:World) (i r:Nat) (v:Value) (k:Nat) (zs ys:List Nat):Prop where
 at_:InAt w0 w i r ys
 row:w.ownsRow wf.heap.size 5 1 v k (cellsB zs)
 grw:wf.grownBy w (some r)
 old:r < wf.heap.size∧i < wf.heap.size∧w0.heap.size≤wf.heap.size
section
variable {w0 wf w w':World} {i r k:Nat} {v:Value} {zs ys:List Nat}
theorem NX.start (h:InAt w0 w i r ys):NX w0 w w i r nilV 0 [] ys:=by
 have h2:=h
 obtain ⟨v,k,hr,hw,h1,h3⟩:=h2
 exact ⟨h,World.ownsRow_nil _ _ _ _,World.grownBy.refl w _,k.r_.lt,k.i_.lt,hw.size⟩
theorem NX.read (h:NX w0 wf w i r v k zs ys) (hg:w.grownBy w' (some r)) {us:List Nat} (hi:InAt w0 w' i r us):NX w0 wf w' i r v k zs us:=
 ⟨hi,h.row.kept hg (own_far h.row h.old.1),only_trans h.grw hg,h.old⟩
theorem NX.below (h:NX w0 wf w i r v k zs ys) (hb:Below w.heap.size w w'):NX w0 wf w' i r v k zs ys:=
 ⟨h.at_.below hb,h.row.kept (only_of_below hb none) (by cases hv:v.ownBlock with | none=>exact Or.inl rfl | some g=>exact Or.inr (by simp)),only_trans h.grw (only_of_below hb _),h.old⟩
theorem NX.app (h:NX w0 wf w i r v k zs ys) {v2:Value} {k2:Nat} {us:List Nat} (ho:w'.ownsRow wf.heap.size 5 1 v2 k2 (cellsB us)) (hg:w.grownBy w' v.ownBlock):NX w0 wf w' i r v2 k2 us ys:=by
 have n1:=own_ne' h.row h.old.1
 have n2:=own_ne' h.row h.old.2.1
 obtain ⟨u,a,hr,hw,h1,h2⟩:=h.at_
 refine ⟨⟨u,⟨a.i_.grown hg n2,a.r_.grown hg n1,a.ne⟩,hr,below_own hw h.row h.old.2.2 hg,h1,h2⟩,ho,?_,h.old⟩
 refine ⟨hg.os.trans h.grw.os,hg.tape.trans h.grw.tape,hg.output.trans h.grw.output,Nat.le_trans h.grw.size hg.size,fun j hj hne=>?_⟩
 rw [hg.block j (Nat.lt_of_lt_of_le hj h.grw.size) (own_ne' h.row hj)]
 exact h.grw.block j hj hne
end
theorem val_one (x:Nat) (ys:List Nat):Oc.val ((x::ys).take 1)=x:=by simp [Oc.val]
theorem ibyte_ok (i r x:Nat) (ys:List Nat) (w0 w:World) (h:InAt w0 w i r (x::ys)) (hb:Oc.bytes (x::ys)) :
  Calls Tryz.prog 41 #[.pointer (some ⟨i,0,none⟩),.int .u8 98] w fun e w'=>e=.returned (.int .i64 ((x:Nat):Int))∧InAt w0 w' i r ys∧w.grownBy w' (some r):=by
 have hx:=hb x (List.mem_cons_self ..)
 have h1:=inum_ok i r 98 1 (x::ys) w0 w h rfl (by decide) (by decide) (by simp) hb (by rw [val_one];show x≤255;omega) rfl
 rw [val_one] at h1
 exact h1
theorem ibyte_short (i r:Nat) (aS:Addr) (w0 w:World) (h:InAt w0 w i r []) (hS:w0.cell? ⟨3,0,none⟩=some (ev aS)) :
  Calls Tryz.prog 41 #[.pointer (some ⟨i,0,none⟩),.int .u8 98] w (Fails w r (ev aS)):=
 inum_short i r 98 1 aS [] w0 w h rfl (by decide) (by simp) ((h.bel.1.cell (block_lt_of_cell hS)).trans hS)
theorem small_conv (x:Nat) (h:x < 256):IntKind.u8.wrap (x:Int)=(x:Int):=by show ((x:Int)) % 256=_;omega
theorem drop_at {xs:List Nat} {k:Nat} (h:k < xs.length):xs.drop k=xs.getD k 0::xs.drop (k+1):=by
 rw [List.drop_eq_getElem_cons h];simp [List.getD,h]
theorem take_at {xs:List Nat} {k:Nat} (h:k < xs.length):xs.take (k+1)=xs.take k++[xs.getD k 0]:=by
 rw [List.take_succ_eq_append_getElem h];simp [List.getD,h]
def NRel (xs:List Nat) (w0 wf wr:World) (i r:Nat) (v:Value) (k:Nat):Prop:=NX w0 wf wr i r v k (xs.take k) (xs.drop k)
set_option maxHeartbeats 1000000 in
theorem onext_ok (i r n:Nat) (xs:List Nat) (w0 w:World) (h:InAt w0 w i r xs) (hb:Oc.bytes xs) (hn:n≤xs.length) (hz:n≤1000000) :
  Calls Tryz.prog 86 #[.pointer (some ⟨i,0,none⟩),.int .i64 (n:Int)] w fun e w'=>∃ v,e=.returned v∧w'.ownsRow w.heap.size 5 1 v n (cellsB (xs.take n))∧InAt w0 w' i r (xs.drop n)∧w.grownBy w' (some r):=by
 have HX:Hid (NRel xs w0 w w i r nilV 0):=Lib.hid (NX.start h)
 have HB:=Lib.hid hb
 have HN:=Lib.hid hn
 clear h hb hn
 go_enter Tryz.func86,Tryz.ntmps86
 go_wp2
 go_loopw [5,7] (fun v j wr=>∃ k:Nat,k≤n∧j=.int .i64 k∧Hid (NRel xs w0 w wr i r v k)) (fun _ j _=>n - (intOf j).toNat)
 case atStart=>exact ⟨0,Nat.zero_le _,rfl,HX⟩
 case round=>
  obtain ⟨k,hk,rfl,HR⟩:=hrel
  by_cases hlt:k < n
  ·have HA:=HR.out.at_
   rw [drop_at (by have:=HN.out;omega)] at HA
   have HC:=Lib.hid (show Oc.bytes (xs.getD k 0::xs.drop (k+1)) from by rw [←drop_at (by have:=HN.out;omega)];exact Oc.bytes_drop HB.out k)
   have HTK:=Lib.hid (take_at (xs:=xs) (k:=k) (by have:=HN.out;omega))
   have HLK:=Lib.hid (show (xs.take k).length=k from by rw [List.length_take];have:=HN.out;omega)
   have HRd:Hid (NX w0 w wr i r u5 k (xs.take k) (xs.drop k)):=Lib.hid HR.out
   generalize xs.getD k 0=x at HA HC HTK
   have CN:=ibyte_ok i r x (xs.drop (k+1)) w0 wr HA HC.out
   have q1:=small_conv x (HC.out x (List.mem_cons_self ..))
   have i1:((k:Nat):Int) < n:=by omega
   have i2:(0:Int)≤((k:Nat):Int):=by omega
   have i3:((k:Nat):Int) < 1000000:=by omega
   clear HA
   go_wp2_with (first
    | (go_at_call 41;refine CN.mono ?_;rintro e w1 ⟨rfl,hi,hg⟩;have HY:=Lib.hid (HRd.out.read hg hi);clear hi hg)
    | (with_reducible (show wpList _ _ _ (Oper.mk _ (Op.call (Call.mk (Callee.builtin Builtin.append) _ _)) _ _ _ _::_) _ _);refine pause ?_))
   unfold Paused
   change wpList _ _ _ _ _ (w1.alloc (.cells (u8s [x]) 5))
   have hbb:Below w1.heap.size w1 (w1.alloc (.cells (u8s [x]) 5)):=(Below.refl _ _).alloc (Nat.le_refl _) _
   have HZ:=Lib.hid (HY.out.below hbb)
   have HRb:Hid (Rd (w1.alloc (.cells (u8s [x]) 5)) (.slice (some ⟨w1.heap.size,0,none⟩) 1 1) [x]):=Lib.hid (rd_of_lit w1 [x] _ (by simp))
   clear hbb
   generalize w1.alloc (.cells (u8s [x]) 5)=w2 at HZ HRb ⊢
   generalize w1.heap.size=gs at HRb ⊢
   have HROW:Hid (w2.ownsRow w.heap.size 5 1 u5 (xs.take k).length (cellsB (xs.take k))):=Lib.hid (by rw [HLK.out];exact HZ.out.row)
   refine wpList_appendB (by rfl) (.tmp 9) (.tmp 13) (by rfl) w.heap.size _ (xs.take k) (by rfl) HROW.out HZ.out.grw.size _ (by rfl) [x] HRb.out (by rw [HLK.out];simp only [List.length_cons,List.length_nil];omega) ?_
   intro v2 w3 ho hg
   have HN2:Hid (NRel xs w0 w w3 i r v2 (k+1)):=Lib.hid (by
    unfold NRel
    rw [HTK.out]
    have h:=ho
    rw [List.length_append,HLK.out] at h
    exact HZ.out.app h hg)
   clear ho hg
   go_wp2
   go_roundw
   case rel=>exact ⟨k+1,by omega,by go_num,HN2⟩
   case measure=>simp [intOf];omega
  ·obtain rfl:k=n:=by omega
   go_wp2
   go_ret
   exact ⟨_,rfl,HR.out.row,HR.out.at_,HR.out.grw⟩
set_option maxHeartbeats 1000000 in
theorem onext_short (i r n:Nat) (aS:Addr) (xs:List Nat) (w0 w:World) (h:InAt w0 w i r xs) (hb:Oc.bytes xs) (hn:xs.length < n) (hz:n≤1000000) (hS:w0.cell? ⟨3,0,none⟩=some (ev aS)) :
  Calls Tryz.prog 86 #[.pointer (some ⟨i,0,none⟩),.int .i64 (n:Int)] w (Fails w r (ev aS)):=by
 have HX:Hid (NRel xs w0 w w i r nilV 0):=Lib.hid (NX.start h)
 have HB:=Lib.hid hb
 have HN:=Lib.hid hn
 have HS:=Lib.hid hS
 clear h hb hn hS
 go_enter Tryz.func86,Tryz.ntmps86
 go_wp2
 go_loopw [5,7] (fun v j wr=>∃ k:Nat,k≤xs.length∧j=.int .i64 k∧Hid (NRel xs w0 w wr i r v k)) (fun _ j _=>n - (intOf j).toNat)
 case atStart=>exact ⟨0,Nat.zero_le _,rfl,HX⟩
 case round=>
  obtain ⟨k,hk,rfl,HR⟩:=hrel
  have i1:((k:Nat):Int) < n:=by have:=HN.out;omega
  have i2:(0:Int)≤((k:Nat):Int):=by omega
  have i3:((k:Nat):Int) < 1000000:=by omega
  by_cases hlt:k < xs.length
  ·have HA:=HR.out.at_
   rw [drop_at hlt] at HA
   have HC:=Lib.hid (show Oc.bytes (xs.getD k 0::xs.drop (k+1)) from by rw [←drop_at hlt];exact Oc.bytes_drop HB.out k)
   have HTK:=Lib.hid (take_at hlt)
   have HLK:=Lib.hid (show (xs.take k).length=k from by rw [List.length_take];omega)
   have HRd:Hid (NX w0 w wr i r u5 k (xs.take k) (xs.drop k)):=Lib.hid HR.out
   have HK1:=Lib.hid (show k+1≤xs.length from hlt)
   generalize xs.getD k 0=x at HA HC HTK
   have CN:=ibyte_ok i r x (xs.drop (k+1)) w0 wr HA HC.out
   have q1:=small_conv x (HC.out x (List.mem_cons_self ..))
   clear HA hlt hk
   go_wp2_with (first
    | (go_at_call 41;refine CN.mono ?_;rintro e w1 ⟨rfl,hi,hg⟩;have HY:=Lib.hid (HRd.out.read hg hi);clear hi hg)
    | (with_reducible (show wpList _ _ _ (Oper.mk _ (Op.call (Call.mk (Callee.builtin Builtin.append) _ _)) _ _ _ _::_) _ _);refine pause ?_))
   unfold Paused
   change wpList _ _ _ _ _ (w1.alloc (.cells (u8s [x]) 5))
   have hbb:Below w1.heap.size w1 (w1.alloc (.cells (u8s [x]) 5)):=(Below.refl _ _).alloc (Nat.le_refl _) _
   have HZ:=Lib.hid (HY.out.below hbb)
   have HRb:Hid (Rd (w1.alloc (.cells (u8s [x]) 5)) (.slice (some ⟨w1.heap.size,0,none⟩) 1 1) [x]):=Lib.hid (rd_of_lit w1 [x] _ (by simp))
   clear hbb
   generalize w1.alloc (.cells (u8s [x]) 5)=w2 at HZ HRb ⊢
   generalize w1.heap.size=gs at HRb ⊢
   have HROW:Hid (w2.ownsRow w.heap.size 5 1 u5 (xs.take k).length (cellsB (xs.take k))):=Lib.hid (by rw [HLK.out];exact HZ.out.row)
   refine wpList_appendB (by rfl) (.tmp 9) (.tmp 13) (by rfl) w.heap.size _ (xs.take k) (by rfl) HROW.out HZ.out.grw.size _ (by rfl) [x] HRb.out (by rw [HLK.out];simp only [List.length_cons,List.length_nil];omega) ?_
   intro v2 w3 ho hg
   have HN2:Hid (NRel xs w0 w w3 i r v2 (k+1)):=Lib.hid (by
    unfold NRel
    rw [HTK.out]
    have h:=ho
    rw [List.length_append,HLK.out] at h
    exact HZ.out.app h hg)
   clear ho hg
   go_wp2
   go_roundw
   case rel=>exact ⟨k+1,HK1.out,by go_num,HN2⟩
   case measure=>simp [intOf];omega
  ·have HA:=HR.out.at_
   rw [List.drop_of_length_le (by omega)] at HA
   have CN:=ibyte_short i r aS w0 wr HA HS.out
   clear HA
   go_wp2_with (go_at_call 41;refine CN.mono ?_;rintro e w1 ⟨rfl,hd,hg⟩)
   exact ⟨rfl,rfl,hd,only_trans HR.out.grw hg⟩
end Go.Proofs.YtndgadjeeinedaaGreatDoor
/- Which object bytes are (said plainly), and what stands while object.read reads it. -/
namespace Go.Proofs.YtndgadjeeinedaaGreatDoor
open Go Go.RowKit
def zid:List Nat:=List.replicate 32 0
theorem zid_id:Id32 zid:=⟨by simp [zid],fun i=>by
 unfold zid
 rw [List.getD_eq_getElem?_getD,List.getElem?_replicate]
 split<;>simp⟩
def entOf (n:Nat) (ys:List Nat):Ent:=⟨textOf (ys.take n),(ys.drop n).take 32⟩
def entsGo:Nat→List Ent→List Nat→Option (List Ent)
 | _,es,[]=>some es
 | 0,_,_::_=>none
 | f+1,es,n::ys=>if ys.length < n+32 then none else entsGo f (es++[entOf n ys]) (ys.drop (n+32))
theorem entsGo_more:∀ (f f':Nat) (es:List Ent) (ys:List Nat),ys.length≤f→ys.length≤f'→entsGo f es ys=entsGo f' es ys
 | f,f',es,[],_,_=>by cases f<;>cases f'<;>rfl
 | 0,_,_,_::_,h,_=>by simp at h
 | _,0,_,_::_,_,h=>by simp at h
 | f+1,f'+1,es,n::ys,h,h'=>by
  unfold entsGo
  split
  ·rfl
  ·exact entsGo_more f f' _ _ (by rw [List.length_drop];simp at h;omega) (by rw [List.length_drop];simp at h';omega)
def entsOf (es:List Ent) (ys:List Nat):Option (List Ent):=entsGo ys.length es ys
theorem entsOf_nil (es:List Ent):entsOf es []=some es:=rfl
theorem entsOf_short {es:List Ent} {n:Nat} {ys:List Nat} (h:ys.length < n+32):entsOf es (n::ys)=none:=by
 unfold entsOf
 rw [List.length_cons,entsGo,if_pos h]
theorem entsOf_next {es:List Ent} {n:Nat} {ys:List Nat} (h:n+32≤ys.length):entsOf es (n::ys)=entsOf (es++[entOf n ys]) (ys.drop (n+32)):=by
 unfold entsOf
 rw [List.length_cons,entsGo,if_neg (by omega)]
 exact entsGo_more _ _ _ _ (by rw [List.length_drop];omega) (Nat.le_refl _)
def parsGo:Nat→List (List Nat)→List Nat→Option (List (List Nat)×List Nat)
 | 0,ps,ys=>some (ps,ys)
 | n+1,ps,ys=>if ys.length < 32 then none else parsGo n (ps++[ys.take 32]) (ys.drop 32)
inductive Prs where
 | bad (e:Nat)
 | ok (o:Ob)
noncomputable def Prs.fin (o:Ob):Prs:=if o.right then .ok o else .bad 4
noncomputable def Ob.parse:List Nat→Prs
 | []=>.bad 2
 | c::ys=>
  if c=98 then Prs.fin ⟨1,ys,[],zid,[]⟩
  else if c=116 then (match entsOf [] ys with | none=>.bad 2 | some es=>Prs.fin ⟨2,[],es,zid,[]⟩)
  else if c=99 then (if ys.length < 33 then .bad 2 else match parsGo (ys.getD 32 0) [] (ys.drop 33) with | none=>.bad 2 | some q=>Prs.fin ⟨3,q.2,[],ys.take 32,q.1⟩)
  else if c=103 then (if ys.length < 32 then .bad 2 else Prs.fin ⟨4,ys.drop 32,[],ys.take 32,[]⟩)
  else .bad 7
structure Rst (w0 w w':World) (i r g:Nat) (cs:Array Value) (ys:List Nat):Prop where
 at_:InAt w0 w' i r ys
 ob:Blk w' g 101 cs
 res:Blk w' w.heap.size 101 zOc
 kpt:Kpt (fun b=>b=r) w w'
 old:r < w.heap.size∧i < w.heap.size
 gt:w.heap.size < g
section
variable {w0 w w' w'':World} {i r g:Nat} {cs:Array Value} {ys zs:List Nat}
theorem Rst.read (h:Rst w0 w w' i r g cs ys) (hg:w'.grownBy w'' (some r)) (hi:InAt w0 w'' i r zs):Rst w0 w w'' i r g cs zs:=
 ⟨hi,h.ob.grown hg (fun e=>by injection e with e;have:=h.gt;have:=h.old.1;omega),h.res.grown hg (fun e=>by injection e with e;have:=h.old.1;omega),h.kpt.trans (Kpt.of_grown hg rfl),h.old,h.gt⟩
theorem Rst.below (h:Rst w0 w w' i r g cs ys) (hb:Below w'.heap.size w' w''):Rst w0 w w'' i r g cs ys:=
 ⟨h.at_.below hb,h.ob.below hb h.ob.lt,h.res.below hb h.res.lt,h.kpt.trans (Kpt.of_below hb),h.old,h.gt⟩
theorem Rst.put (h:Rst w0 w w' i r g cs ys) (hg:w'.grownBy w'' (some g)) {cs2:Array Value} (hb:Blk w'' g 101 cs2):Rst w0 w w'' i r g cs2 ys:=by
 obtain ⟨v,k,hr,hw,h1,h2⟩:=h.at_
 have:=h.gt
 have:=h.old.1
 have:=h.old.2
 refine ⟨⟨v,⟨k.i_.grown hg (fun e=>by injection e with e;omega),k.r_.grown hg (fun e=>by injection e with e;omega),k.ne⟩,hr,below_of_only hw hg (by omega),h1,h2⟩,hb,h.res.grown hg (fun e=>by injection e with e;omega),?_,h.old,h.gt⟩
 exact ⟨hg.os.trans h.kpt.os,hg.tape.trans h.kpt.tape,hg.output.trans h.kpt.output,Nat.le_trans h.kpt.size hg.size,fun b hb hs=>(hg.block b (Nat.lt_of_lt_of_le hb h.kpt.size) (fun e=>by injection e with e;omega)).trans (h.kpt.block b hb hs)⟩
theorem Rst.own (h:Rst w0 w w' i r g cs ys) {B n z:Nat} {e:TypeId} {v:Value} {us:List Value} (ho:w'.ownsRow B e z v n us) (hB:g < B) (hg:w'.grownBy w'' v.ownBlock):Rst w0 w w'' i r g cs ys:=by
 have n0:∀ x,x < B→some x≠v.ownBlock:=fun x hx=>own_ne' ho hx
 obtain ⟨u,k,hr,hw,h1,h2⟩:=h.at_
 have:=h.gt
 have:=h.old.1
 have:=h.old.2
 refine ⟨⟨u,⟨k.i_.grown hg (n0 _ (by omega)),k.r_.grown hg (n0 _ (by omega)),k.ne⟩,hr,below_own hw ho (by omega) hg,h1,h2⟩,h.ob.grown hg (n0 _ hB),h.res.grown hg (n0 _ (by omega)),?_,h.old,h.gt⟩
 exact ⟨hg.os.trans h.kpt.os,hg.tape.trans h.kpt.tape,hg.output.trans h.kpt.output,Nat.le_trans h.kpt.size hg.size,fun b hb hs=>(hg.block b (Nat.lt_of_lt_of_le hb h.kpt.size) (n0 _ (by omega))).trans (h.kpt.block b hb hs)⟩
theorem Rst.fails (h:Rst w0 w w' i r g cs ys) {er:Value} {e:Ending} (hf:Fails w' r er e w''):e=.panicked [{ v:=stopV r,recovered:=false }]∧Dead w'' r er∧Kpt (fun b=>b=r) w w'':=
 ⟨hf.1,hf.2.1,h.kpt.trans (Kpt.of_grown hf.2.2 rfl)⟩
end
theorem grown_cell (w:World) (g k:Nat) (v:Value):w.grownBy (w.setCell ⟨g,k,none⟩ v) (some g):=only_setCell (World.grownBy.refl w _) (Or.inl rfl) v
theorem grown_cells (g:Nat):∀ (vs:List Value) (o:Nat) (w a:World),a.grownBy w (some g)→a.grownBy (w.setCells g o vs) (some g)
 | [],_,_,_,h=>h
 | v::vs,o,_w,a,h=>grown_cells g vs (o+1) _ a (only_setCell h (Or.inl rfl) v)
theorem blk_cells {t g:Nat} (post:List Value):∀ (vs old pre:List Value) (o:Nat) (w:World),old.length=vs.length→pre.length=o→Blk w g t (pre++old++post).toArray→Blk (w.setCells g o vs) g t (pre++vs++post).toArray
 | [],old,pre,o,w,h,_,hb=>by
  obtain rfl:old=[]:=List.eq_nil_of_length_eq_zero h
  exact hb
 | v::vs,[],pre,o,w,h,_,hb=>by simp at h
 | v::vs,u::old,pre,o,w,h,hp,hb=>by
  have e:(pre++u::old++post).toArray.setIfInBounds o v=((pre++[v])++old++post).toArray:=by
   apply Array.ext'
   rw [Array.toList_setIfInBounds]
   show (pre++u::old++post).set o v=_
   rw [List.append_assoc,List.set_append_right _ _ (by omega),show o - pre.length=0 by omega]
   simp
  have h1:=hb.set_ o v
  rw [e] at h1
  have h2:=blk_cells post vs old (pre++[v]) (o+1) _ (by simpa using h) (by simp;omega) h1
  rw [World.setCells]
  rwa [show pre++[v]++vs++post=pre++v::vs++post by simp] at h2
theorem there_of {w:World} {t g o n:Nat} {cs:Array Value} (hb:Blk w g t cs) (h:o+n≤cs.size):w.there g o n:=fun j hj=>by
 rw [hb.cell,hb.frozen]
 exact ⟨by rw [Array.getElem?_eq_getElem (by omega)];rfl,rfl⟩
theorem cellsOb_k1 (k:Int) (t e p v:Value) (x:List Nat):(cellsOb k t e p x).toArray.setIfInBounds 1 v=(cellsOb k v e p x).toArray:=by
 apply Array.ext';rw [Array.toList_setIfInBounds];rfl
theorem cellsOb_k2 (k:Int) (t e p v:Value) (x:List Nat):(cellsOb k t e p x).toArray.setIfInBounds 2 v=(cellsOb k t v p x).toArray:=by
 apply Array.ext';rw [Array.toList_setIfInBounds];rfl
theorem cellsOb_k35 (k:Int) (t e p v:Value) (x:List Nat) (hx:x.length=32):(cellsOb k t e p x).toArray.setIfInBounds 35 v=(cellsOb k t e v x).toArray:=by
 apply Array.ext'
 rw [Array.toList_setIfInBounds]
 show (.int .i64 k::t::e::(cellsB x++[p])).set 35 v=.int .i64 k::t::e::(cellsB x++[v])
 rw [show (35:Nat)=32+1+1+1 from rfl,List.set_cons_succ,List.set_cons_succ,List.set_cons_succ,List.set_append_right _ _ (by rw [cellsB_len];omega),cellsB_len,hx]
 rfl
theorem zOc_cells:zOc=(cellsOb 0 nilV nilV nilV zid).toArray:=by kernel_rfl
theorem obj_places:(Tryz.prog.fieldsOf 101).toList.mapM (fun f=>(Tryz.prog.info? f.type).map fun i=>(f.offset,i.size))=some [(0,1),(1,1),(2,1),(3,32),(35,1)]:=by kernel_rfl
theorem obj_zero:((Tryz.prog.info? 101).bind (·.zero)).map (·.cells)=some (cellsOb 0 nilV nilV nilV zid).toArray:=by kernel_rfl
theorem iobj_under:Tryz.prog.underlying 101=some (.struct (Tryz.prog.fieldsOf 101)):=by kernel_rfl
theorem obj_built (k:Int):Tryz.prog.built 101 [(0,.int .i64 k)]=some (cellsOb k nilV nilV nilV zid).toArray:=by
 rw [built_of iobj_under obj_zero obj_places]
 exact fill_part (fun i=>([(0,1),(1,1),(2,1),(3,32),(35,1)]:List (Nat×Nat)).toArray[i]?) 0 0 1 (.int .i64 k) [] [.int .i64 k] [.int .i64 0] [] (nilV::nilV::(cellsB zid++[nilV])) rfl rfl rfl rfl rfl
structure ObO (m:Nat) (w:World) (o:Ob) (cs:Array Value) (T:Option Addr) (tc:Nat) (E:Option Addr) (ec:Nat) (P:Option Addr) (pc:Nat):Prop where
 cells:cs=(cellsOb o.kind (.slice T o.text.length tc) (.slice E o.ents.length ec) (.slice P o.pars.length pc) o.target).toArray
 text:w.ownsRow m 5 1 (.slice T o.text.length tc) o.text.length (cellsB o.text)
 ents:w.ownsRow m 164 33 (.slice E o.ents.length ec) o.ents.length (cellsE o.ents)
 pars:w.ownsRow m 42 32 (.slice P o.pars.length pc) o.pars.length (cellsP o.pars)
theorem own_kpt {m z n:Nat} {w w':World} {e:TypeId} {v:Value} {us:List Value} (h:w.ownsRow m e z v n us) (k:Kpt (fun b=>b < m) w w'):w'.ownsRow m e z v n us:=by
 refine ⟨h.1,?_⟩
 rcases h.2 with hn | ⟨g,cap,cur,rfl,hb,hgg,rest⟩
 ·exact .inl hn
 ·refine .inr ⟨g,cap,cur,rfl,hb,?_,rest⟩
  rw [k.block g (Array.getElem?_eq_some_iff.1 hgg).1 (by omega)]
  exact hgg
theorem ObO.kept {m:Nat} {w w':World} {o:Ob} {cs:Array Value} {T E P:Option Addr} {tc ec pc:Nat} (h:ObO m w o cs T tc E ec P pc) (k:Kpt (fun b=>b < m) w w'):ObO m w' o cs T tc E ec P pc:=
 ⟨h.cells,own_kpt h.text k,own_kpt h.ents k,own_kpt h.pars k⟩
theorem own_low {w:World} {m m' z n:Nat} {e:TypeId} {v:Value} {us:List Value} (h:w.ownsRow m e z v n us) (hm:m'≤m):w.ownsRow m' e z v n us:=by
 refine ⟨h.1,?_⟩
 rcases h.2 with hn | ⟨g,cap,cur,h1,h2,h3⟩
 ·exact .inl hn
 ·exact .inr ⟨g,cap,cur,h1,by omega,h3⟩
theorem rd_own {w:World} {m:Nat} {v:Value} {xs:List Nat} (h:w.ownsRow m 5 1 v xs.length (cellsB xs)):Rd w v xs:=by
 rcases h.2 with ⟨rfl,h0⟩ | ⟨g,cap,cur,rfl,_,hg,hc,_⟩
 ·have:xs=[]:=List.eq_nil_of_length_eq_zero h0
  subst this
  exact ⟨none,0,rfl,Nat.le_refl _,fun h=>absurd h (by simp)⟩
 ·refine ⟨_,cap,rfl,hc,fun _=>⟨g,0,rfl,(Array.getElem?_eq_some_iff.1 hg).1,fun i hi=>?_⟩⟩
  have h1:=h.cells (g:=g) rfl i _ (cellsB_get hi)
  rwa [Addr.add_mid] at h1
theorem ObO.obc {m:Nat} {w:World} {o:Ob} {cs:Array Value} {T E P:Option Addr} {tc ec pc:Nat} (h:ObO m w o cs T tc E ec P pc):ObC w o cs T tc E ec P pc:=
 ⟨h.cells,rd_own h.text,rdk_own h.ents,rdk_own h.pars⟩
def ReadPost (xs:List Nat) (a:Nat→Addr) (w0 w:World) (i r:Nat) (e:Ending) (w':World):Prop:=
 (∀ c,Ob.parse xs=.bad c→e=.panicked [{ v:=stopV r,recovered:=false }]∧Dead w' r (ev (a (c - 1)))∧Kpt (fun b=>b=r) w w') ∧
 (∀ o,Ob.parse xs=.ok o→∃ cs T tc E ec P pc,e=.returned (.agg cs)∧o.Fit∧o.Held∧ObO w.heap.size w' o cs T tc E ec P pc∧InAt w0 w' i r []∧Kpt (fun b=>b=r) w w')
theorem post_bad {xs:List Nat} {a:Nat→Addr} {w0 w w':World} {i r c:Nat} {e:Ending} (hp:Ob.parse xs=.bad c) (h:e=.panicked [{ v:=stopV r,recovered:=false }]∧Dead w' r (ev (a (c - 1)))∧Kpt (fun b=>b=r) w w'):ReadPost xs a w0 w i r e w':=
 ⟨fun c' h'=>(by rw [hp] at h';injection h' with h';subst h';exact h),fun o h'=>(by rw [hp] at h';cases h')⟩
theorem post_ok {xs:List Nat} {a:Nat→Addr} {w0 w w':World} {i r:Nat} {e:Ending} {o:Ob} {cs:Array Value} {T E P:Option Addr} {tc ec pc:Nat} (hp:Ob.parse xs=.ok o) (he:e=.returned (.agg cs)) (hf:o.Fit) (hd:o.Held) (ho:ObO w.heap.size w' o cs T tc E ec P pc) (hi:InAt w0 w' i r []) (hk:Kpt (fun b=>b=r) w w'):ReadPost xs a w0 w i r e w':=
 ⟨fun c' h'=>(by rw [hp] at h';cases h'),fun o' h'=>(by rw [hp] at h';injection h' with h';subst h';exact ⟨cs,T,tc,E,ec,P,pc,he,hf,hd,ho,hi,hk⟩)⟩
def PSents (w:World) (a:Nat→Addr):Prop:=w.cell? ⟨3,0,none⟩=some (ev (a 1))∧w.cell? ⟨5,0,none⟩=some (ev (a 3))∧w.cell? ⟨8,0,none⟩=some (ev (a 6))
theorem PSents.at_ {w0 w:World} {a:Nat→Addr} (h:PSents w0 a) (hb:Below w0.heap.size w0 w):PSents w a:=
 ⟨(hb.cell (block_lt_of_cell h.1)).trans h.1,(hb.cell (block_lt_of_cell h.2.1)).trans h.2.1,(hb.cell (block_lt_of_cell h.2.2)).trans h.2.2⟩
end Go.Proofs.YtndgadjeeinedaaGreatDoor
