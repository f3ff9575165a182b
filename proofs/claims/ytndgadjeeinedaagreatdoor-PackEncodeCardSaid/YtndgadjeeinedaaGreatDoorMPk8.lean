/- What stands while a pack is read; an item's base. -/
import Derived.Maps.RangeWalk
import Derived.Test.YtndgadjeeinedaaGreatDoorMPk6s
import Derived.Test.YtndgadjeeinedaaGreatDoorMOct9s
import Derived.Test.YtndgadjeeinedaaGreatDoorMOb23s
import Derived.StillTail
import Derived.StillTactics
namespace Go.Proofs.YtndgadjeeinedaaGreatDoor
open Go Go.RowKit
def NoU (w:World) (x:Nat):Prop:=∀ o n,w.cell? ⟨x,o,none⟩≠some (.int .u8 n)
theorem rd_kpt {S:Nat→Prop} {w w':World} {v:Value} {xs:List Nat} (h:Rd w v xs) (k:Kpt S w w') (hS:∀ x,S x→NoU w x):Rd w' v xs:=by
 obtain ⟨A,c,hv,hc,hA⟩:=h
 refine ⟨A,c,hv,hc,fun h0=>?_⟩
 obtain ⟨b,o,ha,hl,hx⟩:=hA h0
 exact ⟨b,o,ha,Nat.lt_of_lt_of_le hl k.size,fun i hi=>k.cell (hx i hi) (fun hs=>hS b hs _ _ (hx i hi))⟩
theorem noU_blk {w:World} {x t:Nat} {cs:Array Value} (h:Blk w x t cs) (hc:∀ v∈cs.toList,∀ n,v≠.int .u8 n):NoU w x:=fun o n e=>by
 rw [h.cell o] at e
 refine hc _ ?_ n rfl
 obtain ⟨ho,he⟩:=Array.getElem?_eq_some_iff.1 e
 rw [←he]
 simp
theorem noU_in {w0 w:World} {i r:Nat} {xs:List Nat} (h:InAt w0 w i r xs):NoU w r:=by
 obtain ⟨v,hr,⟨A,c,rfl,_⟩,_⟩:=h
 refine noU_blk hr.r_ ?_
 intro v hv n e
 subst e
 simp at hv
theorem noU_map {w:World} {x n:Nat} {f:List Nat→Option Value} (h:MapO w x n f):NoU w x:=fun o k e=>by
 obtain ⟨es,ck,hm⟩:=h.is
 unfold World.cell? at e
 rw [show w.heap[x]? = _ from hm] at e
 cases e
theorem noU_by {w:World} {bB:Nat} {kn:List Pk.It} (h:ByS w bB kn):NoU w bB:=by
 rcases h with h | ⟨m,n,h,_⟩
 all_goals
  refine noU_blk h ?_
  intro v hv n e
  subst e
  simp at hv
structure RdS (w0 w:World) (i r g mb bB bK:Nat) (out kn:List Pk.It):Prop where
 g_:Blk w g 92 #[.pointer (some ⟨i,0,none⟩),.map (some mb),.func (.func 61) #[] #[.pointer (some ⟨bB,0,none⟩),.pointer (some ⟨bK,0,none⟩)]]
 map:MapO w mb out.length (fun id=>(Pk.fnd out id).map Pk.It.v)
 outs:∀ p∈out,Rd w p.val p.text∧Sha.Byte p.text
 by_:ByS w bB kn
 kn_:KnS w0 w bK kn
 ord:r < mb∧i < mb∧mb < bK∧bK < bB∧bB < g
 few:out.length≤64
section
variable {w0 w w':World} {i r g mb bB bK:Nat} {out kn:List Pk.It} {xs:List Nat}
theorem RdS.below (h:RdS w0 w i r g mb bB bK out kn) (hb:Below w.heap.size w w'):RdS w0 w' i r g mb bB bK out kn:=
 ⟨h.g_.below hb h.g_.lt,h.map.below hb,fun p hp=>⟨(h.outs p hp).1.below hb (Nat.le_refl _),(h.outs p hp).2⟩,h.by_.kpt (Kpt.of_below (S:=fun _=>False) hb) (fun _ _ h=>h),h.kn_.kpt (Kpt.of_below (S:=fun _=>False) hb) (fun h=>h),h.ord,h.few⟩
theorem RdS.read (h:RdS w0 w i r g mb bB bK out kn) (hi:InAt w0 w i r xs) (hg:w.grownBy w' (some r)):RdS w0 w' i r g mb bB bK out kn:=by
 have ho:=h.ord
 have hk:Kpt (fun x=>x=r) w w':=Kpt.of_grown hg rfl
 exact ⟨h.g_.grown hg (fun e=>by injection e with e;omega),h.map.kept hg (fun e=>by injection e with e;omega),fun p hp=>⟨rd_kpt (h.outs p hp).1 hk (fun x hx=>by subst hx;exact noU_in hi),(h.outs p hp).2⟩,h.by_.kpt hk (fun x hx e=>by omega),h.kn_.kpt hk (by omega),h.ord,h.few⟩
theorem RdS.found (h:RdS w0 w i r g mb bB bK out kn) (hy:ByS w' bB kn) (hk:Kpt (fun x=>x=bB) w w'):RdS w0 w' i r g mb bB bK out kn:=by
 have ho:=h.ord
 exact ⟨hk.blk h.g_ (by omega),h.map.block (hk.block mb h.map.lt (by omega)),fun p hp=>⟨rd_kpt (h.outs p hp).1 hk (fun x hx=>by subst hx;exact noU_by h.by_),(h.outs p hp).2⟩,hy,h.kn_.kpt hk (by omega),h.ord,h.few⟩
theorem RdS.vals (h:RdS w0 w i r g mb bB bK out kn):∀ p∈out,p.val.oneCell'=true:=fun p hp=>by
 obtain ⟨⟨A,c,hv,_⟩,_⟩:=h.outs p hp
 rw [hv];rfl
theorem KnS.vals {kn:List Pk.It} (h:KnS w0 w bK kn):∀ p∈kn,p.val.oneCell'=true:=fun p hp=>by
 obtain ⟨⟨A,c,hv,_⟩,_⟩:=h.rd p hp
 rw [hv];rfl
theorem InAt.kpt (h:InAt w0 w i r xs) {S:Nat→Prop} (k:Kpt S w w') (hr:¬S r) (hi:¬S i) (h0:∀ x,S x→w0.heap.size≤x):InAt w0 w' i r xs:=by
 obtain ⟨v,hr',hv,hb,h1,h2⟩:=h
 exact ⟨v,⟨k.blk hr'.i_ hi,k.blk hr'.r_ hr,hr'.ne⟩,hv,low_kpt hb k h0,h1,h2⟩
end
def Ends (w:World) (r bB:Nat) (er:Value) (e:Ending) (w':World):Prop:=e=.panicked [{ v:=stopV r,recovered:=false }]∧Dead w' r er∧Kpt (fun x=>x=r∨x=bB) w w'
theorem Ends.of {w w1 w':World} {r bB:Nat} {er:Value} {e:Ending} (h:Fails w1 r er e w') (k:Kpt (fun x=>x=r∨x=bB) w w1):Ends w r bB er e w':=
 ⟨h.1,h.2.1,k.trans (Kpt.of_grown h.2.2 (Or.inl rfl))⟩
theorem Ends.from_ {w w1 w':World} {r bB:Nat} {er:Value} {e:Ending} (h:Ends w1 r bB er e w') (k:Kpt (fun x=>x=r∨x=bB) w w1):Ends w r bB er e w':=⟨h.1,h.2.1,k.trans h.2.2⟩
theorem kpt_r {w w':World} {r bB:Nat} (h:w.grownBy w' (some r)):Kpt (fun x=>x=r∨x=bB) w w':=Kpt.of_grown h (Or.inl rfl)
theorem kpt_b {w w':World} {r bB:Nat} (h:Kpt (fun x=>x=bB) w w'):Kpt (fun x=>x=r∨x=bB) w w':=⟨h.os,h.tape,h.output,h.size,fun b hb hn=>h.block b hb (fun e=>hn (Or.inr e))⟩
namespace Pk
noncomputable def bse (out kn:List It) (id:List Nat):Option It:=match fnd out id with | some p=>some p | none=>fnd kn id
theorem bse_item (out kn:List It) (id:List Nat):(bse out kn id).map It.item=base (out.map It.item) (kn.map It.item) id:=by
 unfold bse base
 rw [←fnd_item]
 cases fnd out id with
 | some p=>rfl
 | none=>exact fnd_item kn id
end Pk
def NewAt (B:Nat) (A:Option Addr) (n:Nat):Prop:=0 < n→∀ b o,A=some ⟨b,o,none⟩→B≤b
theorem NewAt.mono {B B' n:Nat} {A:Option Addr} (h:NewAt B A n) (hB:B'≤B):NewAt B' A n:=fun h0 b o e=>Nat.le_trans hB (h h0 b o e)
theorem newAt_own {B size n m c:Nat} {w:World} {A:Option Addr} {e:TypeId} {cs:List Value} (h:w.ownsRow B e size (.slice A m c) n cs):NewAt B A m:=fun h0 b o ea=>by
 rcases h.2 with ⟨hv,hn⟩ | ⟨g,cap,cur,hv,hb,_⟩
 ·injection hv with e1 e2 e3
  omega
 ·injection hv with e1 e2 e3
  rw [e1] at ea
  injection ea with ea
  injection ea with ea
  omega
theorem hold_nil (g:Nat) (w:World):Calls Tryz.prog 66 #[.pointer (some ⟨g,0,none⟩),.nilIface] w fun e w'=>e=.returned (.tuple #[])∧w'=w:=by
 go_enter Tryz.func66,Tryz.ntmps66
 go_wp2
 go_end0
 exact ⟨rfl,rfl⟩
theorem hold_err {w0 w:World} {i r g mb bB bK:Nat} {out kn:List Pk.It} {xs:List Nat} (ae:Addr) (h:RdS w0 w i r g mb bB bK out kn) (hi:InAt w0 w i r xs) :
  Calls Tryz.prog 66 #[.pointer (some ⟨g,0,none⟩),ev ae] w (Fails w r (ev ae)):=by
 have p0:w.cell? ⟨g,0,none⟩=some (.pointer (some ⟨i,0,none⟩)):=h.g_.cell 0
 obtain ⟨v,hr,_⟩:=hi
 have CF:=fail_any i r v ae w hr
 clear h hr
 go_enter Tryz.func66,Tryz.ntmps66
 go_wp2_with (go_at_call 42;refine CF.mono ?_;rintro e w' ⟨rfl,hd,hg⟩)
 exact ⟨rfl,rfl,hd,hg⟩
theorem itext_any {w0 w:World} {i r:Nat} {ys:List Nat} (a:Nat→Addr) (hi:InAt w0 w i r ys) (hb:Sha.Byte ys) (hS:w0.cell? ⟨3,0,none⟩=some (ev (a 1))) :
  Calls Tryz.prog 79 #[.pointer (some ⟨i,0,none⟩)] w fun e w'=>match Pk.text ys with
   | none=>Fails w r (ev (a 1)) e w'
   | some q=>∃ A c,e=.returned (.slice A q.1.length c)∧(Rd w' (.slice A q.1.length c) q.1∧NewAt w.heap.size A q.1.length)∧InAt w0 w' i r q.2∧w.grownBy w' (some r):=by
 have hSw:w.cell? ⟨3,0,none⟩=some (ev (a 1)):=(hi.bel.1.cell (block_lt_of_cell hS)).trans hS
 have hob:=oc_bytes hb
 unfold Pk.text
 by_cases h1:ys.length < 2
 ·rw [if_pos h1]
  exact text_short i r (a 1) ys w0 w hi h1 hSw
 ·rw [if_neg h1]
  by_cases h2:ys.length < 2+Oc.val (ys.take 2)
  ·rw [if_pos h2]
   exact text_short2 i r (a 1) ys w0 w hi (by omega) h2 hob (fun e=>by have:=hi.bel.2;have:=block_lt_of_cell hS;simp only at this;omega) hSw
  ·rw [if_neg h2]
   refine (text_ok i r ys w0 w hi (by omega) (by omega) hob hi.lt).mono fun e w' ⟨A,c,he,ho,hi',hg⟩=>?_
   have hl:((ys.drop 2).take (Oc.val (ys.take 2))).length=Oc.val (ys.take 2):=ho.2.1
   exact ⟨A,c,by rw [he];simp only;rw [hl],⟨by simp only;rw [hl];exact ho.1,fun h0 b o ea=>by
    simp only at h0
    rw [hl] at h0
    obtain ⟨g',cs,e1,e2,_⟩:=ho.2.2 h0
    rw [e1] at ea
    injection ea with ea
    injection ea with ea
    omega⟩,hi',hg⟩
set_option maxRecDepth 100000 in
set_option maxHeartbeats 2000000 in
theorem base_has {w0 w:World} {i r g mb bB bK:Nat} {out kn:List Pk.It} (id:List Nat) (p:Pk.It) (h:RdS w0 w i r g mb bB bK out kn) (hid:Id32 id) (hf:Pk.fnd out id=some p) :
  Calls Tryz.prog 81 #[.pointer (some ⟨g,0,none⟩),.agg (u8s id)] w fun e w'=>e=.returned p.v∧Below w.heap.size w w':=by
 have hpo:=h.vals p (Pk.fnd_mem hf).1
 obtain ⟨cp,hcp⟩:∃ cp,cp=(itemC (Sha.sum p.text) p.val p.depth).toArray:=⟨_,rfl⟩
 have hpv:p.v=.agg cp:=by rw [hcp];rfl
 have HC4:Hid (cp.size=34):=Lib.hid (by rw [hcp,List.size_toArray,itemC_len (sum_id _)])
 have HC5:Hid (cp.all (·.oneCell')=true):=Lib.hid (by rw [hcp];exact itemC_one hpo _)
 rw [hpv]
 obtain ⟨w2,hw2⟩:∃ w2,w2=(w.alloc (.cells (u8s id) 42)).alloc (.cells (itemC zid nilV 0).toArray 44):=⟨_,rfl⟩
 have b2:Below w.heap.size w w2:=hw2▸((Below.refl _ _).alloc (Nat.le_refl _) _).alloc (by simp) _
 have HI:Hid (Blk w2 w.heap.size 42 (u8s id)):=Lib.hid (hw2▸(Blk.new w _ _).alloc _)
 have HZ:Hid (Blk w2 (w.heap.size+1) 44 (itemC zid nilV 0).toArray):=Lib.hid (by rw [hw2];have h:=Blk.new (w.alloc (.cells (u8s id) 42)) 44 (itemC zid nilV 0).toArray;rwa [World.size_alloc] at h)
 have hm:Tryz.prog.follows .mixedOrders=true:=by kernel_rfl
 have hR2:=h.below b2
 have p1:∀ w',Below w2.heap.size w2 w'→w'.cell? ⟨g,1,none⟩=some (.map (some mb)):=fun w' hw=>(hR2.g_.below hw hR2.g_.lt).cell 1
 have HR2:=Lib.hid hR2
 have HL:=Lib.hid hid
 have HB2:=Lib.hid b2
 have q0:∀ w',Below w2.heap.size w2 w'→(Instr.lookup 40 (.map (some mb)) (.agg (u8s id)) true).run Tryz.prog w'=.ok (.tuple #[.agg cp,.bool true]) w':=fun w' hw=>by
  have h:=(hR2.map.below hw).look_ok Tryz.underlying40 (zeroItem _) hid
  rw [show (Pk.fnd out id).map Pk.It.v=some p.v by rw [hf];rfl] at h
  exact h.trans (by rw [hcp];rfl)
 clear hpo hpv hcp hf
 have e2:=hw2.symm
 have h20:Below w2.heap.size w2 w2.drew:=below_drewN (Below.refl _ w2) 1
 clear b2 hid hw2 hR2 h
 go_enter Tryz.func81,Tryz.ntmps81
 go_wp2
 refine wp_region_held (S:=fun w'=>Below w2.heap.size w2 w') hm ?_
 change wpAnyH _ _ _ _ _ _ _ _ ((w.alloc (.cells (u8s id) 42)).alloc (.cells (itemC zid nilV 0).toArray 44)).drew
 rw [e2]
 refine wpAnyH_take (i:=0) (v:=?_) rfl (by kernel_rfl) (by kernel_rfl) (by kernel_rfl) (fun _ _ _ h=>h) (Or.inl ⟨by rfl,?_⟩) h20 ?_
 rotate_left
 ·intro w' hw;go_simp;with_reducible rfl
 try go_frame
 refine wpAnyH_take (i:=1) (v:=?_) rfl (by kernel_rfl) (by kernel_rfl) (by kernel_rfl) (fun _ _ _ h=>h) (Or.inl ⟨by rfl,?_⟩) h20 ?_
 rotate_left
 ·intro w' hw;go_simp;with_reducible rfl
 try go_frame
 refine wpAnyH_take (i:=2) (v:=?_) rfl (by kernel_rfl) (by kernel_rfl) (by kernel_rfl) (fun _ _ _ h=>h) (Or.inl ⟨by rfl,?_⟩) h20 ?_
 rotate_left
 ·intro w' hw;go_simp;with_reducible rfl
 try go_frame
 refine wpAnyH_take (i:=3) (v:=?_) rfl (by kernel_rfl) (by kernel_rfl) (by kernel_rfl) (fun _ _ _ h=>h) (Or.inl ⟨by rfl,?_⟩) h20 ?_
 rotate_left
 ·intro w' hw;go_simp;with_reducible rfl
 try go_frame
 refine wpAnyH_take (i:=4) (v:=.agg (u8s id)) rfl (by kernel_rfl) (by kernel_rfl) (by kernel_rfl) (fun _ _ _ h=>h) (takes_row 42 (.tmp 3) rfl (by rfl) w.heap.size rfl 42 (u8s id) _ (fun w' hw=>HI.out.below hw HI.out.lt) Tryz.underlying42 rfl (by rw [u8s_size,HL.out.1];exact oid_load)) h20 ?_
 try go_frame
 refine wpAnyH_take (i:=5) (v:=?_) rfl (by kernel_rfl) (by kernel_rfl) (by kernel_rfl) (fun _ _ _ h=>h) (Or.inl ⟨by rfl,?_⟩) h20 ?_
 rotate_left
 ·intro w' hw;go_simp;with_reducible rfl
 try go_frame
 refine wpAnyH_take (i:=6) (v:=?_) rfl (by kernel_rfl) (by kernel_rfl) (by kernel_rfl) (fun _ _ _ h=>h) (Or.inl ⟨by rfl,?_⟩) h20 ?_
 rotate_left
 ·intro w' hw;go_simp;with_reducible rfl
 try go_frame
 refine wpAnyH_take (i:=7) (v:=?_) rfl (by kernel_rfl) (by kernel_rfl) (by kernel_rfl) (fun _ _ _ h=>h) (Or.inl ⟨by rfl,?_⟩) h20 ?_
 rotate_left
 ·intro w' hw;go_simp;with_reducible rfl
 try go_frame
 refine wpAnyH_take (i:=8) (v:=?_) rfl (by kernel_rfl) (by kernel_rfl) (by kernel_rfl) (fun _ _ _ h=>h) (Or.inl ⟨by rfl,?_⟩) h20 ?_
 rotate_left
 ·intro w' hw;go_simp;with_reducible rfl
 try go_frame
 refine all_one (i:=9) (by kernel_rfl) rfl (by rfl) (fun K hK=>?_)
 go_simp
 refine hK _ _ (h20.alloc (Nat.le_refl _) _) ?_
 try go_frame
 refine all_one (i:=10) (by kernel_rfl) rfl (by rfl) (fun K hK=>?_)
 refine wp_store_row 44 (.tmp 5) (.tmp 16) (by rfl) w2.heap.size cp (by rfl) (by rfl) 44 (itemC zid nilV 0).toArray (Blk.new w2.drew _ _) (by rw [HC4.out];exact item_size) (by rw [HC4.out];rfl) HC5.out ?_
 have b3:Below w2.heap.size w2 ((w2.drew.alloc (.cells (itemC zid nilV 0).toArray 44)).setRow w2.heap.size cp):=below_row (h20.alloc (Nat.le_refl _) _) (Nat.le_refl _) _
 refine hK _ _ b3 ?_
 try simp only [Act.put,List.getElem_toArray,List.getElem_cons_zero,List.getElem_cons_succ]
 have HX3:Hid (Blk ((w2.drew.alloc (.cells (itemC zid nilV 0).toArray 44)).setRow w2.heap.size cp) w2.heap.size 44 cp):=Lib.hid ((Blk.new w2.drew _ _).row _)
 have b3:Below w2.heap.size w2 ((w2.drew.alloc (.cells (itemC zid nilV 0).toArray 44)).setRow w2.heap.size cp):=below_row (h20.alloc (Nat.le_refl _) _) (Nat.le_refl _) _
 change wpAnyH _ _ _ _ _ _ _ _ ((w2.drew.alloc (.cells (itemC zid nilV 0).toArray 44)).setRow w2.heap.size cp)
 generalize (w2.drew.alloc (.cells (itemC zid nilV 0).toArray 44)).setRow w2.heap.size cp=w3 at HX3 b3 ⊢
 refine all_one (i:=11) (by kernel_rfl) rfl (by rfl) (fun K hK=>?_)
 go_simp
 refine hK _ _ b3 ?_
 try go_frame
 refine wpAnyH_done (by kernel_rfl) ?_ _
 have HZ3:=Lib.hid (HZ.out.below b3 HZ.out.lt)
 have HB3:=Lib.hid (below_next HB2.out b3)
 have HB23:=Lib.hid b3
 clear b3 q0 p1 h20
 go_wp2_with (with_reducible (show wpList _ _ _ (Oper.mk _ (Op.load 44 _) _ _ _ _::_) _ _);refine pause ?_)
 unfold Paused
 refine wpList_row_w (by rfl) 44 (.tmp 5) (by rfl) w2.heap.size (by rfl) 44 cp _ HX3.out Tryz.underlying44 (by rfl) (by rw [HC4.out];exact item_size) ?_
 go_wp2_with (with_reducible (show wpList _ _ _ (Oper.mk _ (Op.store 44 _ _) _ _ _ _::_) _ _);refine pause ?_)
 unfold Paused
 refine wpList_store_row (by rfl) 44 (.tmp 4) (.tmp 19) (by rfl) (w.heap.size+1) cp (by rfl) (by rfl) 44 (itemC zid nilV 0).toArray HZ3.out (by rw [HC4.out];exact item_size) (by rw [HC4.out];rfl) HC5.out ?_
 have HX4:=Lib.hid (HZ3.out.row cp)
 have HB4:Hid (Below w.heap.size w (w3.setRow (w.heap.size+1) cp)):=Lib.hid (below_row HB3.out (by omega) cp)
 generalize w3.setRow (w.heap.size+1) cp=w4 at HX4 HB4 ⊢
 simp only [Act.put]
 go_wp2
 exact bodyPost_ret (v:=.agg cp) (resultsP (t:=4) rfl (by rfl) HX4.out HC4.out) rfl ⟨rfl,HB4.out⟩
end Go.Proofs.YtndgadjeeinedaaGreatDoor
