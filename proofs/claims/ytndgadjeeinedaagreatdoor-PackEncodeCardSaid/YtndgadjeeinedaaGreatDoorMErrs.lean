/- errors.Is at the error values of package api, and the walk of cartagenum.Num: the number of such an error. -/
import Derived.Test.YtndgadjeeinedaaGreatDoorMBases
import Derived.Test.YtndgadjeeinedaaGreatDoorChecked
import Derived.LaidEql
import Derived.LaidLaws
import Derived.Stop.Asserts
import Derived.Stop.LaidErr
import Derived.RowKitTokens
import Derived.Test.YtndgadjeeinedaaGreatDoorMShaEnds
import Derived.Deep.DeepLaidRun
import Derived.Test.YtndgadjeeinedaaGreatDoorMShaMixs
import Derived.Deep.Matrix
import Derived.ChangeMaps5
import Derived.OpenShut
import Derived.OrdersHeld
import Derived.Stop.BytesEq
namespace Go.Proofs.YtndgadjeeinedaaGreatDoor
open Go Go.RowKit Go.Extern.Stop Go.Stop Go.Extern Go.WideShapes Go.ChangeShapes
abbrev ev (a:Addr):Value:=.iface 194 (.pointer (some a))
def sgs:List Nat:=[2,3,4,5,6,7,8,9,10,11,12,13,1,14,15,16,17,18,19,20,21,0]
def stexts:List (List UInt8):=[[97,32,110,117,109,98,101,114,32,105,115,32,111,117,116,32,111,102,32,105,116,115,32,114,97,110,103,101],[115,111,109,101,116,104,105,110,103,32,105,115,32,109,105,115,115,105,110,103,32,97,116,32,116,104,101,32,101,110,100],[116,104,101,114,101,32,105,115,32,109,111,114,101,32,116,104,97,110,32,109,97,121,32,98,101],[105,116,32,105,115,32,110,111,116,32,111,102,32,105,116,115,32,102,111,114,109],[116,104,101,32,115,117,109,32,105,115,32,110,111,116,32,114,105,103,104,116],[105,116,32,105,115,32,110,111,32,114,105,103,104,116,32,110,97,109,101],[105,116,32,105,115,32,111,102,32,97,110,111,116,104,101,114,32,107,105,110,100],[105,116,32,103,111,101,115,32,116,111,111,32,100,101,101,112],[97,110,32,111,98,106,101,99,116,32,105,115,32,109,105,115,115,105,110,103],[97,32,114,101,102,32,105,115,32,110,111,116,32,119,104,97,116,32,119,97,115,32,101,120,112,101,99,116,101,100],[116,104,101,32,100,105,115,107,32,104,97,115,32,110,111,32,114,111,111,109],[116,104,101,32,113,117,101,117,101,32,104,97,115,32,110,111,32,114,111,111,109],[105,116,32,105,115,32,116,111,111,32,108,97,114,103,101],[116,104,101,114,101,32,105,115,32,110,111,32,115,117,99,104,32,114,101,112,111,115,105,116,111,114,121],[116,104,101,114,101,32,105,115,32,115,117,99,104,32,97,32,114,101,112,111,115,105,116,111,114,121,32,97,108,114,101,97,100,121],[105,116,32,105,115,32,110,111,116,32,97,118,97,105,108,97,98,108,101,32,110,111,119],[110,111,98,111,100,121,32,97,110,115,119,101,114,101,100,32,105,110,32,116,105,109,101],[116,104,101,32,101,112,111,99,104,32,105,115,32,110,111,116,32,116,104,101,32,99,117,114,114,101,110,116,32,111,110,101],[105,116,32,99,97,110,32,110,111,116,32,98,101,32,100,111,110,101,32,105,110,32,116,104,105,115,32,115,116,97,116,101],[105,116,32,105,115,32,116,104,101,114,101,32,97,108,114,101,97,100,121],[116,104,101,114,101,32,105,115,32,110,111,110,101],[116,104,101,114,101,32,97,114,101,32,97,115,32,109,97,110,121,32,97,115,32,109,97,121,32,98,101]]
structure SentAt (w:World) (g:Nat) (t:List UInt8) (a:Addr):Prop where
 var:w.cell? ⟨g,0,none⟩=some (ev a)
 row:∃ c tt,w.heap[a.block]? = some (.cells c tt (0,0))
 txt:∃ s:ByteArray,w.cell? a=some (.string s)∧s.data.toList=t
theorem SentAt.lt {w:World} {g:Nat} {t:List UInt8} {a:Addr} (h:SentAt w g t a):g < w.heap.size:=block_lt_of_cell h.var
theorem SentAt.lt2 {w:World} {g:Nat} {t:List UInt8} {a:Addr} (h:SentAt w g t a):a.block < w.heap.size:=by
 obtain ⟨c,tt,h⟩:=h.row
 exact (Array.getElem?_eq_some_iff.1 h).1
theorem SentAt.below {w w':World} {g:Nat} {t:List UInt8} {a:Addr} (h:SentAt w g t a) {B:Nat} (hb:Below B w w') (hB:w.heap.size≤B):SentAt w' g t a:=by
 have l1:=h.lt
 have l2:=h.lt2
 obtain ⟨c,tt,hr⟩:=h.row
 obtain ⟨s,hs,ht⟩:=h.txt
 exact ⟨(hb.cell (p:=⟨g,0,none⟩) (by show g < B;omega)).trans h.var,⟨c,tt,(hb.block a.block (by omega)).trans hr⟩,⟨s,(hb.cell (p:=a) (by omega)).trans hs,ht⟩⟩
theorem SentAt.ne {w:World} {g g':Nat} {t t':List UInt8} {a a':Addr} (h:SentAt w g t a) (h':SentAt w g' t' a') (ht:t≠t'):a≠a':=by
 rintro rfl
 obtain ⟨s,hs,e⟩:=h.txt
 obtain ⟨s',hs',e'⟩:=h'.txt
 have:=hs.symm.trans hs'
 injection this with this
 injection this with this
 subst this
 exact ht (e.symm.trans e')
def Sents (w:World) (a:Nat→Addr):Prop:=∀ k,k < 22→SentAt w (sgs.getD k 0) (stexts.getD k []) (a k)
theorem Sents.below {w w':World} {a:Nat→Addr} (h:Sents w a) {B:Nat} (hb:Below B w w') (hB:w.heap.size≤B):Sents w' a:=fun k hk=>(h k hk).below hb hB
theorem stexts_ne:∀ j:Fin 22,∀ k:Fin 22,j≠k→stexts.getD j.val []≠stexts.getD k.val []:=by decide +kernel
theorem Sents.ne {w:World} {a:Nat→Addr} (h:Sents w a) {j k:Nat} (hj:j < 22) (hk:k < 22) (hne:j≠k):a j≠a k:=
 (h j hj).ne (h k hk) (stexts_ne ⟨j,hj⟩ ⟨k,hk⟩ (fun e=>hne (by injection e)))
theorem laidMet_at {P:Program}:∀ {l:List (String×DataW Unit)} {w:World} (i:Nat) {x:String×DataW Unit},laidMet P l w→l[i]? = some x→∃ r,laidMet P (x::r) w
 | y::r,w,0,x,h,hx=>by obtain rfl:=Option.some.inj hx;exact ⟨r,h⟩
 | y::r,w,i+1,x,h,hx=>laidMet_at i h.tail hx
theorem ev_under:Tryz.prog.underlying 194=some (.pointer 218):=Tryz.underlying194
theorem ev_star : "*" ++ "errors.errorString" = "*errors.errorString" := by decide
theorem ev_row (u:TypeId) (h:Tryz.prog.typeName? 3 u=some "*errors.errorString"):u=194:=
 typeName_ptr_named (nm := "errors.errorString") (by rw [ev_star];kernel_rfl) (by kernel_rfl) (by decide) u (by rw [ev_star];exact h)
set_option maxRecDepth 100000 in
theorem sent_of_laid {n:String} {text:List UInt8} {r:List (String×DataW Unit)} {W:World} {g:Nat}
  (h:laidMet Tryz.prog ((n,.iface "*errors.errorString" (.ptr (.agg [.lit (.string text)])))::r) W)
  (hg:Tryz.prog.globalNamed n=some g) (ht:(Tryz.prog.globals[g]?).map (·.type)=some 27):∃ a,SentAt W g text a:=by
 obtain ⟨f,hf,hft,hfo⟩:∃ f:Field,Tryz.prog.underlying 218=some (.struct #[f])∧f.type=9∧f.offset=0:=⟨_,Tryz.underlying218,by kernel_rfl,by kernel_rfl⟩
 have hc:Tryz.prog.cellsOf 218=1:=by kernel_rfl
 have hcs:Tryz.prog.cellsOf 9=1:=by kernel_rfl
 obtain ⟨ps,⟨g0,t0,cs0,f0,p0,q0,hg0,ht0,hv0,hd0,_,e0⟩,_,hrows⟩:=h
 obtain rfl:=Option.some.inj (hg.symm.trans hg0)
 obtain rfl:=Option.some.inj (ht.symm.trans ht0)
 subst e0
 have hvar:=fun (i:Nat)=>World.var?_cell hg0 hv0 i
 obtain ⟨l0⟩:=cs0
 have ok0:∀ u v,l0=[.iface u v]→Value.okWide Tryz.prog W .any 0 u v:=fun u v e=>by
  subst e
  exact (hrows g 0 (by simp [MemPlace.row])).2 u v (by simpa using World.var?_cell hg0 hv0 0)
 obtain ⟨a0,s0,rfl,hc0,hs0,hz0,rfl⟩:=errorString_of_trod Tryz.underlying27 ev_row ev_under hf hft hfo Tryz.underlying9 hc hcs hd0 ok0
 obtain ⟨c0,tt0,hb0⟩:=(hrows a0.block a0.off (by simp [MemPlace.row])).1
 exact ⟨a0,⟨by simpa using hvar 0,⟨c0,tt0,hb0⟩,⟨s0,hc0,hs0⟩⟩⟩
noncomputable def tokE:Value:=.agg #[.pointer (some ⟨Tryz.prog.globals.size,194,none⟩)]
set_option maxRecDepth 100000 in
theorem isTypeOf (v:Value) (w:World):(Extern.ReflectliteType.typeOf #[.iface 194 v]).run Tryz.prog w=.ok (.iface 124 tokE) w:=by kernel_rfl
noncomputable def cmpOf:Array Value→Sem Value:=Extern.ReflectliteType.method fun t=>do _root_.Go.Extern.Rtype.noPackHeld "Comparable" t;pure (.bool (←typeInfo t).comparable)
set_option maxRecDepth 100000 in
theorem isComparable (w:World):(cmpOf #[tokE]).run Tryz.prog w=.ok (.bool true) w:=by kernel_rfl
set_option maxRecDepth 100000 in
theorem isMethodComparable (v:Value) (w:World):(Go.method 330 124 v "Comparable").run Tryz.prog w=.ok (136,v) w:=by kernel_rfl
theorem isComp:(Tryz.prog.info? 194).map (·.comparable)=some true:=by kernel_rfl
theorem isSize:(Tryz.prog.info? 218).map (·.size)=some 1:=by kernel_rfl
theorem noIsE (v:Value) (xT:TypeId) (w:World):(Instr.typeAssert (.iface 194 v) xT 126 true).run Tryz.prog w=.ok (.tuple #[.nilIface,.bool false]) w:=run_typeAssert_lacksB Tryz.underlying126 (by kernel_rfl) (by kernel_rfl) v xT w
theorem noUnwrapE (v:Value) (xT:TypeId) (w:World):(Instr.typeAssert (.iface 194 v) xT 129 true).run Tryz.prog w=.ok (.tuple #[.nilIface,.bool false]) w:=run_typeAssert_lacksB Tryz.underlying129 (by kernel_rfl) (by kernel_rfl) v xT w
theorem noUnwrapsE (v:Value) (xT:TypeId) (w:World):(Instr.typeAssert (.iface 194 v) xT 131 true).run Tryz.prog w=.ok (.tuple #[.nilIface,.bool false]) w:=run_typeAssert_lacksB Tryz.underlying131 (by kernel_rfl) (by kernel_rfl) v xT w
set_option maxRecDepth 100000 in
theorem is_same (a:Addr) (w:World) :
  Calls Tryz.prog 18 #[ev a,ev a] w fun e w'=>e=.returned (.bool true)∧w'=w:=by
 obtain ⟨i,hi,hcmp⟩:=Option.map_eq_some_iff.1 isComp
 obtain ⟨j,hj,hjs⟩:=Option.map_eq_some_iff.1 isSize
 have h8:=@run_callFunc_extern Tryz.prog 36 _ Extern.ReflectliteType.typeOf Tryz.func36 (by kernel_rfl) (by kernel_rfl) (by kernel_rfl) (by kernel_rfl)
 have h32:=@run_callFunc_extern Tryz.prog 136 _ cmpOf Tryz.func136 (by kernel_rfl) (by kernel_rfl) (by kernel_rfl) (by kernel_rfl)
 have tT:=isTypeOf
 have cT:=isComparable
 have mR:=isMethodComparable
 have heq:=run_eql_iface_ptr_same (P:=Tryz.prog) w a Tryz.underlying27 Tryz.underlying194 hi hcmp hj
 go_enter Tryz.func18,Tryz.ntmps18
 go_wp2
 refine wp_loop_rounds 1 ?_
 rw [rounds_succ]
 go_wp2
 go_ret
 exact ⟨rfl,rfl⟩
set_option maxRecDepth 100000 in
theorem is_other (a b:Addr) (ca cb:Array Value) (ta tb:TypeId) (w:World) (hne:a≠b) (ha:w.heap[a.block]? = some (.cells ca ta (0,0))) (hb:w.heap[b.block]? = some (.cells cb tb (0,0))) :
  Calls Tryz.prog 18 #[ev a,ev b] w fun e w'=>e=.returned (.bool false)∧w'=w:=by
 obtain ⟨i,hi,hcmp⟩:=Option.map_eq_some_iff.1 isComp
 obtain ⟨j,hj,hjs⟩:=Option.map_eq_some_iff.1 isSize
 have h8:=@run_callFunc_extern Tryz.prog 36 _ Extern.ReflectliteType.typeOf Tryz.func36 (by kernel_rfl) (by kernel_rfl) (by kernel_rfl) (by kernel_rfl)
 have h32:=@run_callFunc_extern Tryz.prog 136 _ cmpOf Tryz.func136 (by kernel_rfl) (by kernel_rfl) (by kernel_rfl) (by kernel_rfl)
 have tT:=isTypeOf
 have cT:=isComparable
 have mR:=isMethodComparable
 have nE:=noIsE
 have uE:=noUnwrapE
 have vE:=noUnwrapsE
 have heq:=run_eql_iface_ptr_other (P:=Tryz.prog) w Tryz.underlying27 Tryz.underlying194 hi hcmp hj (by rw [hjs];decide) hne ha hb
 go_enter Tryz.func18,Tryz.ntmps18
 go_wp2
 refine wp_loop_rounds 1 ?_
 rw [rounds_succ]
 go_wp2
 go_ret
 exact ⟨rfl,rfl⟩
theorem lits_get (a:Nat→Addr):∀ k,k < 22→(#[ev (a 0),ev (a 1),ev (a 2),ev (a 3),ev (a 4),ev (a 5),ev (a 6),ev (a 7),ev (a 8),ev (a 9),ev (a 10),ev (a 11),ev (a 12),ev (a 13),ev (a 14),ev (a 15),ev (a 16),ev (a 17),ev (a 18),ev (a 19),ev (a 20),ev (a 21)]:Array Value)[k]? = some (ev (a k)):=by
 intro k hk
 have h:(#[ev (a 0),ev (a 1),ev (a 2),ev (a 3),ev (a 4),ev (a 5),ev (a 6),ev (a 7),ev (a 8),ev (a 9),ev (a 10),ev (a 11),ev (a 12),ev (a 13),ev (a 14),ev (a 15),ev (a 16),ev (a 17),ev (a 18),ev (a 19),ev (a 20),ev (a 21)]:Array Value)=((List.range 22).map (fun k=>ev (a k))).toArray:=rfl
 rw [h]
 simp [hk]
set_option maxRecDepth 100000 in
theorem num_any (j:Nat) (hj:j < 22) (a:Nat→Addr) (w:World) (hs:Sents w a) :
  Calls Tryz.prog 8 #[ev (a j)] w fun e w'=>e=.returned (.int .i64 ((j+1:Nat):Int))∧Below w.heap.size w w':=by
 have c0:w.cell? ⟨2,0,none⟩=some (ev (a 0)):=(hs 0 (by omega)).var
 have c1:w.cell? ⟨3,0,none⟩=some (ev (a 1)):=(hs 1 (by omega)).var
 have c2:w.cell? ⟨4,0,none⟩=some (ev (a 2)):=(hs 2 (by omega)).var
 have c3:w.cell? ⟨5,0,none⟩=some (ev (a 3)):=(hs 3 (by omega)).var
 have c4:w.cell? ⟨6,0,none⟩=some (ev (a 4)):=(hs 4 (by omega)).var
 have c5:w.cell? ⟨7,0,none⟩=some (ev (a 5)):=(hs 5 (by omega)).var
 have c6:w.cell? ⟨8,0,none⟩=some (ev (a 6)):=(hs 6 (by omega)).var
 have c7:w.cell? ⟨9,0,none⟩=some (ev (a 7)):=(hs 7 (by omega)).var
 have c8:w.cell? ⟨10,0,none⟩=some (ev (a 8)):=(hs 8 (by omega)).var
 have c9:w.cell? ⟨11,0,none⟩=some (ev (a 9)):=(hs 9 (by omega)).var
 have c10:w.cell? ⟨12,0,none⟩=some (ev (a 10)):=(hs 10 (by omega)).var
 have c11:w.cell? ⟨13,0,none⟩=some (ev (a 11)):=(hs 11 (by omega)).var
 have c12:w.cell? ⟨1,0,none⟩=some (ev (a 12)):=(hs 12 (by omega)).var
 have c13:w.cell? ⟨14,0,none⟩=some (ev (a 13)):=(hs 13 (by omega)).var
 have c14:w.cell? ⟨15,0,none⟩=some (ev (a 14)):=(hs 14 (by omega)).var
 have c15:w.cell? ⟨16,0,none⟩=some (ev (a 15)):=(hs 15 (by omega)).var
 have c16:w.cell? ⟨17,0,none⟩=some (ev (a 16)):=(hs 16 (by omega)).var
 have c17:w.cell? ⟨18,0,none⟩=some (ev (a 17)):=(hs 17 (by omega)).var
 have c18:w.cell? ⟨19,0,none⟩=some (ev (a 18)):=(hs 18 (by omega)).var
 have c19:w.cell? ⟨20,0,none⟩=some (ev (a 19)):=(hs 19 (by omega)).var
 have c20:w.cell? ⟨21,0,none⟩=some (ev (a 20)):=(hs 20 (by omega)).var
 have c21:w.cell? ⟨0,0,none⟩=some (ev (a 21)):=(hs 21 (by omega)).var
 have HS:=Lib.hid hs
 have HL:=Lib.hid (lits_get a)
 clear hs
 go_enter Tryz.func8,Tryz.ntmps8
 go_wp2_with fail
 change Code.wp _ _ _ _ (w.alloc (.cells #[ev (a 0),ev (a 1),ev (a 2),ev (a 3),ev (a 4),ev (a 5),ev (a 6),ev (a 7),ev (a 8),ev (a 9),ev (a 10),ev (a 11),ev (a 12),ev (a 13),ev (a 14),ev (a 15),ev (a 16),ev (a 17),ev (a 18),ev (a 19),ev (a 20),ev (a 21)] 27))
 have HW:Hid (Blk (w.alloc (.cells #[ev (a 0),ev (a 1),ev (a 2),ev (a 3),ev (a 4),ev (a 5),ev (a 6),ev (a 7),ev (a 8),ev (a 9),ev (a 10),ev (a 11),ev (a 12),ev (a 13),ev (a 14),ev (a 15),ev (a 16),ev (a 17),ev (a 18),ev (a 19),ev (a 20),ev (a 21)] 27)) w.heap.size 27 #[ev (a 0),ev (a 1),ev (a 2),ev (a 3),ev (a 4),ev (a 5),ev (a 6),ev (a 7),ev (a 8),ev (a 9),ev (a 10),ev (a 11),ev (a 12),ev (a 13),ev (a 14),ev (a 15),ev (a 16),ev (a 17),ev (a 18),ev (a 19),ev (a 20),ev (a 21)]):=Lib.hid (Blk.new w _ _)
 have HB:Hid (Below w.heap.size w (w.alloc (.cells #[ev (a 0),ev (a 1),ev (a 2),ev (a 3),ev (a 4),ev (a 5),ev (a 6),ev (a 7),ev (a 8),ev (a 9),ev (a 10),ev (a 11),ev (a 12),ev (a 13),ev (a 14),ev (a 15),ev (a 16),ev (a 17),ev (a 18),ev (a 19),ev (a 20),ev (a 21)] 27))):=Lib.hid ((Below.refl _ _).alloc (Nat.le_refl _) _)
 generalize (w.alloc (.cells #[ev (a 0),ev (a 1),ev (a 2),ev (a 3),ev (a 4),ev (a 5),ev (a 6),ev (a 7),ev (a 8),ev (a 9),ev (a 10),ev (a 11),ev (a 12),ev (a 13),ev (a 14),ev (a 15),ev (a 16),ev (a 17),ev (a 18),ev (a 19),ev (a 20),ev (a 21)] 27))=w1 at HW HB ⊢
 generalize (#[ev (a 0),ev (a 1),ev (a 2),ev (a 3),ev (a 4),ev (a 5),ev (a 6),ev (a 7),ev (a 8),ev (a 9),ev (a 10),ev (a 11),ev (a 12),ev (a 13),ev (a 14),ev (a 15),ev (a 16),ev (a 17),ev (a 18),ev (a 19),ev (a 20),ev (a 21)]:Array Value)=arr at HW HL
 clear c0 c1 c2 c3 c4 c5 c6 c7 c8 c9 c10 c11 c12 c13 c14 c15 c16 c17 c18 c19 c20 c21
 go_loop [33] (fun i=>∃ k:Nat,k≤j∧i=.int .i64 k) (fun i=>22 - (intOf i).toNat)
 case atStart=>exact ⟨0,by omega,rfl⟩
 case round=>
  obtain ⟨k,hk,rfl⟩:=hrel
  have hc:=(HW.out.cell k).trans (HL.out k (by omega))
  have i0:(0:Int)≤((k:Nat):Int):=by omega
  have i1:((k:Nat):Int) < 22:=by omega
  have hs:=HS.out.below HB.out (Nat.le_refl _)
  obtain ⟨cj,tj,hj1⟩:=(hs j hj).row
  obtain ⟨ck,tk,hk1⟩:=(hs k (by omega)).row
  have HJ:=Lib.hid hj1
  have HK:=Lib.hid hk1
  clear hs hj1 hk1
  rcases Nat.lt_or_ge k j with hlt | hge
  ·have HN:=Lib.hid (HS.out.ne hj (show k < 22 by omega) (by omega))
   go_wp2_with fail
   refine (is_other (a j) (a k) _ _ _ _ _ HN.out HJ.out HK.out).mono ?_
   rintro e w2 ⟨rfl,rfl⟩
   go_wp2_with fail
   go_round
   case rel=>exact ⟨k+1,by omega,by go_num⟩
   case measure=>simp [intOf];omega
  ·obtain rfl:k=j:=by omega
   go_wp2_with fail
   refine (is_same (a k) _).mono ?_
   rintro e w2 ⟨rfl,rfl⟩
   go_wp2_with fail
   go_ret
   exact ⟨by go_num,HB.out⟩
theorem num_nil (w:World):Calls Tryz.prog 8 #[.nilIface] w fun e w'=>e=.returned (.int .i64 0)∧w'=w:=by
 go_enter Tryz.func8,Tryz.ntmps8
 go_wp2_with fail
 go_ret
 exact ⟨rfl,rfl⟩
end Go.Proofs.YtndgadjeeinedaaGreatDoor
/- What the laws share whose rows list the error values of package api: the sentinels out of 'laid', a world for the witness that has them and the two tables. -/
namespace Go.Proofs.YtndgadjeeinedaaGreatDoor
open Go Go.RowKit Go.WideShapes Go.ChangeShapes Go.ChangeAt
noncomputable def lowE:Nat:=(World.holding Tryz.prog default ⟨#[],#[],[]⟩).heap.size
theorem laidMet_drop {P:Program} {w:World}:∀ (i:Nat) {l:List (String×DataW Unit)},laidMet P l w→laidMet P (l.drop i) w
 | 0,_,h=>h
 | _+1,[],h=>h
 | i+1,_::_,h=>laidMet_drop i h.tail
theorem sent_of (W:World) (l:List (String×DataW Unit)) (h:laidMet Tryz.prog l W) (i:Nat) (n:String) (text:List UInt8) (g:Nat)
  (hi:l[i]? = some (n,.iface "*errors.errorString" (.ptr (.agg [.lit (.string text)])))) (hg:Tryz.prog.globalNamed n=some g) (ht:(Tryz.prog.globals[g]?).map (·.type)=some 27):∃ a,SentAt W g text a:=by
 obtain ⟨r,hr⟩:=laidMet_at i h hi
 exact sent_of_laid hr hg ht
end Go.Proofs.YtndgadjeeinedaaGreatDoor
/- Arguments of laws, opened: slices of bytes. -/
namespace Go.Proofs.YtndgadjeeinedaaGreatDoor
open Go Go.RowKit Go.WideShapes Go.ChangeShapes Go.Deep
section
variable {H:Type} {enc:TypeId×Value→H} {P:Program} {W:World} {held:Bool} {t e q:TypeId}
theorem spot_free {w:World} {b o:Nat} {s:Option Nat} {v:Value} (h:w.cell? ⟨b,o,s⟩=some v):s=none:=by
 cases s with
 | none=>rfl
 | some k=>
  exfalso
  unfold World.cell? at h
  split at h<;>simp_all
theorem u8_nat {n:Int} (h:(Lit.int .u8 n).wf=true):((n.toNat:Nat):Int)=n∧n.toNat < 256:=by
 have h2:(decide (IntKind.u8.min≤n) && decide (n≤IntKind.u8.max))=true:=h
 rw [Bool.and_eq_true,decide_eq_true_eq,decide_eq_true_eq] at h2
 have h3:(0:Int)≤n∧n≤255:=h2
 omega
end
end Go.Proofs.YtndgadjeeinedaaGreatDoor
/- Arguments of laws, opened: slices of slices of bytes. -/
namespace Go.Proofs.YtndgadjeeinedaaGreatDoor
open Go Go.RowKit Go.WideShapes Go.ChangeShapes Go.Deep
section
variable {H:Type} {enc:TypeId×Value→H} {P:Program} {W:World} {held:Bool} {t e q:TypeId}
theorem open_partsT (ht:P.underlying t=some (.slice e)) (he:P.underlying e=some (.slice q)) (hq:P.underlying q=some (.int .u8)) (ce:P.cellsOf e=1) (cq:P.cellsOf q=1) {fuel:Nat} {v:Value} {y:DataW H×List MemPlace}
  (hf:DataW.trod enc P W 0 (fun _=>true) held fuel t [v]=some y) :
  ∃ (vs:List Value) (pss:List (List Nat)),RdL W v vs∧pss.length=vs.length∧(∀ i u,vs[i]? = some u→Rd W u (pss.getD i []))∧(∀ ps∈pss,Sha.Byte ps)∧vs.length≤maxLen∧∀ ps∈pss,ps.length≤maxLen:=by
 rcases open_int_rows ht he hq ce cq hf with ⟨hc,_⟩ | ⟨a,len,cap,A,L,C,Z,hc,_,hlc,hcm,_,hx⟩
 ·obtain rfl:v=.slice none 0 0:=by simpa using hc
  exact ⟨[],[],⟨none,0,rfl,Nat.le_refl _,fun h=>by simp at h⟩,rfl,fun i u h=>by simp at h,fun ps h=>by simp at h,Nat.zero_le _,fun ps h=>by simp at h⟩
 ·obtain rfl:v=.slice (some a) len cap:=by simpa using hc
  have hvl:((List.range len).map fun r=>Value.slice (A r) (L r) (C r)).length=len:=by simp
  have hpl:((List.range len).map fun r=>((Z r).take (L r)).map Int.toNat).length=len:=by simp
  have hzl:∀ r,r < cap→(((Z r).take (L r)).map Int.toNat).length=L r:=fun r hr=>by
   obtain ⟨_,h1,_,h2,_⟩:=hx r hr
   rw [List.length_map,List.length_take];omega
  have hget:∀ r,r < cap→∀ i,i < L r→(((Z r).getD i 0).toNat:Int)=(Z r).getD i 0∧((Z r).getD i 0).toNat < 256∧(((Z r).take (L r)).map Int.toNat).getD i 0=((Z r).getD i 0).toNat:=fun r hr i hi=>by
   obtain ⟨_,h1,_,h2,h3,_⟩:=hx r hr
   have hiz:i < (Z r).length:=by omega
   have e1:(Z r).getD i 0=(Z r)[i]:=by rw [List.getD_eq_getElem?_getD,List.getElem?_eq_getElem hiz];rfl
   obtain ⟨g1,g2⟩:=u8_nat (h3 _ (List.getElem_mem hiz))
   refine ⟨by rw [e1];exact g1,by rw [e1];exact g2,?_⟩
   rw [List.getD_eq_getElem?_getD,List.getElem?_map,List.getElem?_take_of_lt hi,List.getElem?_eq_getElem hiz,e1];rfl
  refine ⟨(List.range len).map fun r=>.slice (A r) (L r) (C r),(List.range len).map fun r=>((Z r).take (L r)).map Int.toNat,⟨some a,cap,by rw [hvl],by rw [hvl];exact hlc,fun h0=>?_⟩,by rw [hvl,hpl],fun i u hu=>?_,fun ps hp=>?_,by rw [hvl];omega,fun ps hp=>?_⟩
  ·rw [hvl] at h0
   obtain ⟨b,o,s⟩:=a
   have hc0:=(hx 0 (by omega)).1
   rw [show (⟨b,o,s⟩:Addr).add 0=⟨b,o,s⟩ from by simp [Addr.add]] at hc0
   obtain rfl:=spot_free hc0
   refine ⟨b,o,rfl,block_lt_of_cell hc0,fun i u hu=>?_⟩
   have hi:i < len:=by have:=(List.getElem?_eq_some_iff.1 hu).1;rwa [hvl] at this
   have e1:=(hx i (by omega)).1
   rw [show (⟨b,o,none⟩:Addr).add i=⟨b,o+i,none⟩ from by simp [Addr.add]] at e1
   rw [e1,←hu,List.getElem?_map,List.getElem?_range hi];rfl
  ·have hi:i < len:=by have:=(List.getElem?_eq_some_iff.1 hu).1;rwa [hvl] at this
   rw [List.getElem?_map,List.getElem?_range hi] at hu
   cases hu
   have hpi:((List.range len).map fun r=>((Z r).take (L r)).map Int.toNat).getD i []=((Z i).take (L i)).map Int.toNat:=by
    rw [List.getD_eq_getElem?_getD,List.getElem?_map,List.getElem?_range hi];rfl
   rw [hpi]
   obtain ⟨_,h1,h2,h3,_,h5,h6⟩:=hx i (by omega)
   refine ⟨A i,C i,by rw [hzl i (by omega)],by rw [hzl i (by omega)];exact h1,fun h0=>?_⟩
   rw [hzl i (by omega)] at h0
   cases hA:A i with
   | none=>have:=h5 hA;omega
   | some a'=>
    obtain ⟨b,o,s⟩:=a'
    obtain ⟨_,h7⟩:=h6 _ hA
    have hc0:=h7 0 (by omega)
    rw [show (⟨b,o,s⟩:Addr).add 0=⟨b,o,s⟩ from by simp [Addr.add]] at hc0
    obtain rfl:=spot_free hc0
    refine ⟨b,o,rfl,block_lt_of_cell hc0,fun j hj=>?_⟩
    rw [hzl i (by omega)] at hj
    have e1:=h7 j (by omega)
    rw [show (⟨b,o,none⟩:Addr).add j=⟨b,o+j,none⟩ from by simp [Addr.add]] at e1
    obtain ⟨g1,_,g3⟩:=hget i (by omega) j hj
    rw [e1,g3,g1]
  ·obtain ⟨r,hr,rfl⟩:=List.mem_map.1 hp
   have hr':=List.mem_range.1 hr
   intro i
   by_cases hi:i < L r
   ·obtain ⟨_,g2,g3⟩:=hget r (by omega) i hi
    rw [g3];exact g2
   ·rw [List.getD_eq_getElem?_getD,List.getElem?_eq_none (by rw [hzl r (by omega)];omega)];decide
  ·obtain ⟨r,hr,rfl⟩:=List.mem_map.1 hp
   have hr':=List.mem_range.1 hr
   obtain ⟨_,h1,h2,_⟩:=hx r (by omega)
   rw [hzl r (by omega)];omega
theorem open_parts (ht:P.underlying t=some (.slice e)) (he:P.underlying e=some (.slice q)) (hq:P.underlying q=some (.int .u8)) (ce:P.cellsOf e=1) (cq:P.cellsOf q=1) {r:Reach} {b0:Nat} {v:Value} {d:DataW H} {ps:List MemPlace}
  (hval:Value.okWide P W r b0 t v) (hd:DataW.Trod enc P W 0 (fun _=>true) held t v d ps) :
  ∃ (vs:List Value) (pss:List (List Nat)),RdL W v vs∧pss.length=vs.length∧(∀ i u,vs[i]? = some u→Rd W u (pss.getD i []))∧(∀ ps∈pss,Sha.Byte ps)∧vs.length≤maxLen∧∀ ps∈pss,ps.length≤maxLen:=by
 have hv1:v.cells.toList=[v]:=by
  simp only [Value.okWide,ht] at hval
  cases v<;>first | rfl | (simp [Cell.okWide,ht] at hval;done) | (exfalso;simp_all [Cell.okWide,Cell.ok])
 obtain ⟨fuel,hf⟩:=hd
 rw [hv1] at hf
 exact open_partsT ht he hq ce cq hf
end
end Go.Proofs.YtndgadjeeinedaaGreatDoor
/- Words for regions that draw their order and hold loads of whole arrays beside calls that make memory; arrays of bytes compared. -/
namespace Go.Proofs.YtndgadjeeinedaaGreatDoor
open Go Go.RowKit
theorem takes_row {P:Program} {ops:Array Oper} {S:World→Prop} {o:Oper} {a:Act} (ty:TypeId) (x:Operand) (ho:o.op=.load ty x) (hw:Region.wanted o (yielded ops a.tmps)=true)
  (g:Nat) (hx:a.eval x=.pointer (some ⟨g,0,none⟩)) (t:TypeId) (cs:Array Value) (d:TypeDesc) (hg:∀ w,S w→Blk w g t cs)
  (hu:P.underlying ty=some d) (hd:(match d with | .struct _ | .array _ _=>true | _=>false)=true) (hi:(P.info? ty).map (·.size)=some cs.size):YieldsIf P ops S o (.agg cs) a:=
 Or.inl ⟨hw,fun w h=>by
  unfold execOp
  simp only [ho,hx,Instr.loadAt,Instr.sureAddr,Sem.run_bind,Sem.run_pure,Result.andThen_ok,run_loadVar_row w g t ty cs (0,0) d (hg w h) hu hd hi]⟩
theorem wpList_row_w {P:Program} {ops:Array Oper} {rest:List Oper} {o:Oper} {a:Act} {w:World} {Q:Exit→Act→World→Prop} (hw:Region.wanted o (yielded ops a.tmps)=true) (ty:TypeId) (x:Operand) (ho:o.op=.load ty x)
  (g:Nat) (hx:a.eval x=.pointer (some ⟨g,0,none⟩)) (t:TypeId) (cs:Array Value) (d:TypeDesc) (hg:Blk w g t cs)
  (hu:P.underlying ty=some d) (hd:(match d with | .struct _ | .array _ _=>true | _=>false)=true) (hi:(P.info? ty).map (·.size)=some cs.size)
  (h:wpList P ops Q rest (a.put o.dst (.agg cs)) w):wpList P ops Q (o::rest) a w:=
 wpList_step fun K hK=>by
  simp only [hw,if_true]
  exact wp_load_row ty x ho g hx t cs (0,0) d hg hu hd hi (hK _ _ h)
theorem all_two {P:Program} {md:Region.Mode} {ops:Array Oper} {Q:Exit→Act→World→Prop} {S:World→Prop} {i j:Nat} {oi oj:Oper} {fuel:Nat} {listed:Array Bool} {a:Act} {w:World}
  (hr:Region.ready md ops listed=[i,j]) (hi:ops[i]? = some oi) (hj:ops[j]? = some oj) (wi:Region.wanted oi (yielded ops a.tmps)=true) (wj:Region.wanted oj (yielded ops a.tmps)=true)
  (h1:∀ K:Act→World→Prop,(∀ a' w',S w'→wpAnyH P md ops Q S fuel (listed.setIfInBounds i true) a' w'→K a' w')→oi.wp P a w K Q)
  (h2:∀ K:Act→World→Prop,(∀ a' w',S w'→wpAnyH P md ops Q S fuel (listed.setIfInBounds j true) a' w'→K a' w')→oj.wp P a w K Q):wpAnyH P md ops Q S (fuel+1) listed a w:=by
 refine wpAnyH_all hr (by simp) fun k hk=>?_
 rcases List.mem_cons.1 hk with rfl | hk
 ·unfold wpOp
  simp only [hi,wi,if_true]
  exact Or.inl (h1 (fun a' w'=>S w'∧wpAnyH P md ops Q S fuel (listed.setIfInBounds k true) a' w') fun _ _ hs hh=>⟨hs,hh⟩)
 ·obtain rfl:=List.mem_singleton.1 hk
  unfold wpOp
  simp only [hj,wj,if_true]
  exact Or.inl (h2 (fun a' w'=>S w'∧wpAnyH P md ops Q S fuel (listed.setIfInBounds k true) a' w') fun _ _ hs hh=>⟨hs,hh⟩)
theorem all_one {P:Program} {md:Region.Mode} {ops:Array Oper} {Q:Exit→Act→World→Prop} {S:World→Prop} {i:Nat} {oi:Oper} {fuel:Nat} {listed:Array Bool} {a:Act} {w:World}
  (hr:Region.ready md ops listed=[i]) (hi:ops[i]? = some oi) (wi:Region.wanted oi (yielded ops a.tmps)=true)
  (h1:∀ K:Act→World→Prop,(∀ a' w',S w'→wpAnyH P md ops Q S fuel (listed.setIfInBounds i true) a' w'→K a' w')→oi.wp P a w K Q):wpAnyH P md ops Q S (fuel+1) listed a w:=by
 refine wpAnyH_all hr (by simp) fun k hk=>?_
 obtain rfl:=List.mem_singleton.1 hk
 unfold wpOp
 simp only [hi,wi,if_true]
 exact Or.inl (h1 (fun a' w'=>S w'∧wpAnyH P md ops Q S fuel (listed.setIfInBounds k true) a' w') fun _ _ hs hh=>⟨hs,hh⟩)
theorem u8s_cell (xs:List Nat) (hb:Sha.Byte xs):u8s xs=((xs.map UInt8.ofNat).map Extern.Stop.cell).toArray:=by
 unfold u8s
 congr 1
 rw [List.map_map]
 apply List.map_congr_left
 intro x hx
 obtain ⟨i,hi,rfl⟩:=List.mem_iff_getElem.1 hx
 have h:xs[i] < 256:=by have:=hb i;simpa [List.getD,hi] using this
 simp [Extern.Stop.cell,Nat.mod_eq_of_lt h]
theorem ofNat_inj:∀ (xs ys:List Nat),Sha.Byte xs→Sha.Byte ys→(xs.map UInt8.ofNat == ys.map UInt8.ofNat)=(xs == ys)
 | [],[],_,_=>rfl
 | [],_::_,_,_=>rfl
 | _::_,[],_,_=>rfl
 | x::xs,y::ys,hx,hy=>by
  have ih:=ofNat_inj xs ys (fun i=>by simpa using hx (i+1)) (fun i=>by simpa using hy (i+1))
  have h1:x < 256:=by simpa using hx 0
  have h2:y < 256:=by simpa using hy 0
  rw [List.map_cons,List.map_cons,List.cons_beq_cons,List.cons_beq_cons,ih]
  congr 1
  rw [Bool.eq_iff_iff]
  simp only [beq_iff_eq,←UInt8.toNat_inj]
  simp [Nat.mod_eq_of_lt h1,Nat.mod_eq_of_lt h2]
theorem run_equalIn_u8s {P:Program} (w:World) (t e:TypeId) (n:Nat) (ht:P.underlying t=some (.array n e)) (he:P.underlying e=some (.int .u8)) (hsz:∀ w,(sizeOf e).run P w=.ok 1 w)
  (xs ys:List Nat) (hx:xs.length=n) (hy:ys.length=n) (hbx:Sha.Byte xs) (hby:Sha.Byte ys) :
  (Op.equalIn 10000 t (.agg (u8s xs)) (.agg (u8s ys))).run P w=.ok (xs == ys) w:=by
 rw [u8s_cell xs hbx,u8s_cell ys hby,←ofNat_inj xs ys hbx hby]
 exact run_equalIn_bytes w 9998 t e n ht he hsz (xs.map UInt8.ofNat) (ys.map UInt8.ofNat) (by rw [List.length_map,hx]) (by rw [List.length_map,hy])
end Go.Proofs.YtndgadjeeinedaaGreatDoor
