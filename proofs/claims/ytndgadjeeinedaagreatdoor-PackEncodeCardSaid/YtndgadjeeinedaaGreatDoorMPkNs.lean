/- octets.Take of lists (of numbers), whatever reads them. -/
import Derived.Test.YtndgadjeeinedaaGreatDoorMOct9s
import Derived.Test.YtndgadjeeinedaaGreatDoorMPk14s
import Derived.Test.YtndgadjeeinedaaGreatDoorMPk13N
import Derived.Test.YtndgadjeeinedaaGreatDoorMOb41s
import Derived.Test.YtndgadjeeinedaaGreatDoorMDl16s
import Derived.Test.YtndgadjeeinedaaGreatDoorMErrs
import Derived.Test.YtndgadjeeinedaaGreatDoorMPk19
import Derived.Test.YtndgadjeeinedaaGreatDoorMPk20s
import Derived.Test.YtndgadjeeinedaaGreatDoorMPk32
set_option maxRecDepth 100000
namespace Go.Proofs.YtndgadjeeinedaaGreatDoor
open Go Go.RowKit
theorem catchN_idle (q:Nat) (w:World) :
  CallsD Tryz.prog 83 #[.pointer (some ⟨q,0,none⟩)] .returning w fun e u' w'=>e=.returned (.tuple #[])∧u'=.returning∧w'=w:=by
 refine callsD_of_wpS Tryz.func83 rfl fun c₀ cs hu=>?_
 apply wpS_seq
 apply wpS_region
 simp [wpOpsS,go_sem,recoverD,hu,Tryz.ntmps83,Exit.thenS]
 rw [slots17]
 refine wpS_of_wp ?_
 go_wp2
 exact ⟨rfl,_,by rw [←hu],_,results_none rfl _ _ _,rfl,rfl,rfl⟩
theorem catchN_stop (q r:Nat) (older:List PanicEntry) (w:World) (hq:w.cell? ⟨q,0,none⟩=some (.pointer (some ⟨r,0,none⟩))) :
  CallsD Tryz.prog 83 #[.pointer (some ⟨q,0,none⟩)] (.panicking ({ v:=stopV r,recovered:=false }::older)) w fun e u' w'=>
   e=.returned (.tuple #[])∧u'=.panicking ({ v:=stopV r,recovered:=true }::older)∧Below w.heap.size w w':=by
 refine callsD_of_wpS Tryz.func83 rfl fun c₀ cs hu=>?_
 apply wpS_seq
 apply wpS_region
 simp [wpOpsS,go_sem,recoverD,hu,Tryz.ntmps83,Exit.thenS]
 rw [slots17]
 refine wpS_of_wp ?_
 have h1:=stop_eql r
 have h2:=stop_assert r
 have h3:=stop_neq r
 have hb:Hid (Below w.heap.size w (w.alloc (.cells #[.pointer (some ⟨r,0,none⟩)] 142))):=Lib.hid ((Below.refl _ _).alloc (Nat.le_refl _) _)
 have hq2:(w.alloc (.cells #[.pointer (some ⟨r,0,none⟩)] 142)).cell? ⟨q,0,none⟩=some (.pointer (some ⟨r,0,none⟩)):=(hb.out.cell (p:=⟨q,0,none⟩) (block_lt_of_cell hq)).trans hq
 go_wp2
 refine ⟨rfl,.panicking ({ v:=stopV r,recovered:=true }::older),rfl,.tuple #[],?_,rfl,rfl,hb.out⟩
 exact results_none rfl _ _ _
theorem runN_ok (K:Nat) (cap:Array Value) (r:Nat) (w:World) (R:Value→World→Prop) (hK:∀ args w,(callFunc K args).run Tryz.prog w=.ok (.enter K args) w)
  (hread:Calls Tryz.prog K (#[.pointer (some ⟨w.heap.size+1,0,none⟩)]++cap) (runBox w r) fun e w'=>∃ v,e=.returned v∧R v w') :
  Calls Tryz.prog 68 #[.pointer (some ⟨r,0,none⟩),.func (.func K) #[] cap] w fun e w'=>∃ v,e=.returned v∧R v w':=by
 have hmf:∀ (fn:Fn) (first cap:Array Value) (w:World),(Instr.makeFunc fn first cap).run Tryz.prog w=.ok (.func fn first cap) w:=fun _ _ _ _=>rfl
 go_enter_defers Tryz.func68,Tryz.ntmps68
 go_wp2_with (refine hread.mono ?_;rintro e w1 ⟨v,rfl,hr⟩;have HR:=Lib.hid hr;clear hr)
 refine leaves_cons (f:=83) (args:=#[.pointer (some ⟨w.heap.size,0,none⟩)]) (by simp) (by simp [go_sem]) ?_
 refine (catchN_idle w.heap.size _).mono ?_
 rintro e u' w'' ⟨rfl,rfl,rfl⟩
 refine ⟨_,results_tmp rfl _ _ _,?_⟩
 exact ⟨v,rfl,HR.out⟩
theorem runN_bad (K:Nat) (cap:Array Value) (r:Nat) (w:World) (R:World→Prop) (hK:∀ args w,(callFunc K args).run Tryz.prog w=.ok (.enter K args) w)
  (hread:Calls Tryz.prog K (#[.pointer (some ⟨w.heap.size+1,0,none⟩)]++cap) (runBox w r) fun e w'=>e=.panicked [{ v:=stopV r,recovered:=false }]∧R w')
  (hq:∀ a,R a→a.cell? ⟨w.heap.size,0,none⟩=some (.pointer (some ⟨r,0,none⟩))) (hR:∀ a b,R a→Below a.heap.size a b→R b) :
  Calls Tryz.prog 68 #[.pointer (some ⟨r,0,none⟩),.func (.func K) #[] cap] w fun e w'=>e=.returned (.slice none 0 0)∧R w':=by
 have hmf:∀ (fn:Fn) (first cap:Array Value) (w:World),(Instr.makeFunc fn first cap).run Tryz.prog w=.ok (.func fn first cap) w:=fun _ _ _ _=>rfl
 go_enter_defers Tryz.func68,Tryz.ntmps68
 go_wp2_with (refine hread.mono ?_;rintro e w1 ⟨rfl,hr⟩;have HR:=Lib.hid hr;clear hr)
 refine leaves_cons (f:=83) (args:=#[.pointer (some ⟨w.heap.size,0,none⟩)]) (by simp) (by simp [go_sem]) ?_
 refine (catchN_stop w.heap.size r [] _ (hq _ HR.out)).mono ?_
 rintro e u' w'' ⟨rfl,rfl,hb⟩
 exact ⟨_,results_tmp rfl _ _ _,rfl,hR _ _ HR.out hb⟩
theorem closeN_any (q r:Nat) (v0 v1 v2 v3:Value) (w:World) (hq:w.cell? ⟨q,0,none⟩=some (.pointer (some ⟨r,0,none⟩))) (hr:Blk w r 135 #[v0,v1,v2,v3]) :
  CallsD Tryz.prog 67 #[.pointer (some ⟨q,0,none⟩)] .returning w fun e u' w'=>u'=.returning∧(e=.returned (.tuple #[])∧w.grownBy w' (some r)):=by
 have HG:Hid (w.grownBy ((((w.setCell ⟨r,0,none⟩ (.slice none 0 0)).setCell ⟨r,1,none⟩ (.bool false)).setCell ⟨r,2,none⟩ (.bool false)).setCell ⟨r,3,none⟩ .nilIface) (some r)):=Lib.hid (only_setCell (p:=⟨r,3,none⟩) (only_setCell (p:=⟨r,2,none⟩) (only_setCell (p:=⟨r,1,none⟩) (only_setCell (p:=⟨r,0,none⟩) (World.grownBy.refl w (some r)) (Or.inl rfl) _) (Or.inl rfl) _) (Or.inl rfl) _) (Or.inl rfl) _)
 have c0:w.cell? ⟨r,0,none⟩=some v0:=hr.cell 0
 have c1:w.cell? ⟨r,1,none⟩=some v1:=hr.cell 1
 have c2:w.cell? ⟨r,2,none⟩=some v2:=hr.cell 2
 have c3:w.cell? ⟨r,3,none⟩=some v3:=hr.cell 3
 have z0:=hr.frozen 0
 have z1:=hr.frozen 1
 have z2:=hr.frozen 2
 have z3:=hr.frozen 3
 clear hr
 go_enter_d Tryz.func67,Tryz.ntmps67
 go_wp2
 go_end0
 exact ⟨rfl,HG.out⟩
theorem takeN_ok (K:Nat) (cap:Array Value) (S:Nat→Prop) (w0 w:World) (A:Option Addr) (n c:Nat) (xs:List Nat) (R:Nat→Value→World→Prop) (hK:∀ args w,(callFunc K args).run Tryz.prog w=.ok (.enter K args) w)
  (hw:Below w0.heap.size w0 w) (hv:Rd w0 (.slice A n c) xs) (hS:∀ b,S b→b < w.heap.size) (hread:ReadsTo K cap S w0 w xs [] R) (hR:∀ r u a b,R r u a→a.grownBy b (some r)→R r u b) :
  Calls Tryz.prog 44 #[.slice A n c,.func (.func K) #[] cap] w fun e w'=>∃ u r,e=.returned (.tuple #[u,.nilIface])∧w.heap.size≤r∧R r u w'∧Kpt S w w':=by
 have hmf:∀ (fn:Fn) (first cap:Array Value) (w:World),(Instr.makeFunc fn first cap).run Tryz.prog w=.ok (.func fn first cap) w:=fun _ _ _ _=>rfl
 have CR:=runN_ok K cap w.heap.size (takeBox w (.slice A n c)) (fun u w'=>InAt w0 w' ((takeBox w (.slice A n c)).heap.size+1) w.heap.size []∧Kpt (fun b=>b=w.heap.size∨S b) (runBox (takeBox w (.slice A n c)) w.heap.size) w'∧R w.heap.size u w') hK (hread _ _ _ (Nat.le_refl _) (by rw [takeBox_size];omega) (inAt_run hw hv) (below_takeRun w _))
 have HS:=Lib.hid hS
 have HRR:=Lib.hid hR
 clear hread hS hR
 go_enter_defers Tryz.func44,Tryz.ntmps44
 go_wp2_with (go_at_call 68;refine CR.mono ?_;rintro e w1 ⟨u,rfl,hi,hk,hr⟩;have p0:w1.cell? ⟨w.heap.size+1,0,none⟩=some (.pointer (some ⟨w.heap.size,0,none⟩)):=kpt_var HS.out hk;obtain ⟨vz,hz,⟨Az,cz,rfl,_,_⟩,_⟩:=hi;have p1:w1.cell? ⟨w.heap.size,2,none⟩=some (.bool false):=hz.r_.cell 2;have p2:w1.cell? ⟨w.heap.size,0,none⟩=some (.slice Az 0 cz):=hz.r_.cell 0;have HZ:=Lib.hid hz.r_;have HK:=Lib.hid hk;have HR:=Lib.hid hr;clear hz hk hr CR)
 refine leaves_cons (f:=67) (args:=#[.pointer (some ⟨w.heap.size+1,0,none⟩)]) (by simp) (by simp [go_sem]) ?_
 refine (closeN_any (w.heap.size+1) w.heap.size _ _ _ _ _ p0 HZ.out).mono ?_
 rintro e u' w'' ⟨rfl,rfl,hg⟩
 refine ⟨_,results_tmp2 rfl _ _ _,?_⟩
 exact ⟨u,w.heap.size,rfl,Nat.le_refl _,HRR.out _ _ _ _ HR.out hg,kpt_end HK.out hg⟩
theorem takeN_long (K:Nat) (cap:Array Value) (S:Nat→Prop) (w0 w:World) (A:Option Addr) (n c:Nat) (xs zs:List Nat) (aL:Addr) (hK:∀ args w,(callFunc K args).run Tryz.prog w=.ok (.enter K args) w)
  (hw:Below w0.heap.size w0 w) (hv:Rd w0 (.slice A n c) xs) (hS:∀ b,S b→b < w.heap.size) (hread:ReadsTo K cap S w0 w xs zs (fun _ _ _=>True)) (hz0:0 < zs.length) (hL:w0.cell? ⟨4,0,none⟩=some (ev aL)) :
  Calls Tryz.prog 44 #[.slice A n c,.func (.func K) #[] cap] w fun e w'=>e=.returned (.tuple #[.slice none 0 0,ev aL])∧Kpt S w w':=by
 have hmf:∀ (fn:Fn) (first cap:Array Value) (w:World),(Instr.makeFunc fn first cap).run Tryz.prog w=.ok (.func fn first cap) w:=fun _ _ _ _=>rfl
 have CR:=runN_ok K cap w.heap.size (takeBox w (.slice A n c)) (fun u w'=>InAt w0 w' ((takeBox w (.slice A n c)).heap.size+1) w.heap.size zs∧Kpt (fun b=>b=w.heap.size∨S b) (runBox (takeBox w (.slice A n c)) w.heap.size) w'∧True) hK (hread _ _ _ (Nat.le_refl _) (by rw [takeBox_size];omega) (inAt_run hw hv) (below_takeRun w _))
 have HS:=Lib.hid hS
 have i0:(0:Int) < (zs.length:Int):=by omega
 clear hread hS
 go_enter_defers Tryz.func44,Tryz.ntmps44
 go_wp2_with (go_at_call 68;refine CR.mono ?_;rintro e w1 ⟨u,rfl,hi,hk,_⟩;have p0:w1.cell? ⟨w.heap.size+1,0,none⟩=some (.pointer (some ⟨w.heap.size,0,none⟩)):=kpt_var HS.out hk;have p3:w1.cell? ⟨4,0,none⟩=some (ev aL):=(hi.bel.1.cell (block_lt_of_cell hL)).trans hL;obtain ⟨vz,hz,⟨Az,cz,rfl,_,_⟩,_⟩:=hi;have p1:w1.cell? ⟨w.heap.size,2,none⟩=some (.bool false):=hz.r_.cell 2;have p2:w1.cell? ⟨w.heap.size,0,none⟩=some (.slice Az zs.length cz):=hz.r_.cell 0;have HZ:=Lib.hid hz.r_;have HK:=Lib.hid hk;clear hz hk CR)
 go_quiet (fail)
 go_wp2
 refine leaves_cons (f:=67) (args:=#[.pointer (some ⟨w.heap.size+1,0,none⟩)]) (by simp) (by simp [go_sem]) ?_
 refine (closeN_any (w.heap.size+1) w.heap.size _ _ _ _ (w1.drewN nq) p0 (HZ.out.drewN nq)).mono ?_
 rintro e u' w'' ⟨rfl,rfl,hg⟩
 refine ⟨_,results_tmp2 rfl _ _ _,?_⟩
 exact ⟨rfl,kpt_end (HK.out.trans (Kpt.of_below (below_drewN (Below.refl _ _) nq))) hg⟩
theorem takeN_bad (K:Nat) (cap:Array Value) (S:Nat→Prop) (w0 w:World) (A:Option Addr) (n c:Nat) (xs:List Nat) (ae:Addr) (hK:∀ args w,(callFunc K args).run Tryz.prog w=.ok (.enter K args) w)
  (hw:Below w0.heap.size w0 w) (hv:Rd w0 (.slice A n c) xs) (hS:∀ b,S b→b < w.heap.size) (hread:ReadsBad K cap S w0 w xs ae) :
  Calls Tryz.prog 44 #[.slice A n c,.func (.func K) #[] cap] w fun e w'=>e=.returned (.tuple #[.slice none 0 0,ev ae])∧Kpt S w w':=by
 have hmf:∀ (fn:Fn) (first cap:Array Value) (w:World),(Instr.makeFunc fn first cap).run Tryz.prog w=.ok (.func fn first cap) w:=fun _ _ _ _=>rfl
 have CR:=runN_bad K cap w.heap.size (takeBox w (.slice A n c)) (fun w'=>Dead w' w.heap.size (ev ae)∧Kpt (fun b=>b=w.heap.size∨S b) (runBox (takeBox w (.slice A n c)) w.heap.size) w') hK (hread _ _ _ (Nat.le_refl _) (by rw [takeBox_size];omega) (inAt_run hw hv) (below_takeRun w _)) (fun a h=>kpt_var2 hS h.2) (fun a b h k=>⟨h.1.grown k,h.2.trans (Kpt.of_below k)⟩)
 have HS:=Lib.hid hS
 clear hread hS
 go_enter_defers Tryz.func44,Tryz.ntmps44
 go_wp2_with (go_at_call 68;refine CR.mono ?_;rintro e w1 ⟨rfl,hd,hk⟩;have p0:w1.cell? ⟨w.heap.size+1,0,none⟩=some (.pointer (some ⟨w.heap.size,0,none⟩)):=kpt_var HS.out hk;obtain ⟨vd,hd⟩:=hd;have p1:w1.cell? ⟨w.heap.size,2,none⟩=some (.bool true):=hd.cell 2;have p2:w1.cell? ⟨w.heap.size,3,none⟩=some (ev ae):=hd.cell 3;have HZ:=Lib.hid hd;have HK:=Lib.hid hk;clear hd hk CR)
 go_quiet (fail)
 go_wp2
 refine leaves_cons (f:=67) (args:=#[.pointer (some ⟨w.heap.size+1,0,none⟩)]) (by simp) (by simp [go_sem]) ?_
 refine (closeN_any (w.heap.size+1) w.heap.size _ _ _ _ (w1.drewN nq) p0 (HZ.out.drewN nq)).mono ?_
 rintro e u' w'' ⟨rfl,rfl,hg⟩
 refine ⟨_,results_tmp2 rfl _ _ _,?_⟩
 exact ⟨rfl,kpt_end (HK.out.trans (Kpt.of_below (below_drewN (Below.refl _ _) nq))) hg⟩
def DecN (w:World) (kn:List Pk.It) (a:Nat→Addr) (xs:List Nat) (e:Ending) (w':World):Prop:=
 match Pk.decode (kn.map Pk.It.item) xs with
 | .bad c=>e=.returned (.tuple #[nilV,ecode a c])∧Below w.heap.size w w'
 | .ok l=>∃ (v:Value) (out:List Pk.It),out.map Pk.It.item=l∧e=.returned (.tuple #[v,.nilIface])∧(∃ B,w.heap.size≤B∧w'.ownsRow B 3 1 v out.length (out.map fun p=>Value.int .i64 (p.depth:Int)))∧Below w.heap.size w w'
theorem enter_eachN (args:Array Value) (w:World):(callFunc 45 args).run Tryz.prog w=.ok (.enter 45 args) w:=by kernel_rfl
set_option maxHeartbeats 4000000 in
theorem eachON_any {A:Option Addr} {c:Nat} {kn:List Pk.It} (a:Nat→Addr) (xs:List Nat) (Ab:Option Addr) (nb cb:Nat) (w:World) (hv:Rd w (.slice Ab nb cb) xs) (hb:Sha.Byte xs) (hz:xs.length≤1000000) (hk:Known w A c kn) (ht:Tabs w) (hS:KSents w a) :
  Calls Tryz.prog 21 #[.slice Ab nb cb,.slice A kn.length c,.func (.func 22) #[] #[]] w (DecN w kn a xs):=by
 have hn:nb=xs.length:=by obtain ⟨_,_,hv,_⟩:=hv;injection hv
 obtain ⟨w2,hw2⟩:∃ w2,w2=(w.alloc (.cells #[.slice A kn.length c] 22)).alloc (.cells #[.func (.func 22) #[] #[]] 66):=⟨_,rfl⟩
 have b2:Below w.heap.size w w2:=hw2▸((Below.refl _ _).alloc (Nat.le_refl _) _).alloc (by simp) _
 have s2:w2.heap.size=w.heap.size+2:=by rw [hw2];simp
 have hkb:Blk w2 w.heap.size 22 #[.slice A kn.length c]:=by rw [hw2];exact (Blk.new w _ _).alloc _
 have hab:Blk w2 (w.heap.size+1) 66 #[.func (.func 22) #[] #[]]:=by
  rw [hw2]
  have h:=Blk.new (w.alloc (.cells #[.slice A kn.length c] 22)) 66 #[.func (.func 22) #[] #[]]
  rwa [World.size_alloc] at h
 have hmf:∀ (fn:Fn) (first cap:Array Value) (w:World),(Instr.makeFunc fn first cap).run Tryz.prog w=.ok (.func fn first cap) w:=fun _ _ _ _=>rfl
 have e2:=hw2.symm
 by_cases h2000:2000 < xs.length
 ·have HD:Hid (Pk.decode (kn.map Pk.It.item) xs=.bad 13):=Lib.hid (by unfold Pk.decode;rw [if_pos h2000])
  have pL:w2.cell? ⟨1,0,none⟩=some (ev (a 12)):=(b2.cell (block_lt_of_cell (hS 12 (by omega)).var)).trans (hS 12 (by omega)).var
  have g1:(2000:Int) < (nb:Int):=by omega
  have HB2:=Lib.hid b2
  clear hw2 b2 hkb hab hS ht hk hv hb h2000 hn hz s2
  go_enter Tryz.func21,Tryz.ntmps21
  go_wp2
  go_quiet (fail)
  go_wp2
  go_ret2
  unfold DecN
  rw [HD.out]
  exact ⟨rfl,below_drewN HB2.out _⟩
 have HDE:Hid (Pk.decode (kn.map Pk.It.item) xs=match Pk.readR (kn.map Pk.It.item) xs with | .bad e=>.bad e | .ok q=>if q.2.length=0 then .ok q.1 else .bad 3):=Lib.hid (Pk.decode_of _ (by omega))
 have g1:¬(2000:Int) < (nb:Int):=by omega
 have CE:∀ (w3:World) (i r:Nat),w2.heap.size≤r→w2.heap.size≤i→InAt w w3 i r xs→Below w2.heap.size w2 w3→Calls Tryz.prog 45 (#[.pointer (some ⟨i,0,none⟩)]++#[.pointer (some ⟨w.heap.size,0,none⟩),.pointer (some ⟨w.heap.size+1,0,none⟩)]) w3 (EachN w w3 i r kn a xs):=fun w3 i r hr hi hin hb3=>
  eachN_any a xs hb hin (by obtain ⟨v,h,_⟩:=hin;exact h.i_.lt) (hkb.below hb3 hkb.lt) (hab.below hb3 hab.lt) (by constructor<;>omega) hk ht hS
 unfold EachN at CE
 have HB2:=Lib.hid b2
 have HKB:Hid (∀ c':Nat,Pk.readR (kn.map Pk.It.item) xs=.bad c'→Pk.decode (kn.map Pk.It.item) xs=.bad c'):=Lib.hid (fun c' h=>by rw [HDE.out,h])
 have e2:=hw2.symm
 cases hrr:Pk.readR (kn.map Pk.It.item) xs with
 | bad c'=>
  simp only [hrr] at CE
  have HD:=Lib.hid (HKB.out c' hrr)
  have CT:=takeN_bad 45 #[.pointer (some ⟨w.heap.size,0,none⟩),.pointer (some ⟨w.heap.size+1,0,none⟩)] (fun _=>False) w w2 Ab nb cb xs (a (c' - 1)) enter_eachN b2 hv (fun _ h=>h.elim) (fun w3 i r hr hi hin hb3=>(CE w3 i r hr hi hin hb3).mono fun e w' h=>⟨h.1,h.2.1,⟨h.2.2.os,h.2.2.tape,h.2.2.output,h.2.2.size,fun b hb hn=>h.2.2.block b hb (fun e=>hn (Or.inl e))⟩⟩)
  clear CE hrr hw2 b2 hkb hab hS ht hk hv hb h2000 hn hz s2 HDE HKB
  go_enter Tryz.func21,Tryz.ntmps21
  go_wp2_with (go_at_call 44;refine pause ?_)
  unfold Paused
  refine CT.mono ?_
  rintro e w5 ⟨rfl,hk5⟩
  have HB5:=Lib.hid (below_next HB2.out hk5.below)
  clear hk5 CT
  go_wp2
  go_ret2
  unfold DecN
  rw [HD.out]
  exact ⟨rfl,HB5.out⟩
 | ok q=>
  simp only [hrr] at CE
  obtain ⟨its,rest⟩:=q
  have hD:=HDE.out
  rw [hrr] at hD
  simp only at CE hD
  by_cases h0:rest.length=0
  ·rw [if_pos h0] at hD
   obtain rfl:rest=[]:=List.eq_nil_of_length_eq_zero h0
   have HD:=Lib.hid hD
   have CT:=takeN_ok 45 #[.pointer (some ⟨w.heap.size,0,none⟩),.pointer (some ⟨w.heap.size+1,0,none⟩)] (fun _=>False) w w2 Ab nb cb xs (fun r u w'=>∃ out,out.map Pk.It.item=its∧LstN w' r u out) enter_eachN b2 hv (fun _ h=>h.elim) (fun w3 i r hr hi hin hb3=>(CE w3 i r hr hi hin hb3).mono fun e w' ⟨v,out,h1,h2,h3,h4,h5⟩=>⟨v,h2,h3,⟨h4.os,h4.tape,h4.output,h4.size,fun b hb hn=>h4.block b hb (fun e=>hn (Or.inl e))⟩,out,h1,h5⟩) (fun r u x y ⟨out,h1,h2⟩ hg=>⟨out,h1,h2.only hg⟩)
   clear CE hrr hw2 hkb hab hS ht hk hv hb h2000 hn hz HDE HKB hD h0 b2
   have HS2:=Lib.hid s2
   clear s2
   go_enter Tryz.func21,Tryz.ntmps21
   go_wp2_with (go_at_call 44;refine pause ?_)
   unfold Paused
   refine CT.mono ?_
   rintro e w5 ⟨u,r,rfl,hr,⟨out,ho,hl⟩,hk5⟩
   have HF:Hid (DecN w kn a xs (.returned (.tuple #[u,.nilIface])) w5):=Lib.hid (by
    unfold DecN
    rw [HD.out]
    obtain ⟨⟨B,hB,hown⟩,hrd⟩:=hl
    exact ⟨u,out,ho,rfl,⟨B,by have h1:=HS2.out;omega,hown⟩,below_next HB2.out hk5.below⟩)
   clear hl hk5 CT hr
   go_wp2
   go_ret2
   exact HF.out
  ·rw [if_neg h0] at hD
   have HD:=Lib.hid hD
   have CT:=takeN_long 45 #[.pointer (some ⟨w.heap.size,0,none⟩),.pointer (some ⟨w.heap.size+1,0,none⟩)] (fun _=>False) w w2 Ab nb cb xs rest (a 2) enter_eachN b2 hv (fun _ h=>h.elim) (fun w3 i r hr hi hin hb3=>(CE w3 i r hr hi hin hb3).mono fun e w' ⟨v,out,h1,h2,h3,h4,h5⟩=>⟨v,h2,h3,⟨h4.os,h4.tape,h4.output,h4.size,fun b hb hn=>h4.block b hb (fun e=>hn (Or.inl e))⟩,trivial⟩) (by omega) (hS 2 (by omega)).var
   clear CE hrr hw2 hkb hab hS ht hk hv hb h2000 hn hz HDE HKB hD h0 b2 s2
   go_enter Tryz.func21,Tryz.ntmps21
   go_wp2_with (go_at_call 44;refine pause ?_)
   unfold Paused
   refine CT.mono ?_
   rintro e w5 ⟨rfl,hk5⟩
   have HB5:=Lib.hid (below_next HB2.out hk5.below)
   clear hk5 CT
   go_wp2
   go_ret2
   unfold DecN
   rw [HD.out]
   exact ⟨rfl,HB5.out⟩
theorem decodeN_any {A:Option Addr} {c:Nat} {kn:List Pk.It} (a:Nat→Addr) (xs:List Nat) (Ab:Option Addr) (nb cb:Nat) (w:World) (hv:Rd w (.slice Ab nb cb) xs) (hb:Sha.Byte xs) (hz:xs.length≤1000000) (hk:Known w A c kn) (ht:Tabs w) (hS:KSents w a) :
  Calls Tryz.prog 10 #[.slice Ab nb cb,.slice A kn.length c] w (DecN w kn a xs):=by
 have CE:=eachON_any a xs Ab nb cb w hv hb hz hk ht hS
 clear hv hb hz hk ht hS
 unfold DecN at CE
 go_enter Tryz.func10,Tryz.ntmps10
 cases hd:Pk.decode (kn.map Pk.It.item) xs with
 | bad c'=>
  rw [hd] at CE
  simp only at CE
  have HD:=Lib.hid hd
  clear hd
  go_wp2_with (go_at_call 21;refine CE.mono ?_;rintro e w' ⟨rfl,hb⟩;have HB:=Lib.hid hb;clear hb)
  go_ret2
  unfold DecN
  rw [HD.out]
  exact ⟨rfl,HB.out⟩
 | ok l=>
  rw [hd] at CE
  simp only at CE
  have HD:=Lib.hid hd
  clear hd
  go_wp2_with (go_at_call 21;refine CE.mono ?_;rintro e w' ⟨v,out,ho,rfl,hl,hb⟩;have HO:=Lib.hid ho;have HL:=Lib.hid hl;have HB:=Lib.hid hb;clear ho hl hb)
  go_ret2
  unfold DecN
  rw [HD.out]
  exact ⟨v,out,HO.out,rfl,HL.out,HB.out⟩
namespace Pk
theorem parse_bad_le {t:List Nat} {e:Nat} (h:Ob.parse t=.bad e):e≤22:=by
 have hf:∀ o,Prs.fin o=.bad e→e≤22:=fun o h=>by
  unfold Prs.fin at h
  split at h
  ·cases h
  ·cases h;omega
 unfold Ob.parse at h
 split at h
 ·cases h;omega
 ·repeat' split at h
  all_goals first | exact hf _ h | (cases h;omega)
theorem adm_le (out:List Item) (t:List Nat):adm out t≤22:=by
 unfold adm
 split
 ·omega
 ·split
  ·rename_i e he
   exact parse_bad_le he
  ·split<;>omega
end Pk
theorem ksents_of {w:World} {a:Nat→Addr} (h:Sents w a):KSents w a:=fun k hk=>h k (by omega)
theorem pnum_code (c:Nat) (h:1≤c∧c≤22) (a:Nat→Addr) (w:World) (hs:Sents w a) :
  Calls Tryz.prog 8 #[ecode a c] w fun e w'=>e=.returned (.int .i64 (c:Int))∧Below w.heap.size w w':=by
 have h1:=num_any (c - 1) (by omega) a w hs
 rw [show c - 1+1=c by omega] at h1
 exact h1
theorem pk_items_texts {out:List Pk.It} {l:List Pk.Item} (h:out.map Pk.It.item=l):out.map (·.text)=l.map (·.1):=by
 rw [←h,List.map_map];rfl
end Go.Proofs.YtndgadjeeinedaaGreatDoor
/- What is encoded is made of bytes, and not too long. -/
namespace Go.Proofs.YtndgadjeeinedaaGreatDoor.Pk
open Go Go.Proofs.YtndgadjeeinedaaGreatDoor
theorem lays_mem {last:Item} {t:List Nat} (h1:last.1.length≤300) (h2:t.length≤300) (hb:Sha.Byte t):∀ x∈(lays last t).1,x < 256:=by
 unfold lays
 split
 ·have hm:=mk_len_le last.1 t
  have hk:=Dl.mem_mk h1 h2 hb
  intro x hx
  simp only [List.mem_append,List.mem_cons,List.not_mem_nil,or_false] at hx
  rcases hx with (rfl | hx) | (rfl | rfl) | hx
  ·omega
  ·exact Dl.mem_byte (sum_id last.1).2 x hx
  ·omega
  ·omega
  ·exact Dl.mem_byte hk x hx
 ·intro x hx
  simp only [List.mem_append,List.mem_cons,List.not_mem_nil,or_false] at hx
  rcases hx with rfl | (rfl | rfl) | hx
  ·omega
  ·omega
  ·omega
  ·exact Dl.mem_byte hb x hx
theorem encGo_byte:∀ (l:List (List Nat)) (out:List Item) (last:Item) (pk b:List Nat),encGo l out last pk=.ok b→Sha.Byte pk→(∀ t∈l,Sha.Byte t)→last.1.length≤300→Sha.Byte b∧b.length≤2000
 | [],out,last,pk,b,h,hp,hl,h3=>by
  unfold encGo at h
  split at h
  ·cases h
  ·cases h
   exact ⟨hp,by omega⟩
 | t::r,out,last,pk,b,h,hp,hl,h3=>by
  unfold encGo at h
  split at h
  ·rename_i ha
   have ht:=(admit_zero ha).1
   have h1:=hl t (by simp)
   refine encGo_byte r _ _ _ b h (Dl.byte_of_mem fun x hx=>?_) (fun u hu=>hl u (by simp [hu])) ht
   rcases List.mem_append.1 hx with hx | hx
   ·exact Dl.mem_byte hp x hx
   ·exact lays_mem h3 ht h1 x hx
  ·cases h
theorem encode_byte {l:List (List Nat)} {b:List Nat} (h:encode l=.ok b) (hl:∀ t∈l,Sha.Byte t):Sha.Byte b∧b.length≤2000:=by
 unfold encode at h
 split at h
 ·cases h
 ·refine encGo_byte l [] ([],0) [l.length] b h (Dl.byte_of_mem fun x hx=>?_) hl (by simp)
  rw [List.mem_singleton.1 hx]
  omega
end Go.Proofs.YtndgadjeeinedaaGreatDoor.Pk
/- The law PackThin. -/
namespace Go.Proofs.YtndgadjeeinedaaGreatDoor
open Go Go.RowKit
namespace Pk
theorem encGo_le:∀ (l:List (List Nat)) (out:List Item) (last:Item) (pk:List Nat) (c:Nat),encGo l out last pk=.bad c→1≤c∧c≤22
 | [],_,_,pk,c,h=>by
  unfold encGo at h
  split at h
  ·cases h;omega
  ·cases h
 | t::r,out,last,pk,c,h=>by
  unfold encGo at h
  split at h
  ·exact encGo_le r _ _ _ c h
  ·rename_i hne
   cases h
   have:=adm_le out t
   exact ⟨by omega,this⟩
theorem encode_le {l:List (List Nat)} {c:Nat} (h:encode l=.bad c):1≤c∧c≤22:=by
 unfold encode at h
 split at h
 ·cases h;omega
 ·exact encGo_le _ _ _ _ _ h
end Pk
set_option maxHeartbeats 8000000 in
theorem pencode_law (A:Option Addr) (n c:Nat) (its:List Pk.It) (a:Nat→Addr) (w:World) (hT:Txts w (.slice A n c) its) (ht:Tabs w) (hS:Sents w a) (hm:MX w) :
  Calls Tryz.prog 3 #[.slice A n c] w fun e w'=>e=.returned (.bool true)∧Below w.heap.size w w':=by
 have AL:=palive_any w
 have LG:=fun (w1:World) (h1:Below w.heap.size w w1)=>long_any A n c its w1 (hT.below h1)
 have HT:=Lib.hid hT
 have HTB:=Lib.hid ht
 have HS:=Lib.hid hS
 have HM:=Lib.hid hm
 clear hT ht hS hm
 go_enter Tryz.func3,Tryz.ntmps3
 go_wp2_with (go_at_call 4;refine pause ?_)
 unfold Paused
 refine AL.mono ?_
 rintro e w1 ⟨rfl,hb1⟩
 have H1:=Lib.hid hb1
 have LG1:=LG w1 hb1
 clear hb1 AL LG
 go_wp2_with (go_at_call 5;refine pause ?_)
 unfold Paused
 refine LG1.mono ?_
 rintro e w2 ⟨β,rfl,hβ,rfl⟩
 rcases β with _ | _
 rotate_left
 ·go_wp2
  go_ret
  exact ⟨rfl,H1.out⟩
 obtain ⟨h70,h400⟩:=hβ rfl
 have H70:=Lib.hid h70
 have H400:Hid (∀ p∈its,p.text.length≤100000):=Lib.hid (fun p hp=>by have:=h400 p hp;omega)
 clear LG1 hβ h70 h400
 have CE:=encode_any A n c its a w2 (HT.out.below H1.out) H400.out (HTB.out.below H1.out (Nat.le_refl _)) ((ksents_of HS.out).below H1.out (Nat.le_refl _)) (HM.out.below H1.out (Nat.le_refl _))
 have CR:=fun (w3:World) (h3:Below w.heap.size w w3)=>rencode_any A n c its w3 (HT.out.below h3) (by have:=H70.out;omega) H400.out
 unfold EncPost at CE
 unfold REncPost at CR
 obtain ⟨l,hl⟩:∃ l,l=its.map (·.text):=⟨_,rfl⟩
 rw [←hl] at CE CR
 have HL:=Lib.hid hl
 have HLB:Hid (∀ t∈l,Sha.Byte t):=Lib.hid (fun t ht=>by
  rw [hl] at ht
  obtain ⟨p,hp,rfl⟩:=List.mem_map.1 ht
  exact (HT.out.rd p hp).2)
 have hk:(∃ k,Pk.encode l=.bad k)∨∃ b,Pk.encode l=.ok b:=by cases Pk.encode l with | bad k=>exact Or.inl ⟨k,rfl⟩ | ok b=>exact Or.inr ⟨b,rfl⟩
 clear hl
 rcases hk with ⟨k,hk⟩ | ⟨b,hk⟩
 ·have HC:=Lib.hid (Pk.encode_le hk)
  have HK:=Lib.hid hk
  clear hk
  go_wp2_with (go_at_call 6;refine pause ?_)
  unfold Paused
  refine CE.mono ?_
  rintro e w3 ⟨hbad,hok⟩
  obtain ⟨rfl,hb3⟩:=hbad k HK.out
  have H3:=Lib.hid (below_next H1.out hb3)
  clear hb3 CE hbad hok
  go_wp2_with (go_at_call 7;refine pause ?_)
  unfold Paused
  refine (CR w3 H3.out).mono ?_
  rintro e w4 ⟨hb4,hbad,hok⟩
  obtain rfl:=hbad k HK.out
  have H4:=Lib.hid (below_next H3.out hb4)
  clear hb4 CR hbad hok
  go_wp2_with (go_at_call 8;refine pause ?_)
  unfold Paused
  refine (pnum_code k HC.out a w4 (HS.out.below H4.out (Nat.le_refl _))).mono ?_
  rintro e w5 ⟨rfl,hb5⟩
  have H5:=Lib.hid (below_next H4.out hb5)
  have gk:¬((k:Nat):Int)=0:=by have:=HC.out;omega
  clear hb5
  have q1:(convert 25 9 (.slice none 0 0)).run Tryz.prog w5=.ok (.string (textOf [])) w5:=conv_rd ⟨none,0,rfl,Nat.le_refl _,fun h=>absurd h (by simp)⟩
  go_wp2
  go_ret
  exact ⟨rfl,H5.out⟩
 ·obtain ⟨jts,hdc,hjt⟩:=Pk.encode_back [] hk
  have HBY:=Lib.hid (Pk.encode_byte hk HLB.out)
  have HDC:=Lib.hid hdc
  have HJT:=Lib.hid hjt
  have HGD:=Lib.hid (Pk.decode_good hdc)
  have HK:=Lib.hid hk
  clear hk hdc hjt
  go_wp2_with (go_at_call 6;refine pause ?_)
  unfold Paused
  refine CE.mono ?_
  rintro e w3 ⟨hbad,hok⟩
  obtain ⟨Ab,cb,rfl,hr3,hb3⟩:=hok b HK.out
  have H3:=Lib.hid (below_next H1.out hb3)
  have HR3:=Lib.hid hr3
  clear hb3 CE hbad hok hr3
  go_wp2_with (go_at_call 7;refine pause ?_)
  unfold Paused
  refine (CR w3 H3.out).mono ?_
  rintro e w4 ⟨hb4,hbad,hok⟩
  obtain ⟨v4,rfl,hp4⟩:=hok b HK.out
  obtain ⟨Ar,cr,hvr⟩:=own_slice hp4.own
  subst hvr
  have H4:=Lib.hid (below_next H3.out hb4)
  have HR4:Hid (Rd w4 (.slice Ab b.length cb) b):=Lib.hid (HR3.out.below hb4 (Nat.le_refl _))
  have HP4:=Lib.hid hp4.rd
  clear hb4 CR hbad hok hp4 HR3
  go_wp2_with (go_at_call 8;refine pause ?_)
  unfold Paused
  refine (num_nil w4).mono ?_
  rintro e w5 ⟨rfl,rfl⟩
  obtain ⟨T,hT⟩:∃ T,T=textOf b:=⟨_,rfl⟩
  have q1:(convert 25 9 (.slice Ab b.length cb)).run Tryz.prog w5=.ok (.string T) w5:=(by rw [hT];exact conv_rd HR4.out)
  have q2:(convert 25 9 (.slice Ar b.length cr)).run Tryz.prog w5=.ok (.string T) w5:=(by rw [hT];exact conv_rd HP4.out)
  obtain ⟨nb,hnb⟩:∃ n,n=b.length:=⟨_,rfl⟩
  rw [←hnb] at HR4 HP4 q1 q2 ⊢
  have CD:=decodeL_any (kn:=[]) a b Ab nb cb w5 HR4.out HBY.out.1 (by have:=HBY.out.2;omega) (known_nil w5) (HTB.out.below H4.out (Nat.le_refl _)) ((ksents_of HS.out).below H4.out (Nat.le_refl _))
  have CN:=fun (w6:World) (h6:Below w5.heap.size w5 w6)=>decodeN_any (kn:=[]) a b Ab nb cb w6 (HR4.out.below h6 (Nat.le_refl _)) HBY.out.1 (by have:=HBY.out.2;omega) (known_nil w6) (HTB.out.below (below_next H4.out h6) (Nat.le_refl _)) ((ksents_of HS.out).below (below_next H4.out h6) (Nat.le_refl _))
  unfold DecL at CD
  unfold DecN at CN
  rw [show ([]:List Pk.It).map Pk.It.item=[] from rfl,HDC.out] at CD CN
  simp only at CD CN
  clear hT hnb
  have HCN:=Lib.hid CN
  clear CN
  go_wp2_with (go_at_call 9;refine pause ?_)
  unfold Paused
  refine CD.mono ?_
  rintro e w6 ⟨v6,out6,ho6,rfl,htx,hb6⟩
  have H56:=Lib.hid hb6
  have H6:=Lib.hid (below_next H4.out hb6)
  have HO6:=Lib.hid ho6
  have HX6:=Lib.hid htx
  clear hb6 CD ho6 htx q1 q2
  go_wp2_with (go_at_call 10;refine pause ?_)
  unfold Paused
  refine (HCN.out w6 H56.out).mono ?_
  rintro e w7 ⟨v7,out7,ho7,rfl,⟨B7,hB7,hown7⟩,hb7⟩
  have H7:=Lib.hid (below_next H6.out hb7)
  have HX7:=Lib.hid (HX6.out.below hb7)
  have HO7:=Lib.hid ho7
  obtain ⟨Ad,cd,hvd⟩:=own_slice hown7
  subst hvd
  have HD7:=Lib.hid hown7
  clear hb7 HCN ho7 hB7 hown7 HX6
  have CS:=psameLists_yes v6 (.slice A n c) (out6.map (·.val)) (its.map (·.val)) l w7 (by have h1:=HX7.out.ll;rw [pk_items_texts HO6.out,HJT.out] at h1;exact h1) (by rw [HL.out];exact (HT.out.below H7.out).ll) (by rw [HL.out,List.length_map];have:=H70.out;omega)
  go_wp2_with (go_at_call 11;refine pause ?_)
  unfold Paused
  refine CS.mono ?_
  rintro e w8 ⟨rfl,m,rfl⟩
  have H8:=Lib.hid (below_drewN H7.out m)
  have hd8:(w7.drewN m).ownsRow B7 3 1 (.slice Ad out7.length cd) out7.length (out7.map fun p=>Value.int .i64 (p.depth:Int)):=HD7.out
  have HD8:=Lib.hid hd8
  clear CS hd8 HD7 HX7
  generalize w7.drewN m=w9 at H8 HD8 ⊢
  have HR8:=Lib.hid (rdl_own HD8.out (by rw [List.length_map]))
  have HDP:Hid (∀ p∈out7,p.depth≤5):=Lib.hid (fun p hp=>(HGD.out.1 p.item (by rw [←HO7.out];exact List.mem_map.2 ⟨p,hp,rfl⟩)).2.2)
  obtain ⟨nd,hnd⟩:∃ n,n=out7.length:=⟨_,rfl⟩
  rw [←hnd] at HR8 ⊢
  have HND:=Lib.hid hnd
  have HN64:Hid (nd≤64):=Lib.hid (by have h1:=HGD.out.2.2;rw [←HO7.out,List.length_map] at h1;omega)
  clear HD8 hnd
  go_wp2
  go_loopw [63] (fun i wr=>∃ k:Nat,k≤nd∧i=.int .i64 k∧wr=w9) (fun i _=>nd - (intOf i).toNat)
  case atStart=>exact ⟨0,Nat.zero_le _,rfl,rfl⟩
  case round=>
   obtain ⟨k,hk,rfl,rfl⟩:=hrel
   by_cases hlt:k < nd
   ·have hki:k < out7.length:=by rw [←HND.out];exact hlt
    have i1:((k:Nat):Int) < nd:=by omega
    have i2:(0:Int)≤((k:Nat):Int):=by omega
    have i3:((nd:Nat):Int)≤64:=by have:=HN64.out;omega
    obtain ⟨A',c',hv,_,hA⟩:=HR8.out
    injection hv with e1 e2 e3
    subst e1
    obtain ⟨bb,oo,rfl,_,hx⟩:=hA (by rw [List.length_map];omega)
    have pc0:=hx k _ (by rw [List.getElem?_map,List.getElem?_eq_getElem hki];rfl)
    have hdp:=HDP.out _ (List.getElem_mem hki)
    have pc:wr.cell? { block:=bb,off:=oo+k }=some (Value.int .i64 ((out7[k].depth:Nat):Int)):=pc0
    clear pc0
    generalize out7[k].depth=dk at pc hdp
    have j1:((dk:Nat):Int)≤5:=by omega
    have j2:(0:Int)≤((dk:Nat):Int):=by omega
    have j3:¬((dk:Nat):Int) < 0:=by omega
    have j4:¬(5:Int) < ((dk:Nat):Int):=by omega
    have HLT:Hid (k+1≤nd):=Lib.hid hlt
    clear hki hA hx hdp hk hlt e2 e3
    go_wp2
    go_roundw
    case rel=>exact ⟨k+1,HLT.out,by go_num,trivial⟩
    case measure=>have h5:=HLT.out;simp [intOf];omega
   ·obtain rfl:k=nd:=by omega
    have ik:¬((k:Nat):Int) < k:=by omega
    clear hk hlt
    go_wp2
    go_ret
    exact ⟨rfl,H8.out⟩
end Go.Proofs.YtndgadjeeinedaaGreatDoor
