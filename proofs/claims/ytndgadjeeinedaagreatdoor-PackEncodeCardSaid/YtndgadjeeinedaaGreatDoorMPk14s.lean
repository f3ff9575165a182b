/- Decode: the objects of any bytes. -/
import Derived.Test.YtndgadjeeinedaaGreatDoorMPk12s
import Derived.Test.YtndgadjeeinedaaGreatDoorMOb35s
set_option maxRecDepth 100000
namespace Go.Proofs.YtndgadjeeinedaaGreatDoor
open Go Go.RowKit
structure Txts (w:World) (v:Value) (its:List Pk.It):Prop where
 row:RdL w v (its.map (·.val))
 rd:∀ p∈its,Rd w p.val p.text∧Sha.Byte p.text
theorem rdl_below {w w':World} {v:Value} {vs:List Value} (h:RdL w v vs) {B:Nat} (hb:Below B w w') (hB:w.heap.size≤B):RdL w' v vs:=by
 obtain ⟨A,c,hv,hc,hA⟩:=h
 refine ⟨A,c,hv,hc,fun h0=>?_⟩
 obtain ⟨b,o,ha,hl,hx⟩:=hA h0
 exact ⟨b,o,ha,Nat.lt_of_lt_of_le hl hb.size,fun i u hu=>(hb.cell (p:=⟨b,o+i,none⟩) (by show b < B;omega)).trans (hx i u hu)⟩
theorem Txts.below {w w':World} {v:Value} {its:List Pk.It} (h:Txts w v its) (hb:Below w.heap.size w w'):Txts w' v its:=
 ⟨rdl_below h.row hb (Nat.le_refl _),fun p hp=>⟨(h.rd p hp).1.below hb (Nat.le_refl _),(h.rd p hp).2⟩⟩
theorem rdl_own {w:World} {B k:Nat} {v:Value} {cs:List Value} {e:TypeId} (h:w.ownsRow B e 1 v k cs) (hk:cs.length=k):RdL w v cs:=by
 rcases h.2 with ⟨hv,h0⟩ | ⟨g,cap,cur,hv,hb,hh,hcap,_,hcs,hxs⟩
 ·exact ⟨none,0,by rw [hv,hk,h0],by omega,fun h1=>by omega⟩
 ·refine ⟨_,cap,by rw [hv,hk],by omega,fun _=>⟨g,0,rfl,(Array.getElem?_eq_some_iff.1 hh).1,fun i u hu=>?_⟩⟩
  rw [Nat.zero_add,cell_of_row _ _ _ _ _ _ hh]
  have h1:=congrArg (·[i]?) hxs
  have hi:=(List.getElem?_eq_some_iff.1 hu).1
  simp only [List.getElem?_take,if_pos (show i < k * 1 by omega)] at h1
  rw [show cur[i]? = cur.toList[i]? by simp,h1]
  exact hu
def DecL (w:World) (kn:List Pk.It) (a:Nat→Addr) (xs:List Nat) (e:Ending) (w':World):Prop:=
 match Pk.decode (kn.map Pk.It.item) xs with
 | .bad c=>e=.returned (.tuple #[nilV,ecode a c])∧Below w.heap.size w w'
 | .ok l=>∃ v out,out.map Pk.It.item=l∧e=.returned (.tuple #[v,.nilIface])∧(Txts w' v out)∧Below w.heap.size w w'
theorem enter_eachL (args:Array Value) (w:World):(callFunc 39 args).run Tryz.prog w=.ok (.enter 39 args) w:=by kernel_rfl
set_option maxHeartbeats 4000000 in
theorem eachOL_any {A:Option Addr} {c:Nat} {kn:List Pk.It} (a:Nat→Addr) (xs:List Nat) (Ab:Option Addr) (nb cb:Nat) (w:World) (hv:Rd w (.slice Ab nb cb) xs) (hb:Sha.Byte xs) (hz:xs.length≤1000000) (hk:Known w A c kn) (ht:Tabs w) (hS:KSents w a) :
  Calls Tryz.prog 19 #[.slice Ab nb cb,.slice A kn.length c,.func (.func 20) #[] #[]] w (DecL w kn a xs):=by
 have hn:nb=xs.length:=by obtain ⟨_,_,hv,_⟩:=hv;injection hv
 obtain ⟨w2,hw2⟩:∃ w2,w2=(w.alloc (.cells #[.slice A kn.length c] 22)).alloc (.cells #[.func (.func 20) #[] #[]] 64):=⟨_,rfl⟩
 have b2:Below w.heap.size w w2:=hw2▸((Below.refl _ _).alloc (Nat.le_refl _) _).alloc (by simp) _
 have s2:w2.heap.size=w.heap.size+2:=by rw [hw2];simp
 have hkb:Blk w2 w.heap.size 22 #[.slice A kn.length c]:=by rw [hw2];exact (Blk.new w _ _).alloc _
 have hab:Blk w2 (w.heap.size+1) 64 #[.func (.func 20) #[] #[]]:=by
  rw [hw2]
  have h:=Blk.new (w.alloc (.cells #[.slice A kn.length c] 22)) 64 #[.func (.func 20) #[] #[]]
  rwa [World.size_alloc] at h
 have hmf:∀ (fn:Fn) (first cap:Array Value) (w:World),(Instr.makeFunc fn first cap).run Tryz.prog w=.ok (.func fn first cap) w:=fun _ _ _ _=>rfl
 have e2:=hw2.symm
 by_cases h2000:2000 < xs.length
 ·have HD:Hid (Pk.decode (kn.map Pk.It.item) xs=.bad 13):=Lib.hid (by unfold Pk.decode;rw [if_pos h2000])
  have pL:w2.cell? ⟨1,0,none⟩=some (ev (a 12)):=(b2.cell (block_lt_of_cell (hS 12 (by omega)).var)).trans (hS 12 (by omega)).var
  have g1:(2000:Int) < (nb:Int):=by omega
  have HB2:=Lib.hid b2
  clear hw2 b2 hkb hab hS ht hk hv hb h2000 hn hz s2
  go_enter Tryz.func19,Tryz.ntmps19
  go_wp2
  go_quiet (fail)
  go_wp2
  go_ret2
  unfold DecL
  rw [HD.out]
  exact ⟨rfl,below_drewN HB2.out _⟩
 have HDE:Hid (Pk.decode (kn.map Pk.It.item) xs=match Pk.readR (kn.map Pk.It.item) xs with | .bad e=>.bad e | .ok q=>if q.2.length=0 then .ok q.1 else .bad 3):=Lib.hid (Pk.decode_of _ (by omega))
 have g1:¬(2000:Int) < (nb:Int):=by omega
 have CE:∀ (w3:World) (i r:Nat),w2.heap.size≤r→w2.heap.size≤i→InAt w w3 i r xs→Below w2.heap.size w2 w3→Calls Tryz.prog 39 (#[.pointer (some ⟨i,0,none⟩)]++#[.pointer (some ⟨w.heap.size,0,none⟩),.pointer (some ⟨w.heap.size+1,0,none⟩)]) w3 (EachL w w3 i r kn a xs):=fun w3 i r hr hi hin hb3=>
  eachL_any a xs hb hin (by obtain ⟨v,h,_⟩:=hin;exact h.i_.lt) (hkb.below hb3 hkb.lt) (hab.below hb3 hab.lt) (by constructor<;>omega) hk ht hS
 unfold EachL at CE
 have HB2:=Lib.hid b2
 have HKB:Hid (∀ c':Nat,Pk.readR (kn.map Pk.It.item) xs=.bad c'→Pk.decode (kn.map Pk.It.item) xs=.bad c'):=Lib.hid (fun c' h=>by rw [HDE.out,h])
 have e2:=hw2.symm
 cases hrr:Pk.readR (kn.map Pk.It.item) xs with
 | bad c'=>
  simp only [hrr] at CE
  have HD:=Lib.hid (HKB.out c' hrr)
  have CT:=takeL_bad 39 #[.pointer (some ⟨w.heap.size,0,none⟩),.pointer (some ⟨w.heap.size+1,0,none⟩)] (fun _=>False) w w2 Ab nb cb xs (a (c' - 1)) enter_eachL b2 hv (fun _ h=>h.elim) (fun w3 i r hr hi hin hb3=>(CE w3 i r hr hi hin hb3).mono fun e w' h=>⟨h.1,h.2.1,⟨h.2.2.os,h.2.2.tape,h.2.2.output,h.2.2.size,fun b hb hn=>h.2.2.block b hb (fun e=>hn (Or.inl e))⟩⟩)
  clear CE hrr hw2 b2 hkb hab hS ht hk hv hb h2000 hn hz s2 HDE HKB
  go_enter Tryz.func19,Tryz.ntmps19
  go_wp2_with (go_at_call 38;refine pause ?_)
  unfold Paused
  refine CT.mono ?_
  rintro e w5 ⟨rfl,hk5⟩
  have HB5:=Lib.hid (below_next HB2.out hk5.below)
  clear hk5 CT
  go_wp2
  go_ret2
  unfold DecL
  rw [HD.out]
  exact ⟨rfl,HB5.out⟩
 | ok q=>
  simp only [hrr] at CE
  obtain ⟨its,rest⟩:=q
  have hD:=HDE.out
  rw [hrr] at hD
  simp only at CE hD
  by_cases h0:rest.length=0
  ·rw [if_pos h0] at hD
   obtain rfl:rest=[]:=List.eq_nil_of_length_eq_zero h0
   have HD:=Lib.hid hD
   have CT:=takeL_ok 39 #[.pointer (some ⟨w.heap.size,0,none⟩),.pointer (some ⟨w.heap.size+1,0,none⟩)] (fun _=>False) w w2 Ab nb cb xs (fun r u w'=>∃ out,out.map Pk.It.item=its∧LstL w' r u out) enter_eachL b2 hv (fun _ h=>h.elim) (fun w3 i r hr hi hin hb3=>(CE w3 i r hr hi hin hb3).mono fun e w' ⟨v,out,h1,h2,h3,h4,h5⟩=>⟨v,h2,h3,⟨h4.os,h4.tape,h4.output,h4.size,fun b hb hn=>h4.block b hb (fun e=>hn (Or.inl e))⟩,out,h1,h5⟩) (fun r u x y ⟨out,h1,h2⟩ hg=>⟨out,h1,h2.only hg⟩)
   clear CE hrr hw2 hkb hab hS ht hk hv hb h2000 hn hz HDE HKB hD h0 b2
   have HS2:=Lib.hid s2
   clear s2
   go_enter Tryz.func19,Tryz.ntmps19
   go_wp2_with (go_at_call 38;refine pause ?_)
   unfold Paused
   refine CT.mono ?_
   rintro e w5 ⟨u,r,rfl,hr,⟨out,ho,hl⟩,hk5⟩
   have HF:Hid (DecL w kn a xs (.returned (.tuple #[u,.nilIface])) w5):=Lib.hid (by
    unfold DecL
    rw [HD.out]
    obtain ⟨⟨B,hB,hown⟩,hrd⟩:=hl
    exact ⟨u,out,ho,rfl,⟨rdl_own hown (by rw [List.length_map]),fun p hp=>⟨(hrd p hp).1.rd,(hrd p hp).2⟩⟩,below_next HB2.out hk5.below⟩)
   clear hl hk5 CT hr
   go_wp2
   go_ret2
   exact HF.out
  ·rw [if_neg h0] at hD
   have HD:=Lib.hid hD
   have CT:=takeL_long 39 #[.pointer (some ⟨w.heap.size,0,none⟩),.pointer (some ⟨w.heap.size+1,0,none⟩)] (fun _=>False) w w2 Ab nb cb xs rest (a 2) enter_eachL b2 hv (fun _ h=>h.elim) (fun w3 i r hr hi hin hb3=>(CE w3 i r hr hi hin hb3).mono fun e w' ⟨v,out,h1,h2,h3,h4,h5⟩=>⟨v,h2,h3,⟨h4.os,h4.tape,h4.output,h4.size,fun b hb hn=>h4.block b hb (fun e=>hn (Or.inl e))⟩,trivial⟩) (by omega) (hS 2 (by omega)).var
   clear CE hrr hw2 hkb hab hS ht hk hv hb h2000 hn hz HDE HKB hD h0 b2 s2
   go_enter Tryz.func19,Tryz.ntmps19
   go_wp2_with (go_at_call 38;refine pause ?_)
   unfold Paused
   refine CT.mono ?_
   rintro e w5 ⟨rfl,hk5⟩
   have HB5:=Lib.hid (below_next HB2.out hk5.below)
   clear hk5 CT
   go_wp2
   go_ret2
   unfold DecL
   rw [HD.out]
   exact ⟨rfl,HB5.out⟩
theorem decodeL_any {A:Option Addr} {c:Nat} {kn:List Pk.It} (a:Nat→Addr) (xs:List Nat) (Ab:Option Addr) (nb cb:Nat) (w:World) (hv:Rd w (.slice Ab nb cb) xs) (hb:Sha.Byte xs) (hz:xs.length≤1000000) (hk:Known w A c kn) (ht:Tabs w) (hS:KSents w a) :
  Calls Tryz.prog 9 #[.slice Ab nb cb,.slice A kn.length c] w (DecL w kn a xs):=by
 have CE:=eachOL_any a xs Ab nb cb w hv hb hz hk ht hS
 clear hv hb hz hk ht hS
 unfold DecL at CE
 go_enter Tryz.func9,Tryz.ntmps9
 cases hd:Pk.decode (kn.map Pk.It.item) xs with
 | bad c'=>
  rw [hd] at CE
  simp only at CE
  have HD:=Lib.hid hd
  clear hd
  go_wp2_with (go_at_call 19;refine CE.mono ?_;rintro e w' ⟨rfl,hb⟩;have HB:=Lib.hid hb;clear hb)
  go_ret2
  unfold DecL
  rw [HD.out]
  exact ⟨rfl,HB.out⟩
 | ok l=>
  rw [hd] at CE
  simp only at CE
  have HD:=Lib.hid hd
  clear hd
  go_wp2_with (go_at_call 19;refine CE.mono ?_;rintro e w' ⟨v,out,ho,rfl,hl,hb⟩;have HO:=Lib.hid ho;have HL:=Lib.hid hl;have HB:=Lib.hid hb;clear ho hl hb)
  go_ret2
  unfold DecL
  rw [HD.out]
  exact ⟨v,out,HO.out,rfl,HL.out,HB.out⟩
def wrC (m:Option Nat) (it:List Value) (v:Value):List Value:=.map m::(it++[v])
theorem wr_under:Tryz.prog.underlying 46=some (.struct (Tryz.prog.fieldsOf 46)):=by kernel_rfl
theorem wr_places:(Tryz.prog.fieldsOf 46).toList.mapM (fun f=>(Tryz.prog.info? f.type).map fun i=>(f.offset,i.size))=some [(0,1),(1,34),(35,1)]:=by kernel_rfl
theorem wr_zero:((Tryz.prog.info? 46).bind (·.zero)).map (·.cells)=some (wrC none (itemC zid nilV 0) nilV).toArray:=by kernel_rfl
theorem wr_size:(Tryz.prog.info? 46).map (·.size)=some 36:=by kernel_rfl
theorem wr_built (m:Nat) (A:Option Addr) (n c:Nat):Tryz.prog.built 46 [(0,.map (some m)),(2,.slice A n c)]=some (wrC (some m) (itemC zid nilV 0) (.slice A n c)).toArray:=by
 rw [built_of wr_under wr_zero wr_places]
 have e1:=fill_part (fun i=>([(0,1),(1,34),(35,1)]:List (Nat×Nat)).toArray[i]?) 0 0 1 (.map (some m)) [(2,.slice A n c)] [.map (some m)] [.map none] [] (itemC zid nilV 0++[nilV]) rfl rfl rfl rfl rfl
 have e2:=fill_part (fun i=>([(0,1),(1,34),(35,1)]:List (Nat×Nat)).toArray[i]?) 2 35 1 (.slice A n c) [] [.slice A n c] [nilV] (.map (some m)::itemC zid nilV 0) [] rfl rfl rfl rfl (by kernel_rfl)
 have e3:([Value.map (some m)]:List Value)++(itemC zid nilV 0++[nilV])=(.map (some m)::itemC zid nilV 0)++[nilV]++[]:=by simp
 have e4:(Value.map (some m)::itemC zid nilV 0)++[Value.slice A n c]++[]=wrC (some m) (itemC zid nilV 0) (.slice A n c):=by simp [wrC]
 rw [e4] at e2
 refine (Eq.trans ?_ (e1.trans ?_))
 ·rfl
 ·rw [List.nil_append,e3]
  exact e2
theorem wrC_len {it:List Value} (h:it.length=34) (m:Option Nat) (v:Value):(wrC m it v).length=36:=by simp [wrC,h]
theorem wrC_one {id:List Nat} {x v:Value} (hx:x.oneCell'=true) (hv:v.oneCell'=true) (m:Option Nat) (d:Nat):(wrC m (itemC id x d) v).toArray.all (·.oneCell')=true:=by
 have h:=itemC_one (id:=id) hx d
 rw [List.all_toArray] at h
 unfold wrC
 simp only [List.all_toArray,List.all_cons,List.all_append,List.all_nil,Bool.and_true]
 rw [h,hv]
 rfl
theorem wrC_at {it:List Value} (h:it.length=34) (m:Option Nat) (v:Value):(wrC m it v).toArray[35]? = some v:=by
 unfold wrC
 rw [List.getElem?_toArray,List.getElem?_cons_succ,List.getElem?_append_right (by omega),h]
 rfl
theorem wmap_made (w:World):(Instr.makeMap 40 none).run Tryz.prog w=.ok (.map (some w.heap.size)) (w.alloc (.map #[] 0)):=rfl
set_option maxHeartbeats 4000000 in
theorem encode_nil (w:World):Calls Tryz.prog 6 #[.slice none 0 0] w fun e w'=>∃ A c,e=.returned (.tuple #[.slice A 1 c,.nilIface])∧Rd w' (.slice A 1 c) [0]∧Below w.heap.size w w':=by
 obtain ⟨w2,hw2⟩:∃ w2,w2=(w.alloc (.map #[] 0)).alloc (.cells (u8s [0]) 5):=⟨_,rfl⟩
 have b2:Below w.heap.size w w2:=hw2▸((Below.refl _ _).alloc (Nat.le_refl _) _).alloc (by simp) _
 have HX:Hid (Rd w2 (.slice (some ⟨w.heap.size+1,0,none⟩) 1 1) [0]):=Lib.hid (by
  rw [hw2]
  have h:=rd_of_lit (w.alloc (.map #[] 0)) [0] 5 (by simp)
  rwa [World.size_alloc] at h)
 have HB:=Lib.hid b2
 have mm:=wmap_made w
 have e2:=hw2.symm
 clear b2 hw2
 go_enter Tryz.func6,Tryz.ntmps6
 go_wp2_with (with_reducible (show wpList _ _ _ (Oper.mk _ (Op.build 46 _) _ _ _ _::_) _ _);refine pause ?_)
 unfold Paused
 change wpList _ _ _ _ _ ((w.alloc (.map #[] 0)).alloc (.cells (u8s [0]) 5))
 rw [e2]
 refine wpList_buildK (by rfl) 46 _ (by rfl) [(0,.map (some w.heap.size)),(2,.slice (some ⟨w.heap.size+1,0,none⟩) 1 1)] (by kernel_rfl) _ (wr_built _ _ _ _) ?_
 go_wp2_with (with_reducible (show wpList _ _ _ (Oper.mk _ (Op.store 46 _ _) _ _ _ _::_) _ _);refine pause ?_)
 unfold Paused
 change wpList _ _ _ _ _ (w2.alloc (.cells (wrC none (itemC zid nilV 0) nilV).toArray 46))
 refine wpList_store_row (by rfl) 46 (.tmp 4) (.tmp 17) (by rfl) w2.heap.size (wrC (some w.heap.size) (itemC zid nilV 0) (.slice (some ⟨w.heap.size+1,0,none⟩) 1 1)).toArray (by rfl) (by rfl) 46 (wrC none (itemC zid nilV 0) nilV).toArray (Blk.new w2 _ _) (by rw [List.size_toArray,wrC_len (itemC_len zid_id _ _)];exact wr_size) (by rw [List.size_toArray,List.size_toArray,wrC_len (itemC_len zid_id _ _),wrC_len (itemC_len zid_id _ _)]) (wrC_one rfl rfl _ _) ?_
 have b3:Below w2.heap.size w2 ((w2.alloc (.cells (wrC none (itemC zid nilV 0) nilV).toArray 46)).setRow w2.heap.size (wrC (some w.heap.size) (itemC zid nilV 0) (.slice (some ⟨w.heap.size+1,0,none⟩) 1 1)).toArray):=below_row ((Below.refl _ _).alloc (Nat.le_refl _) _) (Nat.le_refl _) _
 have hX3:Blk ((w2.alloc (.cells (wrC none (itemC zid nilV 0) nilV).toArray 46)).setRow w2.heap.size (wrC (some w.heap.size) (itemC zid nilV 0) (.slice (some ⟨w.heap.size+1,0,none⟩) 1 1)).toArray) w2.heap.size 46 (wrC (some w.heap.size) (itemC zid nilV 0) (.slice (some ⟨w.heap.size+1,0,none⟩) 1 1)).toArray:=(Blk.new w2 _ _).row _
 have HB3:=Lib.hid (below_next HB.out b3)
 have HX3:=Lib.hid (HX.out.below b3 (Nat.le_refl _))
 generalize (w2.alloc (.cells (wrC none (itemC zid nilV 0) nilV).toArray 46)).setRow w2.heap.size (wrC (some w.heap.size) (itemC zid nilV 0) (.slice (some ⟨w.heap.size+1,0,none⟩) 1 1)).toArray=w3 at HB3 HX3 hX3 ⊢
 clear b3 e2 mm
 generalize w2.heap.size=g4 at hX3 ⊢
 have p35:w3.cell? ⟨g4,35,none⟩=some (.slice (some ⟨w.heap.size+1,0,none⟩) 1 1):=(hX3.cell 35).trans (wrC_at (itemC_len zid_id _ _) _ _)
 generalize (wrC (some w.heap.size) (itemC zid nilV 0) (.slice (some ⟨w.heap.size+1,0,none⟩) 1 1)).toArray=cw
 clear hX3 HX HB
 simp only [Act.put]
 go_wp2
 have P35:=Lib.hid p35
 clear p35
 go_loopw [20] (fun i wr=>i=.int .i64 0∧wr=w3) (fun _ _=>0)
 case atStart=>exact ⟨rfl,rfl⟩
 case round=>
  obtain ⟨rfl,rfl⟩:=hrel
  have p35:=P35.out
  go_wp2
  go_ret2
  exact ⟨some ⟨w.heap.size+1,0,none⟩,1,rfl,HX3.out,HB3.out⟩
theorem palive_any (w:World):Calls Tryz.prog 4 #[] w fun e w'=>e=.returned (.bool true)∧Below w.heap.size w w':=by
 have CE:=encode_nil w
 go_enter Tryz.func4,Tryz.ntmps4
 go_wp2_with (go_at_call 6;refine CE.mono ?_;rintro e w1 ⟨A,c,rfl,hr,hb⟩;have HB:=Lib.hid hb;have cv:(convert 25 9 (.slice A 1 c)).run Tryz.prog w1=.ok (.string (textOf [0])) w1:=conv_rd hr;have et:textOf [0]={ data:=#[0] }:=rfl;rw [et] at cv;clear hr hb CE)
 go_ret
 exact ⟨rfl,HB.out⟩
def RdLL (w:World) (v:Value) (vs:List Value) (ls:List (List Nat)):Prop:=
 ∃ A c,v=.slice A ls.length c∧ls.length≤c∧vs.length=ls.length∧(0 < ls.length→∃ b o,A=some ⟨b,o,none⟩∧b < w.heap.size∧∀ i u,vs[i]? = some u→w.cell? ⟨b,o+i,none⟩=some u)∧∀ i u,vs[i]? = some u→Rd w u (ls.getD i [])
theorem Txts.ll {w:World} {v:Value} {its:List Pk.It} (h:Txts w v its):RdLL w v (its.map (·.val)) (its.map (·.text)):=by
 obtain ⟨A,c,hv,hc,hA⟩:=h.row
 refine ⟨A,c,by rw [hv,List.length_map,List.length_map],by rw [List.length_map] at hc ⊢;exact hc,by rw [List.length_map,List.length_map],fun h0=>hA (by rw [List.length_map] at h0 ⊢;exact h0),fun i u hu=>?_⟩
 rw [List.getElem?_map] at hu
 obtain ⟨p,hp,rfl⟩:=Option.map_eq_some_iff.1 hu
 have h1:=(h.rd p (List.mem_of_getElem? hp)).1
 rw [List.getD_eq_getElem?_getD,List.getElem?_map,hp]
 exact h1
set_option maxHeartbeats 1000000 in
theorem psameLists_yes (u v:Value) (us vs:List Value) (ls:List (List Nat)) (w:World) (h1:RdLL w u us ls) (h2:RdLL w v vs ls) (hn:ls.length≤100000) :
  Calls Tryz.prog 11 #[u,v] w fun e w'=>e=.returned (.bool true)∧∃ m,w'=w.drewN m:=by
 obtain ⟨n,hnl⟩:∃ n,n=ls.length:=⟨_,rfl⟩
 obtain ⟨A1,c1,rfl,hc1,hl1,hA1,he1⟩:=h1
 obtain ⟨A2,c2,rfl,hc2,hl2,hA2,he2⟩:=h2
 rw [←hnl] at hc1 hl1 hA1 hc2 hl2 hA2 hn ⊢
 have HA1:=Lib.hid hA1
 have HA2:=Lib.hid hA2
 have HE1:=Lib.hid he1
 have HE2:=Lib.hid he2
 have HL1:=Lib.hid hl1
 have HL2:=Lib.hid hl2
 clear hA1 hA2 he1 he2 hl1 hl2 hnl
 go_enter Tryz.func11,Tryz.ntmps11
 go_wp2_with fail
 go_loopw [13] (fun j wr=>∃ k:Nat,k≤n∧j=.int .i64 k∧∃ m,wr=w.drewN m) (fun j _=>n - (intOf j).toNat)
 case atStart=>exact ⟨0,Nat.zero_le _,rfl,0,rfl⟩
 case round=>
  obtain ⟨k,hk,rfl,m,rfl⟩:=hrel
  by_cases hlt:k < n
  ·have i0:((k:Nat):Int) < (n:Int):=by omega
   have i1:(0:Int)≤((k:Nat):Int):=by omega
   obtain ⟨b1,o1,rfl,hb1,hx1⟩:=HA1.out (by omega)
   obtain ⟨b2,o2,rfl,hb2,hx2⟩:=HA2.out (by omega)
   obtain ⟨u1,hu1⟩:∃ u,us[k]? = some u:=⟨us[k]'(by rw [HL1.out];exact hlt),List.getElem?_eq_getElem _⟩
   obtain ⟨u2,hu2⟩:∃ u,vs[k]? = some u:=⟨vs[k]'(by rw [HL2.out];exact hlt),List.getElem?_eq_getElem _⟩
   obtain ⟨wo,hwo⟩:∃ wo,wo=w.drewN m:=⟨_,rfl⟩
   have p1:wo.cell? ⟨b1,o1+k,none⟩=some u1:=by rw [hwo];exact hx1 k u1 hu1
   have p2:wo.cell? ⟨b2,o2+k,none⟩=some u2:=by rw [hwo];exact hx2 k u2 hu2
   have r1:=HE1.out k u1 hu1
   have r2:=HE2.out k u2 hu2
   obtain ⟨T,hT⟩:∃ T,T=textOf (ls.getD k []):=⟨_,rfl⟩
   have q1:∀ q,(convert 25 9 u1).run Tryz.prog (wo.drewN q)=.ok (.string T) (wo.drewN q):=fun q=>by rw [hT,hwo];exact conv_rd (w:=(w.drewN m).drewN q) r1
   have q2:∀ q,(convert 25 9 u2).run Tryz.prog (wo.drewN q)=.ok (.string T) (wo.drewN q):=fun q=>by rw [hT,hwo];exact conv_rd (w:=(w.drewN m).drewN q) r2
   have HLT:=Lib.hid hlt
   have HWO:Hid (∀ q,∃ m',wo.drewN q=w.drewN m'):=Lib.hid (fun q=>⟨m+q,by rw [hwo];simp⟩)
   clear hx1 hx2 r1 r2 hT hu1 hu2 hlt hk hb1 hb2
   rw [←hwo]
   clear hwo
   go_wp2_with fail
   go_quiet (fail)
   go_wp2_with fail
   refine ⟨⟨k+1,HLT.out,by simp,HWO.out _⟩,by have:=HLT.out;simp [intOf];omega⟩
  ·obtain rfl:k=n:=by omega
   have i0:¬((k:Nat):Int) < (k:Int):=by omega
   clear hk hlt
   go_wp2_with fail
   go_ret
   exact ⟨rfl,_,rfl⟩
def LongPost (its:List Pk.It) (w:World) (e:Ending) (w':World):Prop:=∃ β,e=.returned (.bool β)∧(β=false→its.length≤70∧∀ p∈its,p.text.length≤400)∧w'=w
set_option maxHeartbeats 4000000 in
theorem long_any (A:Option Addr) (n c:Nat) (its:List Pk.It) (w:World) (h:Txts w (.slice A n c) its) :
  Calls Tryz.prog 5 #[.slice A n c] w (LongPost its w):=by
 have hn:n=its.length:=by
  obtain ⟨A',c',hv,_⟩:=h.row
  injection hv with e1 e2 e3
  rw [e2,List.length_map]
 by_cases h70:70 < n
 ·have g1:(70:Int) < (n:Int):=by omega
  clear h hn
  go_enter Tryz.func5,Tryz.ntmps5
  go_wp2
  go_ret
  exact ⟨true,rfl,fun h=>absurd h (by decide),rfl⟩
 have g1:¬(70:Int) < (n:Int):=by omega
 have HCE:Hid (0 < n→∃ b o,A=some ⟨b,o,none⟩∧∀ i (hi:i < n),∃ A1 l1 c1 p,its[i]? = some p∧p.text.length=l1∧w.cell? ⟨b,o+i,none⟩=some (.slice A1 l1 c1)):=Lib.hid (fun h0=>by
  obtain ⟨A',c',hv,_,hA⟩:=h.row
  injection hv with e1 e2 e3
  obtain ⟨b,o,ha,hb,hx⟩:=hA (by rw [List.length_map];omega)
  refine ⟨b,o,by rw [e1,ha],fun i hi=>?_⟩
  obtain ⟨p,hp⟩:∃ p,its[i]? = some p:=⟨its[i]'(by omega),List.getElem?_eq_getElem _⟩
  obtain ⟨⟨A1,c1,hpv,_⟩,_⟩:=h.rd p (List.mem_of_getElem? hp)
  exact ⟨A1,_,c1,p,hp,rfl,by rw [←hpv];exact hx i _ (by rw [List.getElem?_map,hp];rfl)⟩)
 have HN:=Lib.hid hn
 have HN70:Hid (n≤70):=Lib.hid (by omega)
 clear h hn h70
 go_enter Tryz.func5,Tryz.ntmps5
 go_wp2
 go_loopw [3,11] (fun s i wr=>wr=w∧∃ k:Nat,k≤n∧i=.int .i64 k∧∃ m:Nat,s=.int .i64 m∧Hid (m≤400 * k∧∀ j p,j < k→its[j]? = some p→p.text.length≤400)) (fun _ i _=>n - (intOf i).toNat)
 case atStart=>exact ⟨rfl,0,Nat.zero_le _,rfl,0,rfl,Lib.hid ⟨Nat.zero_le _,fun j p hj=>absurd hj (by omega)⟩⟩
 case round=>
  obtain ⟨rfl,k,hk,rfl,m,rfl,HM⟩:=hrel
  by_cases hlt:k < n
  ·obtain ⟨b,o,rfl,hx⟩:=HCE.out (by omega)
   obtain ⟨A1,l1,c1,p,hp,hpl,pc⟩:=hx k hlt
   have HP:=Lib.hid hp
   have HPL:=Lib.hid hpl
   have i1:((k:Nat):Int) < n:=by omega
   have i2:(0:Int)≤((k:Nat):Int):=by omega
   have i3:((k:Nat):Int) < 70:=by have:=HN70.out;omega
   have i4:((m:Nat):Int)≤28000:=by have h1:=HM.out.1;have h2:=HN70.out;omega
   have i5:(0:Int)≤((m:Nat):Int):=by omega
   clear hp hpl hx
   by_cases hl:400 < l1
   ·have g2:(400:Int) < (l1:Int):=by omega
    clear hl
    go_wp2
    go_ret
    exact ⟨true,rfl,fun h=>absurd h (by decide),rfl⟩
   ·have g2:¬(400:Int) < (l1:Int):=by omega
    have g3:(l1:Int)≤400:=by omega
    have g4:(0:Int)≤(l1:Int):=by omega
    have HM2:Hid (m+l1≤400 * (k+1)∧∀ j p,j < k+1→its[j]? = some p→p.text.length≤400):=Lib.hid ⟨by have:=HM.out.1;omega,fun j q hj hq=>by
     by_cases hjk:j=k
     ·subst hjk
      rw [HP.out] at hq
      cases hq
      rw [HPL.out];omega
     ·exact HM.out.2 j q (by omega) hq⟩
    clear hl
    go_wp2
    go_roundw
    case rel=>exact ⟨trivial,k+1,by omega,by go_num,m+l1,by go_num,HM2⟩
    case measure=>simp [intOf];omega
  ·obtain rfl:k=n:=by omega
   have ik:¬((k:Nat):Int) < k:=by omega
   go_wp2
   go_ret
   exact ⟨_,rfl,fun _=>⟨by rw [←HN.out];exact HN70.out,fun p hp=>by
    obtain ⟨j,hj⟩:=List.mem_iff_getElem?.1 hp
    exact HM.out.2 j p (by have:=(List.getElem?_eq_some_iff.1 hj).1;rw [HN.out];exact this) hj⟩,rfl⟩
namespace Pk
theorem text_lays (n:Nat) (d rest:List Nat) (hn:n=d.length) (h:n < 65536):text ([n / 256,n % 256]++d++rest)=some (d,rest):=by
 have hv:Oc.val (([n / 256,n % 256]++d++rest).take 2)=n:=by
  show Oc.val [n / 256,n % 256]=n
  simp [Oc.val]
  omega
 have hl:([n / 256,n % 256]++d++rest).length=2+n+rest.length:=by simp [hn];omega
 unfold text
 rw [hv,hl,if_neg (by omega),if_neg (by omega)]
 have e1:([n / 256,n % 256]++d++rest).drop 2=d++rest:=rfl
 rw [←List.drop_drop,e1,hn,List.take_left,List.drop_left]
theorem okL_none {t:List Nat}:∀ {l:List (Nat×Nat×Nat)} {told:Nat},Dl.okL [] t told l→l=[]
 | [],_,_=>rfl
 | (p,n,f)::l,told,h=>by
  obtain ⟨_,_,h3,_,h5,_⟩:=h
  simp at h5
  omega
theorem mk_none (t:List Nat):t.length < (Dl.mk [] t).length+40:=by
 have h:=okL_none (Dl.okL_cps [] t _ 0 0 (Nat.le_refl _) (Nat.le_refl _) (Nat.zero_le _))
 rw [Dl.mk_len,h,Dl.mkS,Dl.fr_eq,Dl.frp_len _ _ 0 (Nat.le_refl _)]
 simp
 omega
def Last (out:List Item) (last:Item):Prop:=(out=[]∧last=([],0))∨∃ o,out=o++[last]
theorem step_lays {out kn:List Item} {last:Item} {t rest:List Nat} (hL:Last out last) (hl:last.1.length≤300) (ha:adm out t=0) :
  step out kn ((lays last t).1++rest)=.ok ((t,(lays last t).2),rest):=by
 have ht:=(admit_zero ha).1
 have key:told out kn ((lays last t).1++rest)=.ok ((t,(lays last t).2),rest):=by
  unfold lays
  split
  ·rename_i h
   obtain ⟨h5,h40⟩:=h
   have hS:(Sha.sum last.1).length=32:=Sha.join_len _
   rcases hL with ⟨_,rfl⟩ | ⟨o,ho⟩
   ·have h2:(Dl.mk [] t).length+40≤t.length:=h40
    have:=mk_none t;omega
   ·obtain ⟨d,hd⟩:∃ d,d=Dl.mk last.1 t:=⟨_,rfl⟩
    rw [←hd] at h40
    have hdl:d.length < 65536:=by omega
    have e1:((1::Sha.sum last.1)++([(Dl.mk last.1 t).length / 256,(Dl.mk last.1 t).length % 256]++Dl.mk last.1 t))++rest=1::(Sha.sum last.1++([d.length / 256,d.length % 256]++d++rest)):=by
     rw [←hd];simp
    simp only
    rw [e1]
    rw [told_cons]
    rw [if_neg (by omega),if_pos rfl,if_neg (by simp [hS])]
    have e2:(Sha.sum last.1++([d.length / 256,d.length % 256]++d++rest)).drop 32=[d.length / 256,d.length % 256]++d++rest:=by
     rw [←hS,List.drop_left]
    have e3:(Sha.sum last.1++([d.length / 256,d.length % 256]++d++rest)).take 32=Sha.sum last.1:=by
     rw [←hS,List.take_left]
    rw [e2,e3,text_lays _ d rest rfl hdl]
    have hb:base out kn (Sha.sum last.1)=some last:=by
     unfold base
     rw [ho,find_snoc,if_pos rfl]
    simp only
    rw [hb]
    simp only
    rw [if_neg (by omega),hd,Dl.mk_back last.1 t hl ht]
  ·have e1:(0::([t.length / 256,t.length % 256]++t))++rest=0::([t.length / 256,t.length % 256]++t++rest):=by simp
   simp only
   rw [e1]
   rw [told_cons]
   rw [if_pos rfl,text_lays _ t rest rfl (by omega)]
 unfold step
 rw [key]
 simp only
 rw [if_pos ha]
theorem enc_go (kn:List Item):∀ (r:List (List Nat)) (out:List Item) (last:Item) (pk b:List Nat),encGo r out last pk=.ok b→Last out last→last.1.length≤300 →
  b.length≤2000∧∃ tail its,b=pk++tail∧go kn r.length out tail=.ok its∧its.map (·.1)=out.map (·.1)++r
 | [],out,last,pk,b,h,_,_=>by
  unfold encGo at h
  split at h
  ·cases h
  ·cases h
   exact ⟨by omega,[],out,by simp,rfl,by simp⟩
 | t::r,out,last,pk,b,h,hL,hl=>by
  unfold encGo at h
  split at h
  ·rename_i ha
   obtain ⟨h1,tail,its,h2,h3,h4⟩:=enc_go kn r _ _ _ b h (Or.inr ⟨out,rfl⟩) (admit_zero ha).1
   refine ⟨h1,(lays last t).1++tail,its,by rw [h2,List.append_assoc],?_,by rw [h4];simp⟩
   rw [List.length_cons,go,step_lays hL hl ha]
   exact h3
  ·cases h
theorem encode_back (kn:List Item) {l:List (List Nat)} {b:List Nat} (h:encode l=.ok b):∃ its,decode kn b=.ok its∧its.map (·.1)=l:=by
 unfold encode at h
 split at h
 ·cases h
 ·rename_i h64
  obtain ⟨h1,tail,its,h2,h3,h4⟩:=enc_go kn l [] ([],0) [l.length] b h (Or.inl ⟨rfl,rfl⟩) (by simp)
  refine ⟨its,?_,by simpa using h4⟩
  unfold decode
  rw [if_neg (by omega),h2]
  show (if 64 < l.length then R.bad 22 else go kn l.length [] tail)=_
  rw [if_neg h64]
  exact h3
theorem decode_good {kn:List Item} {b:List Nat} {l:List Item} (h:decode kn b=.ok l):Good l∧(∃ r,b=l.length::r)∧l.length≤64:=by
 unfold decode at h
 split at h
 ·cases h
 ·obtain _ | ⟨n,r⟩:=b
  ·cases h
  ·simp only at h
   split at h
   ·cases h
   ·obtain ⟨h1,h2⟩:=go_good kn n [] r l h (fun p hp=>by cases hp)
    have e:l.length=n:=by simpa using h2
    exact ⟨h1,⟨r,by rw [e]⟩,by omega⟩
end Pk
end Go.Proofs.YtndgadjeeinedaaGreatDoor
/- The law PackKnown. -/
namespace Go.Proofs.YtndgadjeeinedaaGreatDoor
open Go Go.RowKit
theorem known_nil (w:World):Known w none 0 []:=
 Known.mk ⟨none,0,rfl,Nat.le_refl _,fun h=>absurd h (by simp)⟩ (fun p hp=>absurd hp (by simp)) (by simp)
theorem KSents.at_ {w w':World} {a:Nat→Addr} (h:KSents w a) (hb:Below w.heap.size w w'):KSents w' a:=h.below hb (Nat.le_refl _)
end Go.Proofs.YtndgadjeeinedaaGreatDoor
