/- object.Id; zeros appended to a row of one's own; the empty row. -/
import Derived.Test.YtndgadjeeinedaaGreatDoorMOb29s
import Derived.Test.YtndgadjeeinedaaGreatDoorMShaEnds
import Derived.Test.YtndgadjeeinedaaGreatDoorMOb35s
set_option maxRecDepth 100000
namespace Go.Proofs.YtndgadjeeinedaaGreatDoor
open Go Go.RowKit
set_option maxHeartbeats 1000000 in
theorem oid_any (xs:List Nat) (v:Value) (w:World) (hv:Rd w v xs) (hb:Sha.Byte xs) (ht:Tabs w) (hz:xs.length≤549755813888) :
  Calls Tryz.prog 47 #[v] w fun e w'=>e=.returned (.agg (u8s (Sha.sum xs)))∧Below w.heap.size w w':=by
 have hv0:=hv
 obtain ⟨A,c,rfl,_⟩:=hv0
 obtain ⟨w1,hw1⟩:∃ w1,w1=w.alloc (.cells (u8s (List.replicate 32 0)) 42):=⟨_,rfl⟩
 obtain ⟨w2,hw2⟩:∃ w2,w2=w1.alloc (.cells #[.slice A xs.length c] 25):=⟨_,rfl⟩
 have B1:Below w.heap.size w w1:=hw1▸(Below.refl _ _).alloc (Nat.le_refl _) _
 have s1:w1.heap.size=w.heap.size+1:=by rw [hw1];simp
 have B2:Below w.heap.size w w2:=by rw [hw2];exact B1.alloc (by omega) _
 have N2:Blk w2 w1.heap.size 25 #[.slice A xs.length c]:=hw2▸Blk.new w1 _ _
 have R2:Blk w2 w.heap.size 42 (u8s (List.replicate 32 0)):=by rw [hw2,hw1];exact (Blk.new w _ _).alloc _
 have CS:=sum_any (.slice (some ⟨w1.heap.size,0,none⟩) 1 1) [.slice A xs.length c] [xs] w2 ⟨_,_,rfl,Nat.le_refl _,fun _=>⟨_,_,rfl,N2.lt,fun i u hi=>by rw [Nat.zero_add];exact (N2.cell i).trans (by simpa using hi)⟩⟩ rfl
  (fun i u hi=>by
   rcases i with _ | i
   ·obtain rfl:Value.slice A xs.length c=u:=by simpa using hi
    exact hv.below B2 (Nat.le_refl _)
   ·simp at hi)
  (fun ps hp=>by rw [List.mem_singleton.1 hp];exact hb) (ht.below B2 (Nat.le_refl _)) (by simp) (fun ps hp=>by rw [List.mem_singleton.1 hp];exact hz)
 rw [show ([xs]:List (List Nat)).flatten=xs by simp] at CS
 have HB2:=Lib.hid B2
 have HR2:=Lib.hid R2
 have HL:=Lib.hid (show (u8s (Sha.sum xs)).size=32 by rw [u8s_size];exact Sha.join_len _)
 have e1:=hw1.symm
 have e2:=hw2.symm
 rw [s1] at CS
 clear B1 B2 N2 R2 hv hb ht hw1 hw2 s1
 go_enter Tryz.func47,Tryz.ntmps47
 go_wp2_with (go_at_call 71;refine pause ?_)
 unfold Paused
 change Calls _ _ _ ((w.alloc (.cells (u8s (List.replicate 32 0)) 42)).alloc (.cells #[.slice A xs.length c] 25)) _
 rw [e1,e2]
 refine CS.mono ?_
 rintro e w3 ⟨rfl,hb3⟩
 have HR3:=Lib.hid (HR2.out.below hb3 HR2.out.lt)
 have HB3:=Lib.hid (below_next HB2.out hb3)
 clear hb3 CS
 go_wp2_with (first | (refine wpList_store_row rfl 42 (.tmp 2) (.tmp 5) rfl w.heap.size _ rfl rfl 42 _ HR3.out (by rw [HL.out];exact oid_info) (by rw [HL.out];rfl) (u8s_one _) ?_))
 exact bodyPost_ret (v:=.agg (u8s (Sha.sum xs))) (results_cell_row rfl _ _ w.heap.size 42 _ (0,0) _ rfl (HR3.out.row _) Tryz.underlying42 rfl (by rw [HL.out];exact oid_info)) rfl ⟨rfl,below_row HB3.out (Nat.le_refl _) _⟩
namespace Pk
structure It where
 text:List Nat
 depth:Nat
 val:Value
def It.item (p:It):Item:=(p.text,p.depth)
noncomputable def fnd (l:List It) (id:List Nat):Option It:=l.foldl (fun o p=>if id=Sha.sum p.text then some p else o) none
theorem fnd_snoc (l:List It) (p:It) (id:List Nat):fnd (l++[p]) id=if id=Sha.sum p.text then some p else fnd l id:=by
 unfold fnd;rw [List.foldl_append];rfl
theorem fnd_item_from (id:List Nat):∀ (l:List It) (o:Option It),(l.foldl (fun o p=>if id=Sha.sum p.text then some p else o) o).map It.item=(l.map It.item).foldl (fun (o:Option Item) p=>if id=Sha.sum p.1 then some p else o) (o.map It.item)
 | [],_=>rfl
 | p::l,o=>by
  rw [List.foldl_cons,fnd_item_from id l,List.map_cons,List.foldl_cons]
  congr 1
  show Option.map It.item (if id=Sha.sum p.text then some p else o)=if id=Sha.sum p.text then some p.item else o.map It.item
  split<;>rfl
theorem fnd_item (l:List It) (id:List Nat):(fnd l id).map It.item=find (l.map It.item) id:=fnd_item_from id l none
theorem fnd_mem_from (id:List Nat):∀ (l:List It) (o:Option It) (p:It),l.foldl (fun o p=>if id=Sha.sum p.text then some p else o) o=some p→p∈l∧id=Sha.sum p.text∨o=some p
 | [],_,_,h=>Or.inr h
 | q::l,o,p,h=>by
  rw [List.foldl_cons] at h
  rcases fnd_mem_from id l _ p h with ⟨h1,h2⟩ | h1
  ·exact Or.inl ⟨List.mem_cons_of_mem _ h1,h2⟩
  ·split at h1
   ·rename_i he
    cases h1
    exact Or.inl ⟨List.mem_cons_self ..,he⟩
   ·exact Or.inr h1
theorem fnd_mem {l:List It} {id:List Nat} {p:It} (h:fnd l id=some p):p∈l∧id=Sha.sum p.text:=by
 rcases fnd_mem_from id l none p h with h | h
 ·exact h
 ·cases h
end Pk
def itemC (id:List Nat) (v:Value) (d:Nat):List Value:=cellsB id++[v,.int .i64 (d:Int)]
noncomputable def Pk.It.v (p:Pk.It):Value:=.agg (itemC (Sha.sum p.text) p.val p.depth).toArray
def zItem:Value:=.agg (itemC zid nilV 0).toArray
theorem sum_id (t:List Nat):Id32 (Sha.sum t):=⟨Sha.join_len _,Sha.join_byte _⟩
theorem itemC_len {id:List Nat} (h:Id32 id) (v:Value) (d:Nat):(itemC id v d).length=34:=by
 unfold itemC
 rw [List.length_append,cellsB_len,h.1]
 rfl
theorem itemC_one {id:List Nat} {v:Value} (hv:v.oneCell'=true) (d:Nat):(itemC id v d).toArray.all (·.oneCell')=true:=by
 unfold itemC
 simp only [List.all_toArray,List.all_append,List.all_cons,List.all_nil,Bool.and_true]
 rw [hv]
 simp only [Bool.true_and]
 have h:=u8s_one id
 unfold u8s at h
 rw [List.all_toArray] at h
 unfold cellsB
 rw [h]
 rfl
theorem item_under:Tryz.prog.underlying 44=some (.struct (Tryz.prog.fieldsOf 44)):=by kernel_rfl
theorem item_places:(Tryz.prog.fieldsOf 44).toList.mapM (fun f=>(Tryz.prog.info? f.type).map fun i=>(f.offset,i.size))=some [(0,32),(32,1),(33,1)]:=by kernel_rfl
theorem item_zero:((Tryz.prog.info? 44).bind (·.zero)).map (·.cells)=some (itemC zid nilV 0).toArray:=by kernel_rfl
theorem item_size:(Tryz.prog.info? 44).map (·.size)=some 34:=by kernel_rfl
theorem item_built {id:List Nat} (h:Id32 id) (v:Value) (hv:v.cells=[v].toArray):Tryz.prog.built 44 [(0,.agg (u8s id)),(1,v)]=some (itemC id v 0).toArray:=by
 rw [built_of item_under item_zero item_places]
 have e1:=fill_part (fun i=>([(0,32),(32,1),(33,1)]:List (Nat×Nat)).toArray[i]?) 0 0 32 (.agg (u8s id)) [(1,v)] (cellsB id) (cellsB zid) [] [nilV,.int .i64 0] rfl rfl (by rw [cellsB_len,h.1]) (by rw [cellsB_len];rfl) rfl
 have e2:=fill_part (fun i=>([(0,32),(32,1),(33,1)]:List (Nat×Nat)).toArray[i]?) 1 32 1 v [] [v] [nilV] (cellsB id) [.int .i64 0] rfl hv rfl rfl (by rw [cellsB_len,h.1])
 have e3:cellsB id++[nilV]++[Value.int .i64 0]=[]++cellsB id++[nilV,.int .i64 0]:=by simp
 have e4:cellsB id++[v]++[Value.int .i64 0]=itemC id v 0:=by simp [itemC]
 rw [e3,e4] at e2
 exact e1.trans e2
theorem item_empty:Tryz.prog.built 44 []=some (itemC zid nilV 0).toArray:=by
 rw [built_of item_under item_zero item_places]
 exact fill_done _ _
theorem zeroItem (w:World):(zeroValue 44).run Tryz.prog w=.ok zItem w:=by kernel_rfl
structure KnS (w0 w:World) (bK:Nat) (kn:List Pk.It):Prop where
 box:∃ A c,Blk w bK 22 #[.slice A kn.length c]∧RdL w0 (.slice A kn.length c) (kn.map (·.val))
 rd:∀ p∈kn,Rd w0 p.val p.text∧Sha.Byte p.text∧p.depth=0∧p.text.length≤1000
 few:kn.length≤100
theorem KnS.kpt {w0 w w':World} {bK:Nat} {kn:List Pk.It} (h:KnS w0 w bK kn) {S:Nat→Prop} (k:Kpt S w w') (hS:¬S bK):KnS w0 w' bK kn:=by
 obtain ⟨⟨A,c,h1,h2⟩,h3,h4⟩:=h
 exact ⟨⟨A,c,k.blk h1 hS,h2⟩,h3,h4⟩
def ByS (w:World) (bB:Nat) (kn:List Pk.It):Prop:=
 Blk w bB 39 #[.map none]∨∃ m n,Blk w bB 39 #[.map (some m)]∧bB < m∧MapO w m n (fun id=>(Pk.fnd kn id).map Pk.It.v)
theorem ByS.kpt {w w':World} {bB:Nat} {kn:List Pk.It} (h:ByS w bB kn) {S:Nat→Prop} (k:Kpt S w w') (hS:∀ x,bB≤x→¬S x):ByS w' bB kn:=by
 rcases h with h | ⟨m,n,h1,h2,h3⟩
 ·exact Or.inl (k.blk h (hS bB (Nat.le_refl _)))
 ·exact Or.inr ⟨m,n,k.blk h1 (hS bB (Nat.le_refl _)),h2,h3.block (k.block m h3.lt (hS m (Nat.le_of_lt h2)))⟩
theorem oid_load:(Tryz.prog.info? 42).map (·.size)=some 32:=by kernel_rfl
theorem fv_agg (l:List Pk.It) (id:List Nat) (hv:∀ p∈l,p.val.oneCell'=true):∃ cs:Array Value,((Pk.fnd l id).map Pk.It.v).getD zItem=.agg cs∧cs.size=34∧cs.all (·.oneCell')=true:=by
 cases h:Pk.fnd l id with
 | none=>exact ⟨_,rfl,by rw [List.size_toArray,itemC_len zid_id],itemC_one rfl 0⟩
 | some p=>exact ⟨_,rfl,by rw [List.size_toArray,itemC_len (sum_id _)],itemC_one (hv p (Pk.fnd_mem h).1) _⟩
theorem resultsP {fn:Func} {t:Tmp} (hr:fn.results=#[.cell t 44]) {tmps:Array Value} {W:World} {g:Nat} {cs:Array Value} (h4:tmps.getD t undef=.pointer (some ⟨g,0,none⟩)) (hb:Blk W g 44 cs) (hs:cs.size=34) :
  (results fn tmps).run Tryz.prog W=.ok (.agg cs) W:=by
 have hl:(loadVar 44 ⟨g,0,none⟩).run Tryz.prog W=.ok (.agg cs) W:=run_loadVar_row W g 44 44 cs (0,0) _ hb Tryz.underlying44 (by rfl) (by rw [hs];exact item_size)
 simp only [Array.getD_eq_getD_getElem?] at h4
 simp [results,hr,h4,asAddr,hl]
theorem resultsP2 {fn:Func} {t s:Tmp} (hr:fn.results=#[.cell t 44,.tmp s]) {tmps:Array Value} {W:World} {g:Nat} {cs:Array Value} (h4:tmps.getD t undef=.pointer (some ⟨g,0,none⟩)) (hb:Blk W g 44 cs) (hs:cs.size=34) :
  (results fn tmps).run Tryz.prog W=.ok (.tuple #[.agg cs,tmps.getD s undef]) W:=by
 have hl:(loadVar 44 ⟨g,0,none⟩).run Tryz.prog W=.ok (.agg cs) W:=run_loadVar_row W g 44 44 cs (0,0) _ hb Tryz.underlying44 (by rfl) (by rw [hs];exact item_size)
 simp only [Array.getD_eq_getD_getElem?] at h4 ⊢
 simp [results,hr,h4,asAddr,hl]
end Go.Proofs.YtndgadjeeinedaaGreatDoor
/- What is known, found by its id: the finder's function. -/
namespace Go.Proofs.YtndgadjeeinedaaGreatDoor
open Go Go.RowKit
theorem map_some (m:Nat) (w:World):(binOp .eql 39 (.map (some m)) (.map none)).run Tryz.prog w=.ok (.bool false) w:=by kernel_rfl
theorem map_none (w:World):(binOp .eql 39 (.map none) (.map none)).run Tryz.prog w=.ok (.bool true) w:=by kernel_rfl
set_option maxHeartbeats 2000000 in
theorem find1_has (bB bK m n:Nat) (kn:List Pk.It) (id:List Nat) (w:World) (hB:Blk w bB 39 #[.map (some m)]) (hM:MapO w m n (fun id=>(Pk.fnd kn id).map Pk.It.v)) (hv:∀ p∈kn,p.val.oneCell'=true) (hid:Id32 id) :
  Calls Tryz.prog 61 #[.agg (u8s id),.pointer (some ⟨bB,0,none⟩),.pointer (some ⟨bK,0,none⟩)] w fun e w'=>e=.returned (.tuple #[((Pk.fnd kn id).map Pk.It.v).getD zItem,.bool (Pk.fnd kn id).isSome])∧Below w.heap.size w w':=by
 obtain ⟨w2,hw2⟩:∃ w2,w2=(w.alloc (.cells (u8s id) 42)).alloc (.cells (itemC zid nilV 0).toArray 44):=⟨_,rfl⟩
 have b2:Below w.heap.size w w2:=hw2▸((Below.refl _ _).alloc (Nat.le_refl _) _).alloc (by simp) _
 have HI:Hid (Blk w2 w.heap.size 42 (u8s id)):=Lib.hid (hw2▸(Blk.new w _ _).alloc _)
 have HZ:Hid (Blk w2 (w.heap.size+1) 44 (itemC zid nilV 0).toArray):=Lib.hid (by rw [hw2];have h:=Blk.new (w.alloc (.cells (u8s id) 42)) 44 (itemC zid nilV 0).toArray;rwa [World.size_alloc] at h)
 have p0:w2.cell? ⟨bB,0,none⟩=some (.map (some m)):=(hB.below b2 hB.lt).cell 0
 have q0:=(hM.below b2).look_ok Tryz.underlying39 (zeroItem w2) hid
 obtain ⟨cs,hcs,hc34,hc1⟩:=fv_agg kn id hv
 rw [hcs] at q0 ⊢
 rw [Option.isSome_map] at q0
 generalize (Pk.fnd kn id).isSome=has at q0 ⊢
 have HL:=Lib.hid hid.1
 have HB2:=Lib.hid b2
 have HC:=Lib.hid hc34
 have H1:=Lib.hid hc1
 have e2:=hw2.symm
 have em:=map_some m
 have s2:w.heap.size+2≤w2.heap.size:=by rw [hw2];simp
 clear hB hM hid hw2 hcs hc34 hc1 hv b2
 go_enter Tryz.func61,Tryz.ntmps61
 go_wp2_with (with_reducible (show wpList _ _ _ (Oper.mk _ (Op.load 39 _) _ _ _ _::_) _ _);refine pause ?_)
 unfold Paused
 change wpList _ _ _ _ _ ((w.alloc (.cells (u8s id) 42)).alloc (.cells (itemC zid nilV 0).toArray 44))
 rw [e2]
 go_wp2_with (with_reducible (show wpList _ _ _ (Oper.mk _ (Op.load 42 _) _ _ _ _::_) _ _);refine pause ?_)
 unfold Paused
 refine wpList_row_w (by rfl) 42 (.tmp 3) (by rfl) w.heap.size (by rfl) 42 (u8s id) _ HI.out Tryz.underlying42 (by rfl) (by rw [u8s_size,HL.out];exact oid_load) ?_
 go_wp2_with (with_reducible (show wpList _ _ _ (Oper.mk _ (Op.store 44 _ _) _ _ _ _::_) _ _);refine pause ?_)
 unfold Paused
 change wpList _ _ _ _ _ (w2.alloc (.cells (itemC zid nilV 0).toArray 44))
 refine wpList_store_row (by rfl) 44 (.tmp 9) (.tmp 35) (by rfl) w2.heap.size cs (by rfl) (by rfl) 44 (itemC zid nilV 0).toArray (Blk.new w2 _ _) (by rw [HC.out];exact item_size) (by rw [HC.out];rfl) H1.out ?_
 have HB3:Hid (Below w2.heap.size w2 ((w2.alloc (.cells (itemC zid nilV 0).toArray 44)).setRow w2.heap.size cs)):=Lib.hid (below_row ((Below.refl _ _).alloc (Nat.le_refl _) _) (Nat.le_refl _) cs)
 have HX3:Hid (Blk ((w2.alloc (.cells (itemC zid nilV 0).toArray 44)).setRow w2.heap.size cs) w2.heap.size 44 cs):=Lib.hid ((Blk.new w2 _ _).row cs)
 have HZ3:=Lib.hid (HZ.out.below HB3.out HZ.out.lt)
 have HB3':=Lib.hid (below_next HB2.out HB3.out)
 generalize (w2.alloc (.cells (itemC zid nilV 0).toArray 44)).setRow w2.heap.size cs=w3 at HX3 HZ3 HB3' ⊢
 clear HB3 q0 p0
 generalize w2.heap.size=g9 at HX3 s2 ⊢
 simp only [Act.put]
 go_wp2_with (with_reducible (show wpList _ _ _ (Oper.mk _ (Op.load 44 _) _ _ _ _::_) _ _);refine pause ?_)
 unfold Paused
 refine wpList_row_w (by rfl) 44 (.tmp 9) (by rfl) g9 (by rfl) 44 cs _ HX3.out Tryz.underlying44 (by rfl) (by rw [HC.out];exact item_size) ?_
 go_wp2_with (with_reducible (show wpList _ _ _ (Oper.mk _ (Op.store 44 _ _) _ _ _ _::_) _ _);refine pause ?_)
 unfold Paused
 refine wpList_store_row (by rfl) 44 (.tmp 4) (.tmp 37) (by rfl) (w.heap.size+1) cs (by rfl) (by rfl) 44 (itemC zid nilV 0).toArray HZ3.out (by rw [HC.out];exact item_size) (by rw [HC.out];rfl) H1.out ?_
 have HX4:=Lib.hid (HZ3.out.row cs)
 have HB4:Hid (Below w.heap.size w (w3.setRow (w.heap.size+1) cs)):=Lib.hid (below_row HB3'.out (by omega) cs)
 generalize w3.setRow (w.heap.size+1) cs=w4 at HX4 HB4 ⊢
 simp only [Act.put]
 go_wp2
 exact bodyPost_ret (v:=.tuple #[.agg cs,.bool has]) (resultsP2 (t:=4) (s:=5) rfl (by rfl) HX4.out HC.out) rfl ⟨rfl,HB4.out⟩
theorem kpt_low {S:Nat→Prop} {w w':World} (h:Kpt S w w') {B:Nat} (hS:∀ x,S x→B≤x) (hB:B≤w.heap.size):Below B w w':=
 ⟨h.os,h.tape,h.output,h.size,fun k hk=>h.block k (by omega) (fun hs=>by have:=hS k hs;omega)⟩
theorem low_kpt {S:Nat→Prop} {w0 w w':World} (h0:Below w0.heap.size w0 w) (h:Kpt S w w') (hS:∀ x,S x→w0.heap.size≤x):Below w0.heap.size w0 w':=
 h0.trans (kpt_low h hS h0.size)
theorem KnS.open_ {w0 w:World} {bK:Nat} {kn:List Pk.It} (h:KnS w0 w bK kn):∃ A c,Blk w bK 22 #[.slice A kn.length c]∧(0 < kn.length→∃ b o,A=some ⟨b,o,none⟩∧b < w0.heap.size∧∀ i (h:i < kn.length),w0.cell? ⟨b,o+i,none⟩=some kn[i].val):=by
 obtain ⟨A,c,h1,A',c',hv,hc,hA⟩:=h.box
 injection hv with e1 e2 e3
 subst e1
 refine ⟨A,c,h1,fun h0=>?_⟩
 obtain ⟨b,o,ha,hb,hx⟩:=hA (by rw [List.length_map];exact h0)
 exact ⟨b,o,ha,hb,fun i hi=>hx i _ (by simp [hi])⟩
theorem item_idx {id:List Nat} {v:Value} {d:Nat} {w:World} {g t:Nat} (hb:Blk w g t (itemC id v d).toArray):w.rangeAt g 0 (cellsB id):=fun j u hu=>by
 rw [Nat.zero_add,hb.cell j,List.getElem?_toArray]
 unfold itemC
 rw [List.getElem?_append_left (List.getElem?_eq_some_iff.1 hu).1]
 exact hu
theorem make_map (k:Int) (w:World):(Instr.makeMap 39 (some (.int .i64 k))).run Tryz.prog w=.ok (.map (some w.heap.size)) (w.alloc (.map #[] 0)):=by kernel_rfl
structure FW (w wr:World) (bB m:Nat) (kn:List Pk.It) (id:List Nat) (k:Nat):Prop where
 map:MapO wr m k (fun id=>(Pk.fnd (kn.take k) id).map Pk.It.v)
 box:Blk wr bB 39 #[.map (some m)]
 kpt:Kpt (fun x=>x=bB) w wr
 idb:Blk wr w.heap.size 42 (u8s id)
 zb:Blk wr (w.heap.size+1) 44 (itemC zid nilV 0).toArray
 big:w.heap.size+2≤m
theorem FW.below {w wr w':World} {bB m:Nat} {kn:List Pk.It} {id:List Nat} {k:Nat} (h:FW w wr bB m kn id k) (hb:Below wr.heap.size wr w'):FW w w' bB m kn id k:=
 ⟨h.map.below hb,h.box.below hb h.box.lt,h.kpt.trans (Kpt.of_below hb),h.idb.below hb h.idb.lt,h.zb.below hb h.zb.lt,h.big⟩
theorem FW.put {w wr w':World} {bB m:Nat} {kn:List Pk.It} {id:List Nat} {k:Nat} (h:FW w wr bB m kn id k) (hk:k < kn.length) (hb:bB < w.heap.size) (hm:MapO w' m (k+1) (updO (fun id=>(Pk.fnd (kn.take k) id).map Pk.It.v) (Sha.sum kn[k].text) kn[k].v)) (hg:wr.grownBy w' (some m)):FW w w' bB m kn id (k+1):=by
 have hbg:=h.big
 refine ⟨hm.ext fun x _=>?_,h.box.grown hg (fun e=>by injection e with e;omega),⟨hg.os.trans h.kpt.os,hg.tape.trans h.kpt.tape,hg.output.trans h.kpt.output,Nat.le_trans h.kpt.size hg.size,fun b hb' hne=>(hg.block b (Nat.lt_of_lt_of_le hb' h.kpt.size) (fun e=>by injection e with e;omega)).trans (h.kpt.block b hb' hne)⟩,h.idb.grown hg (fun e=>by injection e with e;omega),h.zb.grown hg (fun e=>by injection e with e;omega),h.big⟩
 unfold updO
 rw [List.take_succ_eq_append_getElem hk,Pk.fnd_snoc]
 split<;>rfl
set_option maxHeartbeats 4000000 in
theorem find1_nil (bB bK:Nat) (kn:List Pk.It) (id:List Nat) (w0 w:World) (hB:Blk w bB 39 #[.map none]) (hK:KnS w0 w bK kn) (h0:Below w0.heap.size w0 w) (hlo:w0.heap.size≤bB) (hne:bK≠bB) (hid:Id32 id) (ht:Tabs w0) :
  Calls Tryz.prog 61 #[.agg (u8s id),.pointer (some ⟨bB,0,none⟩),.pointer (some ⟨bK,0,none⟩)] w fun e w'=>e=.returned (.tuple #[((Pk.fnd kn id).map Pk.It.v).getD zItem,.bool (Pk.fnd kn id).isSome])∧ByS w' bB kn∧Kpt (fun x=>x=bB) w w':=by
 obtain ⟨A,c,hbk,hrl⟩:=hK.open_
 have hrd:=hK.rd
 obtain ⟨cs,hcs,hc34,hc1⟩:=fv_agg kn id (fun p hp=>by obtain ⟨⟨A1,c1,h,_⟩,_⟩:=hrd p hp;rw [h];rfl)
 obtain ⟨has,hhas⟩:∃ h,h=(Pk.fnd kn id).isSome:=⟨_,rfl⟩
 rw [hcs,←hhas]
 have HCS:=Lib.hid hcs
 have HHAS:=Lib.hid hhas
 have HC:=Lib.hid hc34
 have H1:=Lib.hid hc1
 clear hcs hhas hc34 hc1
 have hfew:=hK.few
 obtain ⟨w2,hw2⟩:∃ w2,w2=(w.alloc (.cells (u8s id) 42)).alloc (.cells (itemC zid nilV 0).toArray 44):=⟨_,rfl⟩
 have b2:Below w.heap.size w w2:=hw2▸((Below.refl _ _).alloc (Nat.le_refl _) _).alloc (by simp) _
 have s2:w2.heap.size=w.heap.size+2:=by rw [hw2];simp
 have HI:Hid (Blk w2 w.heap.size 42 (u8s id)):=Lib.hid (hw2▸(Blk.new w _ _).alloc _)
 have HZ:Hid (Blk w2 (w.heap.size+1) 44 (itemC zid nilV 0).toArray):=Lib.hid (by rw [hw2];have h:=Blk.new (w.alloc (.cells (u8s id) 42)) 44 (itemC zid nilV 0).toArray;rwa [World.size_alloc] at h)
 have p0:w2.cell? ⟨bB,0,none⟩=some (.map none):=(hB.below b2 hB.lt).cell 0
 have p1:w2.cell? ⟨bK,0,none⟩=some (.slice A kn.length c):=(hbk.below b2 hbk.lt).cell 0
 have HBB:=Lib.hid (hB.below b2 hB.lt)
 have HBK:=Lib.hid hbk
 have HRL:=Lib.hid hrl
 have HRD:=Lib.hid hrd
 have HFW:=Lib.hid hfew
 have HT:=Lib.hid ht
 have H0:=Lib.hid h0
 have HLO:=Lib.hid hlo
 have HL:=Lib.hid hid
 have HB2:=Lib.hid b2
 have HLB:=Lib.hid hB.lt
 have HNE:=Lib.hid hne
 have HF4:Hid (FW w ((w2.alloc (.map #[] 0)).setCell ⟨bB,0,none⟩ (.map (some (w.heap.size+2)))) bB (w.heap.size+2) kn id 0):=Lib.hid (by
  have hlt:=hB.lt
  have g4:(w2.alloc (.map #[] 0)).grownBy ((w2.alloc (.map #[] 0)).setCell ⟨bB,0,none⟩ (.map (some (w.heap.size+2)))) (some bB):=grown_cell _ _ _ _
  have hM:=MapO.made w2
  rw [s2] at hM
  have b3:Below w.heap.size w (w2.alloc (.map #[] 0)):=b2.alloc (by omega) _
  refine ⟨(hM.kept g4 (fun e=>by injection e with e;omega)).ext fun x _=>rfl,?_,?_,?_,?_,Nat.le_refl _⟩
  ·have h:=((hB.below b2 hB.lt).alloc (.map #[] 0)).set_ 0 (.map (some (w.heap.size+2)))
   exact h
  ·exact (Kpt.of_below b3).trans (Kpt.of_grown g4 rfl)
  ·exact (HI.out.alloc _).grown g4 (fun e=>by injection e with e;omega)
  ·exact (HZ.out.alloc _).grown g4 (fun e=>by injection e with e;omega))
 have p2:(w2.alloc (.map #[] 0)).cell? ⟨bB,0,none⟩=some (.map none):=((hB.below b2 hB.lt).alloc _).cell 0
 have z2:(w2.alloc (.map #[] 0)).frozen? ⟨bB,0,none⟩=false:=((hB.below b2 hB.lt).alloc _).frozen 0
 have p3:((w2.alloc (.map #[] 0)).setCell ⟨bB,0,none⟩ (.map (some (w.heap.size+2)))).cell? ⟨bK,0,none⟩=some (.slice A kn.length c):=(((hbk.below b2 hbk.lt).alloc _).far (p:=⟨bB,0,none⟩) hne _).cell 0
 have e2:=hw2.symm
 have em:=map_none w2
 have mk:=make_map kn.length w2
 clear hB hK hbk hrl hrd hfew hid hw2 ht h0 hlo b2 hne
 go_enter Tryz.func61,Tryz.ntmps61
 go_wp2_with (with_reducible (show wpList _ _ _ (Oper.mk _ (Op.load 39 _) _ _ _ _::_) _ _);refine pause ?_)
 unfold Paused
 change wpList _ _ _ _ _ ((w.alloc (.cells (u8s id) 42)).alloc (.cells (itemC zid nilV 0).toArray 44))
 rw [e2]
 go_wp2
 have P3:=Lib.hid p3
 have s2':w2.heap.size=w.heap.size+2:=s2
 generalize (w2.alloc (.map #[] 0)).setCell ⟨bB,0,none⟩ (.map (some (w.heap.size+2)))=w4 at HF4 P3 p3 ⊢
 clear p0 p1 p2 z2 p3 em mk HBB HI HZ HB2 e2 s2'
 go_loopw [18] (fun i wr=>∃ k:Nat,k≤kn.length∧i=.int .i64 k∧Hid (FW w wr bB (w.heap.size+2) kn id k)) (fun i _=>kn.length - (intOf i).toNat)
 case atStart=>exact ⟨0,by omega,rfl,HF4⟩
 case round=>
  obtain ⟨k,hk,rfl,HF⟩:=hrel
  by_cases hlt:k < kn.length
  ·obtain ⟨b,o,rfl,hbl,hcell⟩:=HRL.out (by omega)
   have hlow:Below w0.heap.size w0 wr:=low_kpt H0.out HF.out.kpt (fun x hx=>by have:=HLO.out;omega)
   obtain ⟨p,hp⟩:∃ p:Pk.It,kn[k]=p:=⟨_,rfl⟩
   have HRp:=HRD.out p (hp▸List.getElem_mem hlt)
   obtain ⟨A1,c1,hval⟩:∃ A1 c1,p.val=.slice A1 p.text.length c1:=by obtain ⟨⟨A1,c1,h,_⟩,_⟩:=HRp;exact ⟨A1,c1,h⟩
   have pc:wr.cell? ⟨b,o+k,none⟩=some (.slice A1 p.text.length c1):=by rw [←hval,←hp];exact (hlow.cell (p:=⟨b,o+k,none⟩) hbl).trans (hcell k hlt)
   have CID:=oid_any p.text (.slice A1 p.text.length c1) wr (by rw [←hval];exact HRp.1.below hlow (Nat.le_refl _)) HRp.2.1 (HT.out.below hlow (Nat.le_refl _)) (by have:=HRp.2.2.2;omega)
   have HLT:=Lib.hid hlt
   have HP:=Lib.hid hp
   have HPV:Hid (p.v=.agg (itemC (Sha.sum p.text) (.slice A1 p.text.length c1) 0).toArray):=Lib.hid (by unfold Pk.It.v;rw [hval,HRp.2.2.1])
   have HSU:Hid (Sha.sum p.text=Sha.sum p.text):=Lib.hid rfl
   have HS:=Lib.hid (sum_id p.text)
   generalize hsu:Sha.sum p.text=su at CID HPV HS HSU
   have HSE:=Lib.hid hsu
   generalize p.text.length=n1 at pc CID HPV hval
   clear hsu hval HRp hcell hlow hp HSU
   have i1:((k:Nat):Int) < kn.length:=by omega
   have i2:(0:Int)≤((k:Nat):Int):=by omega
   have i3:((k:Nat):Int) < 100:=by have:=HFW.out;omega
   go_wp2_with (go_at_call 47;refine CID.mono ?_;rintro e w5 ⟨rfl,hb5⟩;refine pause ?_)
   unfold Paused
   have HF5:=Lib.hid (HF.out.below hb5)
   clear hb5 CID pc
   go_wp2_with (with_reducible (show wpList _ _ _ (Oper.mk _ (Op.build 44 _) _ _ _ _::_) _ _);refine pause ?_)
   unfold Paused
   refine wpList_buildK (by rfl) 44 _ (by rfl) [(0,.agg (u8s su)),(1,.slice A1 n1 c1)] (by kernel_rfl) _ (item_built HS.out _ rfl) ?_
   go_wp2_with (with_reducible (show wpList _ _ _ (Oper.mk _ (Op.store 44 _ _) _ _ _ _::_) _ _);refine pause ?_)
   unfold Paused
   change wpList _ _ _ _ _ (w5.alloc (.cells (itemC zid nilV 0).toArray 44))
   refine wpList_store_row (by rfl) 44 (.tmp 8) (.tmp 25) (by rfl) w5.heap.size (itemC su (.slice A1 n1 c1) 0).toArray (by rfl) (by rfl) 44 (itemC zid nilV 0).toArray (Blk.new w5 _ _) (by rw [List.size_toArray,itemC_len HS.out];exact item_size) (by rw [List.size_toArray,List.size_toArray,itemC_len HS.out];rfl) (itemC_one rfl 0) ?_
   have HB6:Hid (Below w5.heap.size w5 ((w5.alloc (.cells (itemC zid nilV 0).toArray 44)).setRow w5.heap.size (itemC su (.slice A1 n1 c1) 0).toArray)):=Lib.hid (below_row ((Below.refl _ _).alloc (Nat.le_refl _) _) (Nat.le_refl _) _)
   have HX6:Hid (Blk ((w5.alloc (.cells (itemC zid nilV 0).toArray 44)).setRow w5.heap.size (itemC su (.slice A1 n1 c1) 0).toArray) w5.heap.size 44 (itemC su (.slice A1 n1 c1) 0).toArray):=Lib.hid ((Blk.new w5 _ _).row _)
   generalize (w5.alloc (.cells (itemC zid nilV 0).toArray 44)).setRow w5.heap.size (itemC su (.slice A1 n1 c1) 0).toArray=w6 at HB6 HX6 ⊢
   have HF6:=Lib.hid (HF5.out.below HB6.out)
   clear HF5 HB6
   generalize w5.heap.size=g8 at HX6 ⊢
   have p6:w6.cell? ⟨bB,0,none⟩=some (.map (some (w.heap.size+2))):=HF6.out.box.cell 0
   obtain ⟨w7,hrun,hm7,hg7⟩:=HF6.out.map.store Tryz.underlying39 (by have:=HFW.out;unfold maxLen;omega) HS.out (.agg (itemC su (.slice A1 n1 c1) 0).toArray)
   have HF7:Hid (FW w w7 bB (w.heap.size+2) kn id (k+1)):=Lib.hid (HF6.out.put HLT.out HLB.out (by rw [HP.out,HPV.out,HSE.out];exact hm7) hg7)
   have hrun':(Instr.mapUpdate 39 (.map (some (w.heap.size+2))) (.agg (cellsB su).toArray) (.agg (itemC su (.slice A1 n1 c1) 0).toArray)).run Tryz.prog w6=.ok () w7:=hrun
   clear hm7 hg7 hrun
   simp only [Act.put]
   go_wp2_with (with_reducible (show wpList _ _ _ (Oper.mk _ (Op.load 42 _) _ _ _ _::_) _ _);refine pause ?_)
   unfold Paused
   refine wpList_mid_w (by rfl) 42 (.tmp 27) (by rfl) g8 0 (by rfl) _ _ (item_idx HX6.out) Tryz.underlying42 (by rfl) (by rw [cellsB_len,HS.out.1];exact oid_load) ?_
   go_wp2_with (with_reducible (show wpList _ _ _ (Oper.mk _ (Op.load 44 _) _ _ _ _::_) _ _);refine pause ?_)
   unfold Paused
   refine wpList_row_w (by rfl) 44 (.tmp 8) (by rfl) g8 (by rfl) 44 _ _ HX6.out Tryz.underlying44 (by rfl) (by rw [List.size_toArray,itemC_len HS.out];exact item_size) ?_
   go_wp2
   go_roundw
   case rel=>exact ⟨k+1,by omega,by go_num,HF7⟩
   case measure=>simp [intOf];omega
  ·obtain rfl:k=kn.length:=by omega
   have HM:Hid (MapO wr (w.heap.size+2) kn.length (fun id=>(Pk.fnd kn id).map Pk.It.v)):=Lib.hid (by have h:=HF.out.map;rwa [List.take_of_length_le (Nat.le_refl _)] at h)
   have p0:wr.cell? ⟨bB,0,none⟩=some (.map (some (w.heap.size+2))):=HF.out.box.cell 0
   have q0:=HM.out.look_ok Tryz.underlying39 (zeroItem wr) HL.out
   rw [HCS.out,Option.isSome_map,←HHAS.out] at q0
   have HB3:Hid (ByS wr bB kn):=Lib.hid (Or.inr ⟨_,_,HF.out.box,by have:=HLB.out;omega,HM.out⟩)
   have ik:¬((kn.length:Nat):Int) < kn.length:=by omega
   go_wp2_with (with_reducible (show wpList _ _ _ (Oper.mk _ (Op.load 42 _) _ _ _ _::_) _ _);refine pause ?_)
   unfold Paused
   refine wpList_row_w (by rfl) 42 (.tmp 3) (by rfl) w.heap.size (by rfl) 42 (u8s id) _ HF.out.idb Tryz.underlying42 (by rfl) (by rw [u8s_size,HL.out.1];exact oid_load) ?_
   go_wp2_with (with_reducible (show wpList _ _ _ (Oper.mk _ (Op.store 44 _ _) _ _ _ _::_) _ _);refine pause ?_)
   unfold Paused
   change wpList _ _ _ _ _ (wr.alloc (.cells (itemC zid nilV 0).toArray 44))
   refine wpList_store_row (by rfl) 44 (.tmp 9) (.tmp 35) (by rfl) wr.heap.size cs (by rfl) (by rfl) 44 (itemC zid nilV 0).toArray (Blk.new wr _ _) (by rw [HC.out];exact item_size) (by rw [HC.out];rfl) H1.out ?_
   have hb3:Below wr.heap.size wr ((wr.alloc (.cells (itemC zid nilV 0).toArray 44)).setRow wr.heap.size cs):=below_row ((Below.refl _ _).alloc (Nat.le_refl _) _) (Nat.le_refl _) cs
   have HX3:Hid (Blk ((wr.alloc (.cells (itemC zid nilV 0).toArray 44)).setRow wr.heap.size cs) wr.heap.size 44 cs):=Lib.hid ((Blk.new wr _ _).row cs)
   have HZ3:=Lib.hid (HF.out.zb.below hb3 HF.out.zb.lt)
   have HY3:=Lib.hid (HB3.out.kpt (Kpt.of_below (S:=fun _=>False) hb3) (fun _ _ h=>h))
   have HK3:=Lib.hid (HF.out.kpt.trans (Kpt.of_below hb3))
   have HG:Hid (w.heap.size+1 < wr.heap.size):=Lib.hid HF.out.zb.lt
   generalize (wr.alloc (.cells (itemC zid nilV 0).toArray 44)).setRow wr.heap.size cs=w3 at HX3 HZ3 HY3 HK3 ⊢
   clear q0 p0 hb3
   generalize wr.heap.size=g9 at HX3 HG ⊢
   simp only [Act.put]
   go_wp2_with (with_reducible (show wpList _ _ _ (Oper.mk _ (Op.load 44 _) _ _ _ _::_) _ _);refine pause ?_)
   unfold Paused
   refine wpList_row_w (by rfl) 44 (.tmp 9) (by rfl) g9 (by rfl) 44 cs _ HX3.out Tryz.underlying44 (by rfl) (by rw [HC.out];exact item_size) ?_
   go_wp2_with (with_reducible (show wpList _ _ _ (Oper.mk _ (Op.store 44 _ _) _ _ _ _::_) _ _);refine pause ?_)
   unfold Paused
   refine wpList_store_row (by rfl) 44 (.tmp 4) (.tmp 37) (by rfl) (w.heap.size+1) cs (by rfl) (by rfl) 44 (itemC zid nilV 0).toArray HZ3.out (by rw [HC.out];exact item_size) (by rw [HC.out];rfl) H1.out ?_
   have HX4:=Lib.hid (HZ3.out.row cs)
   have hg4:w3.grownBy (w3.setRow (w.heap.size+1) cs) (some (w.heap.size+1)):=only_setRow (World.grownBy.refl w3 _) (Or.inl rfl) _
   have HK4:Hid (Kpt (fun x=>x=bB) w (w3.setRow (w.heap.size+1) cs)):=Lib.hid (Kpt.old HK3.out (Kpt.of_grown (S:=fun x=>x=w.heap.size+1) hg4 rfl) (fun x hx hl=>by omega))
   have HY4:Hid (ByS (w3.setRow (w.heap.size+1) cs) bB kn):=Lib.hid (by
    rcases HY3.out with h | ⟨m,n,h1,h2,h3⟩
    ·exact Or.inl (h.grown hg4 (fun e=>by injection e with e;have:=HLB.out;omega))
    ·refine Or.inr ⟨m,n,h1.grown hg4 (fun e=>by injection e with e;have:=HLB.out;omega),h2,h3.kept hg4 (fun e=>?_)⟩
     injection e with e
     obtain ⟨es,ck,hm⟩:=h3.is
     rw [e,HZ3.out] at hm
     cases hm)
   clear hg4
   generalize w3.setRow (w.heap.size+1) cs=w4 at HX4 HK4 HY4 ⊢
   simp only [Act.put]
   go_wp2
   exact bodyPost_ret (v:=.tuple #[.agg cs,.bool has]) (resultsP2 (t:=4) (s:=5) rfl (by rfl) HX4.out HC.out) rfl ⟨rfl,HY4.out,HK4.out⟩
theorem find1_any (bB bK:Nat) (kn:List Pk.It) (id:List Nat) (w0 w:World) (hB:ByS w bB kn) (hK:KnS w0 w bK kn) (h0:Below w0.heap.size w0 w) (hlo:w0.heap.size≤bB) (hne:bK≠bB) (hid:Id32 id) (ht:Tabs w0) :
  Calls Tryz.prog 61 #[.agg (u8s id),.pointer (some ⟨bB,0,none⟩),.pointer (some ⟨bK,0,none⟩)] w fun e w'=>e=.returned (.tuple #[((Pk.fnd kn id).map Pk.It.v).getD zItem,.bool (Pk.fnd kn id).isSome])∧ByS w' bB kn∧Kpt (fun x=>x=bB) w w':=by
 rcases hB with h | ⟨m,n,h1,h2,h3⟩
 ·exact find1_nil bB bK kn id w0 w h hK h0 hlo hne hid ht
 ·exact (find1_has bB bK m n kn id w h1 h3 (fun p hp=>by obtain ⟨⟨A1,c1,h,_⟩,_⟩:=hK.rd p hp;rw [h];rfl) hid).mono fun e w' ⟨he,hb⟩=>
   ⟨he,ByS.kpt (Or.inr ⟨m,n,h1,h2,h3⟩) (Kpt.of_below (S:=fun _=>False) hb) (fun _ _ h=>h),Kpt.of_below hb⟩
end Go.Proofs.YtndgadjeeinedaaGreatDoor
