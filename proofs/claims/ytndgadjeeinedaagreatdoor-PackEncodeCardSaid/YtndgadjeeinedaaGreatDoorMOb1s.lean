/- Objects of layer 6 as they lie: rows of elements of several cells, entries, parents, an object's cells. -/
import Derived.Test.YtndgadjeeinedaaGreatDoorMDl16s
import Derived.Test.YtndgadjeeinedaaGreatDoorMByts
import Derived.BigQuiet
import Derived.Laws.Tables
import Derived.Great.BuildSlice
import Derived.Laws.ResultCell
namespace Go.Proofs.YtndgadjeeinedaaGreatDoor
open Go Go.RowKit
def RdK (w:World) (v:Value) (n:Nat) (cs:List Value):Prop:=
 ∃ A c,v=.slice A n c∧n≤c∧(0 < n→∃ b o,A=some ⟨b,o,none⟩∧b < w.heap.size∧∀ j u,cs[j]? = some u→w.cell? ⟨b,o+j,none⟩=some u)
theorem RdK.below {w w':World} {v:Value} {n:Nat} {cs:List Value} (h:RdK w v n cs) {B:Nat} (hb:Below B w w') (hB:w.heap.size≤B):RdK w' v n cs:=by
 obtain ⟨A,c,hv,hc,hA⟩:=h
 refine ⟨A,c,hv,hc,fun h0=>?_⟩
 obtain ⟨b,o,ha,hl,hx⟩:=hA h0
 have:=hb.size
 exact ⟨b,o,ha,by omega,fun j u hu=>(hb.cell (p:=⟨b,o+j,none⟩) (by show b < B;omega)).trans (hx j u hu)⟩
theorem RdK.nil (w:World) (cs:List Value):RdK w (.slice none 0 0) 0 cs:=⟨none,0,rfl,Nat.le_refl _,fun h=>absurd h (by simp)⟩
noncomputable def eqv {α:Type} (a b:α):Bool:=@decide (a=b) (Classical.propDecidable _)
theorem eqv_true {α:Type} {a b:α} (h:a=b):eqv a b=true:=@decide_eq_true _ (Classical.propDecidable _) h
theorem eqv_iff {α:Type} {a b:α}:eqv a b=true↔a=b:=@decide_eq_true_iff _ (Classical.propDecidable _)
theorem beq_eqv {α:Type} [BEq α] [LawfulBEq α] (a b:α):(a == b)=eqv a b:=by
 rw [Bool.eq_iff_iff,beq_iff_eq,eqv_iff]
structure Ent where
 name:ByteArray
 id:List Nat
structure Ob where
 kind:Int
 text:List Nat
 ents:List Ent
 target:List Nat
 pars:List (List Nat)
def Id32 (x:List Nat):Prop:=x.length=32∧Sha.Byte x
structure Ob.Fit (o:Ob):Prop where
 text:Sha.Byte o.text
 ents:∀ e∈o.ents,Id32 e.id
 target:Id32 o.target
 pars:∀ p∈o.pars,Id32 p
def cellsE1 (e:Ent):List Value:=.string e.name::cellsB e.id
def cellsE (es:List Ent):List Value:=es.flatMap cellsE1
def cellsP (ps:List (List Nat)):List Value:=ps.flatMap cellsB
theorem flat_get {α:Type} (f:α→List Value) (n:Nat):∀ (l:List α) (_:∀ a∈l,(f a).length=n) (k:Nat) (h:k < l.length) (j:Nat) (_:j < n),(l.flatMap f)[n * k+j]? = (f l[k])[j]?
 | a::l,hl,0,_,j,hj=>by
  rw [List.flatMap_cons,Nat.mul_zero,Nat.zero_add,List.getElem?_append_left (by rw [hl a (List.mem_cons_self ..)];exact hj)];rfl
 | a::l,hl,k+1,h,j,hj=>by
  have ih:=flat_get f n l (fun a h=>hl a (List.mem_cons_of_mem _ h)) k (by simpa using h) j hj
  have h1:(f a).length=n:=hl a (List.mem_cons_self ..)
  rw [List.flatMap_cons,List.getElem?_append_right (by rw [h1,Nat.mul_succ];omega),h1,show n * (k+1)+j - n=n * k+j by rw [Nat.mul_succ];omega,ih];rfl
theorem cellsE1_len {e:Ent} (h:Id32 e.id):(cellsE1 e).length=33:=by simp [cellsE1,cellsB,h.1]
theorem cellsP1_len {p:List Nat} (h:Id32 p):(cellsB p).length=32:=by simp [cellsB,h.1]
theorem RdK.ent {w:World} {A:Option Addr} {n c:Nat} {es:List Ent} (h:RdK w (.slice A n c) n (cellsE es)) (hn:n=es.length) (hf:∀ e∈es,Id32 e.id) {k:Nat} (hk:k < es.length) :
  ∃ b o,A=some ⟨b,o,none⟩∧b < w.heap.size∧w.rangeAt b (o+k * 33) (cellsE1 es[k]):=by
 obtain ⟨A',c',hv,hc,hA⟩:=h
 injection hv with e1 e2 e3
 subst e1
 obtain ⟨b,o,ha,hl,hx⟩:=hA (by omega)
 refine ⟨b,o,ha,hl,fun j u hu=>?_⟩
 have hj:j < 33:=by have:=(List.getElem?_eq_some_iff.1 hu).1;rwa [cellsE1_len (hf _ (List.getElem_mem _))] at this
 rw [Nat.add_assoc]
 refine hx (k * 33+j) u ?_
 rw [cellsE,Nat.mul_comm k 33,flat_get cellsE1 33 es (fun e he=>cellsE1_len (hf e he)) k hk j hj,hu]
theorem RdK.par {w:World} {A:Option Addr} {n c:Nat} {ps:List (List Nat)} (h:RdK w (.slice A n c) n (cellsP ps)) (hn:n=ps.length) (hf:∀ p∈ps,Id32 p) {k:Nat} (hk:k < ps.length) :
  ∃ b o,A=some ⟨b,o,none⟩∧b < w.heap.size∧w.rangeAt b (o+k * 32) (cellsB ps[k]):=by
 obtain ⟨A',c',hv,hc,hA⟩:=h
 injection hv with e1 e2 e3
 subst e1
 obtain ⟨b,o,ha,hl,hx⟩:=hA (by omega)
 refine ⟨b,o,ha,hl,fun j u hu=>?_⟩
 have hj:j < 32:=by have:=(List.getElem?_eq_some_iff.1 hu).1;rwa [cellsP1_len (hf _ (List.getElem_mem _))] at this
 rw [Nat.add_assoc]
 refine hx (k * 32+j) u ?_
 rw [cellsP,Nat.mul_comm k 32,flat_get cellsB 32 ps (fun e he=>cellsP1_len (hf e he)) k hk j hj,hu]
structure ObC (w:World) (o:Ob) (cs:Array Value) (T:Option Addr) (tc:Nat) (E:Option Addr) (ec:Nat) (P:Option Addr) (pc:Nat):Prop where
 cells:cs=(.int .i64 o.kind::.slice T o.text.length tc::.slice E o.ents.length ec::(cellsB o.target++[.slice P o.pars.length pc])).toArray
 text:Rd w (.slice T o.text.length tc) o.text
 ents:RdK w (.slice E o.ents.length ec) o.ents.length (cellsE o.ents)
 pars:RdK w (.slice P o.pars.length pc) o.pars.length (cellsP o.pars)
theorem ObC.below {w w':World} {o:Ob} {cs:Array Value} {T E P:Option Addr} {tc ec pc:Nat} (h:ObC w o cs T tc E ec P pc) {B:Nat} (hb:Below B w w') (hB:w.heap.size≤B):ObC w' o cs T tc E ec P pc:=
 ⟨h.cells,h.text.below hb hB,h.ents.below hb hB,h.pars.below hb hB⟩
section
variable {w:World} {o:Ob} {cs:Array Value} {T E P:Option Addr} {tc ec pc:Nat}
theorem ObC.size (h:ObC w o cs T tc E ec P pc) (hf:o.Fit):cs.size=36:=by
 rw [h.cells];simp [cellsB_len,hf.target.1]
theorem ObC.c0 (h:ObC w o cs T tc E ec P pc):cs[0]? = some (.int .i64 o.kind):=by rw [h.cells];rfl
theorem ObC.c1 (h:ObC w o cs T tc E ec P pc):cs[1]? = some (.slice T o.text.length tc):=by rw [h.cells];rfl
theorem ObC.c2 (h:ObC w o cs T tc E ec P pc):cs[2]? = some (.slice E o.ents.length ec):=by rw [h.cells];rfl
theorem ObC.c35 (h:ObC w o cs T tc E ec P pc) (hf:o.Fit):cs[35]? = some (.slice P o.pars.length pc):=by
 rw [h.cells]
 rw [List.getElem?_toArray,show (35:Nat)=32+1+1+1 from rfl,List.getElem?_cons_succ,List.getElem?_cons_succ,List.getElem?_cons_succ,List.getElem?_append_right (by rw [cellsB_len,hf.target.1];omega),cellsB_len,hf.target.1]
 rfl
theorem ObC.mid (h:ObC w o cs T tc E ec P pc) {wb:World} {g:Nat} {t:TypeId} (hB:Blk wb g t cs):wb.rangeAt g 3 (cellsB o.target):=fun j u hu=>by
 rw [hB.cell,h.cells]
 rw [List.getElem?_toArray,show 3+j=j+1+1+1 by omega,List.getElem?_cons_succ,List.getElem?_cons_succ,List.getElem?_cons_succ,List.getElem?_append_left (List.getElem?_eq_some_iff.1 hu).1,hu]
end
end Go.Proofs.YtndgadjeeinedaaGreatDoor
/- Rows of ids, and of entries, compared (slices.Equal). -/
namespace Go.Proofs.YtndgadjeeinedaaGreatDoor
open Go Go.RowKit
theorem size_u8 (w:World):(sizeOf 5).run Tryz.prog w=.ok 1 w:=by simp [Tryz.sizeOf5]
theorem id_eq (w:World) (x y:List Nat) (hx:Id32 x) (hy:Id32 y):(Op.equalIn 10000 42 (.agg (cellsB x).toArray) (.agg (cellsB y).toArray)).run Tryz.prog w=.ok (eqv x y) w:=
 beq_eqv x y▸run_equalIn_u8s w 42 5 32 Tryz.underlying42 Tryz.underlying5 size_u8 x y hx.1 hy.1 hx.2 hy.2
theorem wpList_mid_w {P:Program} {ops:Array Oper} {rest:List Oper} {op:Oper} {a:Act} {w:World} {Q:Exit→Act→World→Prop} (hw:Region.wanted op (yielded ops a.tmps)=true) (ty:TypeId) (x:Operand) (ho:op.op=.load ty x)
  (b o:Nat) (hx:a.eval x=.pointer (some ⟨b,o,none⟩)) (cs:List Value) (d:TypeDesc) (hc:w.rangeAt b o cs)
  (hu:P.underlying ty=some d) (hd:d.isRow=true) (hi:(P.info? ty).map (·.size)=some cs.length)
  (h:wpList P ops Q rest (a.put op.dst (.agg cs.toArray)) w):wpList P ops Q (op::rest) a w:=
 wpList_step fun K hK=>by
  simp only [hw,if_true]
  exact wp_load_mid ty x ho b o hx cs d hc hu hd hi (hK _ _ h)
abbrev zeros32:List Nat:=List.replicate 32 0
theorem zeros_id:Id32 zeros32:=⟨by simp,fun i=>by
 rw [List.getD_eq_getElem?_getD]
 by_cases h:i < 32
 ·simp [h]
 ·simp [h]⟩
structure Box (w0 w:World) (g:Nat) (t:TypeId) (cs:Array Value):Prop where
 at_:Blk w g t cs
 bel:Below w0.heap.size w0 w
theorem Box.go {w0 w w':World} {g:Nat} {t:TypeId} {cs:Array Value} (h:Box w0 w g t cs) (k:Below w.heap.size w w'):Box w0 w' g t cs:=
 ⟨h.at_.below k h.at_.lt,⟨k.os.trans h.bel.os,k.tape.trans h.bel.tape,k.output.trans h.bel.output,Nat.le_trans h.bel.size k.size,fun i hi=>(k.block i (Nat.lt_of_lt_of_le hi h.bel.size)).trans (h.bel.block i hi)⟩⟩
theorem Box.new (w:World) (t:TypeId) (cs:Array Value):Box w (w.alloc (.cells cs t)) w.heap.size t cs:=⟨Blk.new w t cs,(Below.refl _ _).alloc (Nat.le_refl _) _⟩
theorem below_next {a b c:World} (h:Below a.heap.size a b) (k:Below b.heap.size b c):Below a.heap.size a c:=
 ⟨k.os.trans h.os,k.tape.trans h.tape,k.output.trans h.output,Nat.le_trans h.size k.size,fun i hi=>(k.block i (Nat.lt_of_lt_of_le hi h.size)).trans (h.block i hi)⟩
theorem splice_from (off:Nat):∀ (xs old pre post:List Value) (n:Nat),old.length=xs.length→pre.length=off+n →
  (xs.zipIdx n).foldl (fun (cs:Array Value) (x:Value×Nat)=>cs.setIfInBounds (off+x.2) x.1) (pre++old++post).toArray=(pre++xs++post).toArray
 | [],old,pre,post,n,h,_=>by
  obtain rfl:old=[]:=List.eq_nil_of_length_eq_zero h
  rfl
 | x::xs,[],pre,post,n,h,_=>by simp at h
 | x::xs,o::old,pre,post,n,h,hp=>by
  have e:(pre++o::old++post).toArray.setIfInBounds (off+n) x=((pre++[x])++old++post).toArray:=by
   apply Array.ext'
   rw [Array.toList_setIfInBounds]
   show (pre++o::old++post).set (off+n) x=_
   rw [List.append_assoc,List.set_append_right _ _ (by omega),show off+n - pre.length=0 by omega]
   simp
  rw [List.zipIdx_cons,List.foldl_cons,e,splice_from off xs old (pre++[x]) post (n+1) (by simpa using h) (by simp;omega)]
  simp
theorem fill_part (place:Nat→Option (Nat×Nat)) (i off size:Nat) (v:Value) (rest:List (Nat×Value)) (xs old pre post:List Value) (hp:place i=some (off,size)) (hv:v.cells=xs.toArray) (hx:xs.length=size) (ho:old.length=size) (hpre:pre.length=off) :
  Instr.fill place (pre++old++post).toArray ((i,v)::rest)=Instr.fill place (pre++xs++post).toArray rest:=by
 have h1:¬(xs.toArray.size≠size):=by simp [hx]
 have h2:¬(off+xs.toArray.size > (pre++old++post).toArray.size):=by simp;omega
 have h3:xs.toArray.zipIdx.foldl (fun (cs:Array Value) (x:Value×Nat)=>cs.setIfInBounds (off+x.2) x.1) (pre++old++post).toArray=(pre++xs++post).toArray:=by
  rw [←Array.foldl_toList]
  have:xs.toArray.zipIdx.toList=xs.zipIdx 0:=by simp
  rw [this]
  exact splice_from off xs old pre post 0 (by omega) (by omega)
 rw [Instr.fill,hp]
 simp only [hv]
 rw [if_neg (by simp only [Bool.or_eq_true,decide_eq_true_eq,not_or];exact ⟨by simpa using h1,h2⟩)]
 exact congrArg (fun c=>Instr.fill place c rest) h3
theorem fill_done (place:Nat→Option (Nat×Nat)) (cs:Array Value):Instr.fill place cs []=some cs:=rfl
theorem wpList_buildK {P:Program} {ops:Array Oper} {rest:List Oper} {o:Oper} {a:Act} {w:World} {Q:Exit→Act→World→Prop} (hg:o.guard=none) (t:TypeId) (parts:Array (Nat×Operand)) (ho:o.op=.build t parts) (vals:List (Nat×Value))
  (hv:(parts.map fun (i,x)=>(i,a.eval x)).toList=vals) (cells:Array Value) (h:P.built t vals=some cells) (hk:wpList P ops Q rest (a.put o.dst (.agg cells)) w):wpList P ops Q (o::rest) a w:=
 wpList_plain hg fun K hK=>by
  refine wp_build t parts ho (by rw [hv,h];rfl) ?_
  rw [hv,h]
  exact hK _ _ hk
theorem wpList_buildSliceK {P:Program} {ops:Array Oper} {rest:List Oper} {o:Oper} {a:Act} {w:World} {Q:Exit→Act→World→Prop} (hg:o.guard=none) (t e:TypeId) (len:Nat) (parts:Array (Nat×Operand)) (ho:o.op=.buildSlice t len parts)
  (cells:Array Value) (ie:TypeInfo) (z:Value) (hu:P.underlying t=some (.slice e)) (hie:P.info? e=some ie) (hz:ie.zero=some z) (hsmall:¬len * ie.size > 2 ^ 24) (hpos:¬len * ie.size=0)
  (vals:List (Nat×Value)) (hv:(parts.map fun (i,x)=>(i,a.eval x)).toList=vals)
  (hf:Instr.fill (fun i=>some (i * ie.size,ie.size)) ((Array.range (len * ie.size)).map (z.cells[· % z.cells.size]!)) vals=some cells)
  (h:wpList P ops Q rest (a.put o.dst (.slice (some ⟨w.heap.size,0,none⟩) len len)) (w.alloc (.cells cells e))):wpList P ops Q (o::rest) a w:=
 wpList_buildSlice hg t e len parts ho cells ie z hu hie hz hsmall hpos (by rw [hv];exact hf) h
theorem built_of {P:Program} {t:TypeId} {fields:Array Field} {zc:Array Value} {places:List (Nat×Nat)} (hu:P.underlying t=some (.struct fields)) (hz:((P.info? t).bind (·.zero)).map (·.cells)=some zc)
  (hp:fields.toList.mapM (fun f=>(P.info? f.type).map fun i=>(f.offset,i.size))=some places) (parts:List (Nat×Value)):P.built t parts=Instr.fill (places.toArray[·]?) zc parts:=by
 cases hi:P.info? t with
 | none=>simp [hi] at hz
 | some it=>
  cases hzz:it.zero with
  | none=>simp [hi,hzz] at hz
  | some z=>
   have hzc:z.cells=zc:=by simpa [hi,hzz] using hz
   simp [Program.built,hi,hu,hzz,hp,hzc]
def cellsOb (k:Int) (t e p:Value) (x:List Nat):List Value:=.int .i64 k::t::e::(cellsB x++[p])
theorem robj_places:(Tryz.prog.fieldsOf 51).toList.mapM (fun f=>(Tryz.prog.info? f.type).map fun i=>(f.offset,i.size))=some [(0,1),(1,1),(2,1),(3,32),(35,1)]:=by kernel_rfl
theorem robj_zero:((Tryz.prog.info? 51).bind (·.zero)).map (·.cells)=some (cellsOb 0 (.slice none 0 0) (.slice none 0 0) (.slice none 0 0) (List.replicate 32 0)).toArray:=by kernel_rfl
theorem robj_under:Tryz.prog.underlying 51=some (.struct (Tryz.prog.fieldsOf 51)):=by kernel_rfl
theorem rent_places:(Tryz.prog.fieldsOf 76).toList.mapM (fun f=>(Tryz.prog.info? f.type).map fun i=>(f.offset,i.size))=some [(0,1),(1,32)]:=by kernel_rfl
theorem rent_zero:((Tryz.prog.info? 76).bind (·.zero)).map (·.cells)=some (cellsE1 ⟨⟨#[]⟩,List.replicate 32 0⟩).toArray:=by kernel_rfl
theorem rent_under:Tryz.prog.underlying 76=some (.struct (Tryz.prog.fieldsOf 76)):=by kernel_rfl
theorem rent_built (e:Ent) (h:Id32 e.id):Tryz.prog.built 76 [(0,.string e.name),(1,.agg (cellsB e.id).toArray)]=some (cellsE1 e).toArray:=by
 rw [built_of rent_under rent_zero rent_places]
 have e1:=fill_part (fun i=>([(0,1),(1,32)]:List (Nat×Nat)).toArray[i]?) 0 0 1 (.string e.name) [(1,.agg (cellsB e.id).toArray)] [.string e.name] [.string ⟨#[]⟩] [] (cellsB (List.replicate 32 0)) rfl rfl rfl rfl rfl
 have e2:=fill_part (fun i=>([(0,1),(1,32)]:List (Nat×Nat)).toArray[i]?) 1 1 32 (.agg (cellsB e.id).toArray) [] (cellsB e.id) (cellsB (List.replicate 32 0)) [.string e.name] [] rfl rfl (by rw [cellsB_len,h.1]) (by rw [cellsB_len];rfl) rfl
 rw [List.append_nil,List.append_nil] at e2
 exact e1.trans e2
abbrev nilV:Value:=.slice none 0 0
abbrev zc0:Array Value:=(cellsOb 0 nilV nilV nilV (List.replicate 32 0)).toArray
theorem cellsOb_size (k:Int) (t e p:Value) (x:List Nat) (hx:x.length=32):(cellsOb k t e p x).toArray.size=36:=by simp [cellsOb,cellsB_len,hx]
theorem cellsOb_one (k:Int) (A B C:Option Addr) (l1 l2 l3 c1 c2 c3:Nat) (x:List Nat):((cellsOb k (.slice A l1 c1) (.slice B l2 c2) (.slice C l3 c3) x).toArray).all (·.oneCell')=true:=by
 rw [Array.all_eq_true_iff_forall_mem]
 intro v hv
 simp only [cellsOb,List.mem_toArray,List.mem_cons,List.mem_append,List.not_mem_nil,or_false] at hv
 rcases hv with rfl | rfl | rfl | hv | rfl
 ·rfl
 ·rfl
 ·rfl
 ·exact cellsB_one _ v hv
 ·rfl
theorem results_cell_row2 {P:Program} {fn:Func} {p u:Tmp} {ty:TypeId} (h:fn.results=#[.cell p ty,.tmp u]) (tmps:Array Value) (w:World) (g:Nat) (t:TypeId) (cs:Array Value) (d:TypeDesc) (y:Value)
  (hp:tmps.getD p undef=.pointer (some ⟨g,0,none⟩)) (hy:tmps.getD u undef=y) (hg:Blk w g t cs) (hu:P.underlying ty=some d) (hd:(match d with | .struct _ | .array _ _=>true | _=>false)=true) (hi:(P.info? ty).map (·.size)=some cs.size) :
  (results fn tmps).run P w=.ok (.tuple #[.agg cs,y]) w:=by
 rw [results_cell_tmp h,hp,hy]
 have h2:=run_loadVar_row (P:=P) w g t ty cs (0,0) d hg hu hd hi
 simp only [asAddr,Sem.run_pure,Result.andThen_ok,h2]
theorem own_slice {w:World} {base:Nat} {e:TypeId} {size n:Nat} {v:Value} {xs:List Value} (h:w.ownsRow base e size v n xs):∃ A c,v=.slice A n c:=by
 rcases h.2 with ⟨rfl,rfl⟩ | ⟨g,cap,cur,rfl,_⟩
 ·exact ⟨none,0,rfl⟩
 ·exact ⟨_,_,rfl⟩
theorem own_farRow {w:World} {base:Nat} {e:TypeId} {size n:Nat} {v:Value} {xs:List Value} (h:w.ownsRow base e size v n xs) {g:Nat} (hg:∀ k,v.ownBlock=some k→k≠g) (cs:Array Value):(w.setRow g cs).ownsRow base e size v n xs:=by
 refine ⟨h.1,?_⟩
 rcases h.2 with hn | ⟨k,cap,cur,rfl,hb,hgg,hr⟩
 ·exact .inl hn
 ·exact .inr ⟨k,cap,cur,rfl,hb,by rw [setRow_other w g k cs (hg k rfl)];exact hgg,hr⟩
theorem rdk_own {w:World} {base:Nat} {e:TypeId} {size n:Nat} {v:Value} {xs:List Value} (h:w.ownsRow base e size v n xs):RdK w v n xs:=by
 rcases h.2 with ⟨rfl,rfl⟩ | ⟨g,cap,cur,rfl,hb,hgg,hc,_⟩
 ·exact RdK.nil _ _
 ·exact ⟨_,_,rfl,hc,fun _=>⟨g,0,rfl,(Array.getElem?_eq_some_iff.1 hgg).1,fun j u hu=>by
   have:=h.cells rfl j u hu
   rw [Addr.add_mid] at this
   exact this⟩⟩
theorem cellsOb_set35 (k:Int) (t e p u:Value) (x:List Nat) (hx:x.length=32):(cellsOb k t e p x).toArray.setIfInBounds 35 u=(cellsOb k t e u x).toArray:=by
 apply Array.ext'
 rw [Array.toList_setIfInBounds]
 show (cellsOb k t e p x).set 35 u=_
 rw [cellsOb,show (35:Nat)=32+1+1+1 from rfl,List.set_cons_succ,List.set_cons_succ,List.set_cons_succ,List.set_append_right _ _ (by rw [cellsB_len,hx];omega),cellsB_len,hx]
 rfl
theorem cellsOb_get35 (k:Int) (t e p:Value) (x:List Nat) (hx:x.length=32):(cellsOb k t e p x).toArray[35]? = some p:=by
 rw [List.getElem?_toArray,cellsOb,show (35:Nat)=32+1+1+1 from rfl,List.getElem?_cons_succ,List.getElem?_cons_succ,List.getElem?_cons_succ,List.getElem?_append_right (by rw [cellsB_len,hx];omega),cellsB_len,hx]
 rfl
theorem ent_info:(Tryz.prog.info? 76).map (fun i=>(i.zero,i.size,i.bytes))=some (some (.agg (cellsE1 ⟨⟨#[]⟩,List.replicate 32 0⟩).toArray),33,48):=by kernel_rfl
theorem oid32_info:(Tryz.prog.info? 41).map (fun i=>(i.zero,i.size,i.bytes))=some (some (.agg (cellsB (List.replicate 32 0)).toArray),32,32):=by kernel_rfl
theorem cellsE1_one (e:Ent):∀ v∈cellsE1 e,v.oneCell'=true:=by
 intro v hv
 rcases List.mem_cons.1 hv with rfl | hv
 ·rfl
 ·exact cellsB_one _ v hv
theorem arr_one {l:List Value} (h:∀ v∈l,v.oneCell'=true):l.toArray.all (·.oneCell')=true:=by
 rw [Array.all_eq_true_iff_forall_mem]
 exact fun v hv=>h v (by simpa using hv)
theorem fill_one (n:Nat) (zc:Array Value) (xs:List Value) (hx:xs.length=n) (_hz:zc.size=n):Instr.fill (fun i=>some (i * n,n)) ((Array.range (1 * n)).map (zc[· % zc.size]!)) [(0,.agg xs.toArray)]=some xs.toArray:=by
 obtain ⟨old,ho⟩:∃ old:List Value,(Array.range (1 * n)).map (zc[· % zc.size]!)=old.toArray:=⟨_,(Array.toArray_toList ..).symm⟩
 have hl:old.length=n:=by
  have:=congrArg Array.size ho
  simpa using this.symm
 rw [ho]
 have h:=fill_part (fun i=>some (i * n,n)) 0 0 n (.agg xs.toArray) [] xs old [] [] (by simp) rfl hx hl rfl
 rw [List.nil_append,List.append_nil,List.nil_append,List.append_nil] at h
 exact h
def okc (c:Nat):Bool:=decide (33≤c) && decide (c≤126) && !(c == 47)
def nameOk (l:List UInt8):Bool:=decide (1≤l.length) && decide (l.length≤12) && l.all (fun c=>okc c.toNat)
theorem nm_take {s:ByteArray} {k:Nat} (h:k < s.size) (h1:(s.data.toList.take k).all (fun c=>okc c.toNat)=true) (h2:okc s[k].toNat=true):(s.data.toList.take (k+1)).all (fun c=>okc c.toNat)=true:=by
 rw [List.take_succ_eq_append_getElem (by simpa using h),List.all_append,h1,Bool.true_and,List.all_cons,List.all_nil,Bool.and_true]
 exact h2
theorem nm_not {s:ByteArray} {k:Nat} (h:k < s.size) (h2:okc s[k].toNat=false):s.data.toList.all (fun c=>okc c.toNat)=false:=by
 rw [List.all_eq_false]
 exact ⟨s[k],by simp [ByteArray.getElem_eq_getElem_data],by simp [h2]⟩
set_option maxHeartbeats 1000000 in
theorem rname_any (s:ByteArray) (w:World) (hs:s.size≤1099511627776) :
  Calls Tryz.prog 114 #[.string s] w fun e w'=>e=.returned (.bool (nameOk s.data.toList))∧w'=w:=by
 have hl:s.data.toList.length=s.size:=by simp
 by_cases h1:s.size < 1
 ·have HV:=Lib.hid (show nameOk s.data.toList=false by unfold nameOk;rw [hl,decide_eq_false (show ¬1≤s.size by omega)];rfl)
  have g1:((s.size:Nat):Int) < 1:=by omega
  clear hl
  go_enter Tryz.func114,Tryz.ntmps114
  go_wp2
  go_ret
  exact ⟨by rw [HV.out];rfl,rfl⟩
 by_cases h2:12 < s.size
 ·have HV:=Lib.hid (show nameOk s.data.toList=false by unfold nameOk;rw [hl,decide_eq_false (show ¬s.size≤12 by omega),Bool.and_false,Bool.false_and])
  have g1:¬((s.size:Nat):Int) < 1:=by omega
  have g2:(12:Int) < ((s.size:Nat):Int):=by omega
  clear hl
  go_enter Tryz.func114,Tryz.ntmps114
  go_wp2
  go_ret
  exact ⟨by rw [HV.out];rfl,rfl⟩
 have g1:¬((s.size:Nat):Int) < 1:=by omega
 have g2:¬(12:Int) < ((s.size:Nat):Int):=by omega
 have HN:=Lib.hid (fun (b:Bool) (h:s.data.toList.all (fun c=>okc c.toNat)=b)=>show nameOk s.data.toList=b by unfold nameOk;rw [hl,decide_eq_true (show 1≤s.size by omega),decide_eq_true (show s.size≤12 by omega),h];rfl)
 clear hl
 go_enter Tryz.func114,Tryz.ntmps114
 go_wp2
 go_loopw [14] (fun i wr=>∃ k:Nat,k≤s.size∧i=.int .i64 k∧Hid ((s.data.toList.take k).all (fun c=>okc c.toNat)=true)∧wr=w) (fun i _=>s.size - (intOf i).toNat)
 case atStart=>exact ⟨0,Nat.zero_le _,rfl,Lib.hid rfl,rfl⟩
 case round=>
  obtain ⟨k,hk,rfl,HK,rfl⟩:=hrel
  by_cases hlt:k < s.size
  ·have HO:=Lib.hid (fun (h:okc s[k].toNat=true)=>show (s.data.toList.take (k+1)).all (fun c=>okc c.toNat)=true from nm_take hlt HK.out h)
   have HX:=Lib.hid (fun (h:okc s[k].toNat=false)=>HN.out false (nm_not hlt h))
   have i0:((k:Nat):Int) < ((s.size:Nat):Int):=by omega
   have i1:(0:Int)≤((k:Nat):Int):=by omega
   by_cases c1:s[k].toNat < 33
   ·have HF:=Lib.hid (HX.out (by unfold okc;rw [decide_eq_false (show ¬33≤s[k].toNat by omega)];rfl))
    have q1:((s[k].toNat:Nat):Int) < 33:=by omega
    clear c1
    go_wp2
    go_ret
    exact ⟨by rw [HF.out];rfl,rfl⟩
   by_cases c2:126 < s[k].toNat
   ·have HF:=Lib.hid (HX.out (by unfold okc;rw [decide_eq_false (show ¬s[k].toNat≤126 by omega),Bool.and_false,Bool.false_and]))
    have q1:¬((s[k].toNat:Nat):Int) < 33:=by omega
    have q2:(126:Int) < ((s[k].toNat:Nat):Int):=by omega
    clear c1 c2
    go_wp2
    go_ret
    exact ⟨by rw [HF.out];rfl,rfl⟩
   have q1:¬((s[k].toNat:Nat):Int) < 33:=by omega
   have q2:¬(126:Int) < ((s[k].toNat:Nat):Int):=by omega
   by_cases c3:s[k].toNat=47
   ·have HF:=Lib.hid (HX.out (by unfold okc;rw [c3];rfl))
    have q3:(((s[k].toNat:Nat):Int) == 47)=true:=by simp;omega
    clear c1 c2 c3
    go_wp2
    go_ret
    exact ⟨by rw [HF.out];rfl,rfl⟩
   ·have HF:=Lib.hid (HO.out (by unfold okc;rw [decide_eq_true (show 33≤s[k].toNat by omega),decide_eq_true (show s[k].toNat≤126 by omega)];simp [c3]))
    have q3:(((s[k].toNat:Nat):Int) == 47)=false:=by simp;omega
    clear c1 c2 c3
    go_wp2
    go_roundw
    case rel=>exact ⟨k+1,by omega,by go_num,HF,(by first | rfl | trivial)⟩
    case measure=>simp [intOf];omega
  ·have HF:=Lib.hid (HN.out true (by have h:=HK.out;rwa [List.take_of_length_le (by simp;omega)] at h))
   go_wp2
   go_ret
   exact ⟨by rw [HF.out];rfl,rfl⟩
set_option maxHeartbeats 1000000 in
theorem rnamed_any (s:ByteArray) (w:World) (hs:s.size≤1099511627776) :
  Calls Tryz.prog 55 #[.string s] w fun e w'=>e=.returned (.bool (nameOk s.data.toList))∧w'=w:=by
 have hl:s.data.toList.length=s.size:=by simp
 by_cases h1:s.size < 1
 ·have HV:=Lib.hid (show nameOk s.data.toList=false by unfold nameOk;rw [hl,decide_eq_false (show ¬1≤s.size by omega)];rfl)
  have g1:((s.size:Nat):Int) < 1:=by omega
  clear hl
  go_enter Tryz.func55,Tryz.ntmps55
  go_wp2
  go_ret
  exact ⟨by rw [HV.out];rfl,rfl⟩
 by_cases h2:12 < s.size
 ·have HV:=Lib.hid (show nameOk s.data.toList=false by unfold nameOk;rw [hl,decide_eq_false (show ¬s.size≤12 by omega),Bool.and_false,Bool.false_and])
  have g1:¬((s.size:Nat):Int) < 1:=by omega
  have g2:(12:Int) < ((s.size:Nat):Int):=by omega
  clear hl
  go_enter Tryz.func55,Tryz.ntmps55
  go_wp2
  go_ret
  exact ⟨by rw [HV.out];rfl,rfl⟩
 have g1:¬((s.size:Nat):Int) < 1:=by omega
 have g2:¬(12:Int) < ((s.size:Nat):Int):=by omega
 have HN:=Lib.hid (fun (b:Bool) (h:s.data.toList.all (fun c=>okc c.toNat)=b)=>show nameOk s.data.toList=b by unfold nameOk;rw [hl,decide_eq_true (show 1≤s.size by omega),decide_eq_true (show s.size≤12 by omega),h];rfl)
 clear hl
 go_enter Tryz.func55,Tryz.ntmps55
 go_wp2
 go_loopw [3] (fun i wr=>∃ k:Nat,k≤s.size∧i=.int .i64 k∧Hid ((s.data.toList.take k).all (fun c=>okc c.toNat)=true)∧wr=w) (fun i _=>s.size - (intOf i).toNat)
 case atStart=>exact ⟨0,Nat.zero_le _,rfl,Lib.hid rfl,rfl⟩
 case round=>
  obtain ⟨k,hk,rfl,HK,rfl⟩:=hrel
  by_cases hlt:k < s.size
  ·have HO:=Lib.hid (fun (h:okc s[k].toNat=true)=>show (s.data.toList.take (k+1)).all (fun c=>okc c.toNat)=true from nm_take hlt HK.out h)
   have HX:=Lib.hid (fun (h:okc s[k].toNat=false)=>HN.out false (nm_not hlt h))
   have i0:((k:Nat):Int) < ((s.size:Nat):Int):=by omega
   have i1:(0:Int)≤((k:Nat):Int):=by omega
   by_cases c1:s[k].toNat < 33
   ·have HF:=Lib.hid (HX.out (by unfold okc;rw [decide_eq_false (show ¬33≤s[k].toNat by omega)];rfl))
    have q1:((s[k].toNat:Nat):Int) < 33:=by omega
    clear c1
    go_wp2
    go_ret
    exact ⟨by rw [HF.out];rfl,rfl⟩
   by_cases c2:126 < s[k].toNat
   ·have HF:=Lib.hid (HX.out (by unfold okc;rw [decide_eq_false (show ¬s[k].toNat≤126 by omega),Bool.and_false,Bool.false_and]))
    have q1:¬((s[k].toNat:Nat):Int) < 33:=by omega
    have q2:(126:Int) < ((s[k].toNat:Nat):Int):=by omega
    clear c1 c2
    go_wp2
    go_ret
    exact ⟨by rw [HF.out];rfl,rfl⟩
   have q1:¬((s[k].toNat:Nat):Int) < 33:=by omega
   have q2:¬(126:Int) < ((s[k].toNat:Nat):Int):=by omega
   by_cases c3:s[k].toNat=47
   ·have HF:=Lib.hid (HX.out (by unfold okc;rw [c3];rfl))
    have q3:(((s[k].toNat:Nat):Int) == 47)=true:=by simp;omega
    clear c1 c2 c3
    go_wp2
    go_ret
    exact ⟨by rw [HF.out];rfl,rfl⟩
   ·have HF:=Lib.hid (HO.out (by unfold okc;rw [decide_eq_true (show 33≤s[k].toNat by omega),decide_eq_true (show s[k].toNat≤126 by omega)];simp [c3]))
    have q3:(((s[k].toNat:Nat):Int) == 47)=false:=by simp;omega
    clear c1 c2 c3
    go_wp2
    go_roundw
    case rel=>exact ⟨k+1,by omega,by go_num,HF,(by first | rfl | trivial)⟩
    case measure=>simp [intOf];omega
  ·have HF:=Lib.hid (HN.out true (by have h:=HK.out;rwa [List.take_of_length_le (by simp;omega)] at h))
   go_wp2
   go_ret
   exact ⟨by rw [HF.out];rfl,rfl⟩
end Go.Proofs.YtndgadjeeinedaaGreatDoor
