/- Rows of bytes of the call's own: append, what a slice holds, bytes as a text. -/
import Derived.Test.YtndgadjeeinedaaGreatDoorMShaMixs
import Derived.Test.YtndgadjeeinedaaGreatDoorMErrs
import Derived.Laws.AppendOwn
import Derived.Deep.MidRow
import Derived.Laws.OwnMore
import Derived.Test.YtndgadjeeinedaaGreatDoorMBases
import Derived.Shelf.Small.Strs
namespace Go.Proofs.YtndgadjeeinedaaGreatDoor
open Go Go.RowKit
def cellsB (x:List Nat):List Value:=x.map fun (n:Nat)=>Value.int .u8 (n:Int)
theorem cellsB_len (x:List Nat):(cellsB x).length=x.length:=by simp [cellsB]
theorem cellsB_one (x:List Nat):∀ v∈cellsB x,v.oneCell'=true:=by
 intro v hv
 obtain ⟨n,_,rfl⟩:=List.mem_map.1 hv
 rfl
theorem cellsB_get {x:List Nat} {i:Nat} (h:i < x.length):(cellsB x)[i]? = some (.int .u8 ((x.getD i 0:Nat):Int)):=by
 simp [cellsB,List.getD,h]
theorem byte_info:(Tryz.prog.info? 5).map (fun i=>(i.zero,i.size,i.bytes))=some (some (.int .u8 0),1,1):=by kernel_rfl
theorem wpList_appendB {ops:Array Oper} {rest:List Oper} {o:Oper} {a:Act} {w:World} {Q:Exit→Act→World→Prop} (hgd:o.guard=none) (s x:Operand)
  (ho:o.op=.call { callee:=.builtin .append,args:=#[s,x],argTypes:=#[25,25] }) (base:Nat) (v:Value) (ys:List Nat) (hs:a.eval s=v) (hown:w.ownsRow base 5 1 v ys.length (cellsB ys)) (hbase:base≤w.heap.size)
  (u:Value) (hx:a.eval x=u) (xs:List Nat) (hu:Rd w u xs) (hz:ys.length+xs.length≤70368744177664)
  (h:∀ v' w',w'.ownsRow base 5 1 v' (ys++xs).length (cellsB (ys++xs))→w.grownBy w' v.ownBlock→wpList Tryz.prog ops Q rest (a.put o.dst v') w'):wpList Tryz.prog ops Q (o::rest) a w:=by
 obtain ⟨i0,hi0,hiz,his,hib⟩:=info_parts byte_info
 obtain ⟨A,c,rfl,hc,hA⟩:=hu
 have e0:cellsB ys++cellsB xs=cellsB (ys++xs):=by simp [cellsB]
 cases A with
 | some ad=>
  refine wpList_append_own w hgd s x 25 ho base 5 i0 _ 1 1 Tryz.underlying25 hi0 hiz his hib rfl (by decide) v ys.length (cellsB ys) hs hown ad xs.length c (cellsB xs) hx (by rw [cellsB_len,Nat.mul_one]) ?_ (cellsB_one _) (by unfold maxLen;omega) (by omega) hbase ?_
  ·intro j t hj
   have hjl:j < xs.length:=by have:=(List.getElem?_eq_some_iff.1 hj).1;rwa [cellsB_len] at this
   obtain ⟨b,o',ha,_,hxx⟩:=hA (by omega)
   obtain rfl:=Option.some.inj ha
   rw [cellsB_get hjl] at hj
   rw [Addr.add_mid,hxx j hjl,hj]
  ·intro v' w' h1 h2 _
   rw [e0,←List.length_append] at h1
   exact h v' w' h1 h2
 | none=>
  have hn:xs.length=0:=by
   rcases Nat.eq_zero_or_pos xs.length with h0 | h0
   ·exact h0
   ·obtain ⟨b,o',ha,_⟩:=hA h0
    cases ha
  have e:xs=[]:=List.eq_nil_of_length_eq_zero hn
  subst e
  refine wpList_plain hgd fun K hK=>?_
  have hrun:∀ ty,(Builtin.append_ #[25,25] ty #[v,.slice none 0 c]).run Tryz.prog w=.ok v w:=fun ty=>by
   rcases hown.2 with ⟨hv,hn0⟩ | ⟨g,cap,cur,hv,_,_,hnc,_⟩
   ·rw [hv]
    simp [Builtin.append_,run_underlying Tryz.underlying25,sizeOf,typeInfo,hi0,Builtin.lenOf,Builtin.firstCells]
   ·rw [hv]
    simp [Builtin.append_,run_underlying Tryz.underlying25,sizeOf,typeInfo,hi0,Builtin.lenOf,Builtin.firstCells,hnc,storeCells]
  unfold Oper.wp execOp
  simp only [ho,resolve,invoke,builtin,Sem.run_bind,Sem.run_pure,Result.andThen_ok,List.map_toArray,List.map_cons,List.map_nil,hs,hx]
  rw [show ([]:List Nat).length=0 from rfl,hrun]
  exact hK _ _ (h _ _ (by rw [List.append_nil];exact hown) (World.grownBy.refl w _))
theorem ownsRow_alloc {w:World} {base:Nat} {e:TypeId} {size n:Nat} {v:Value} {xs:List Value} (h:w.ownsRow base e size v n xs) (o:Obj):(w.alloc o).ownsRow base e size v n xs:=by
 refine ⟨h.1,?_⟩
 rcases h.2 with hn | ⟨g,cap,cur,rfl,hb,hgg,hr⟩
 ·exact .inl hn
 ·exact .inr ⟨g,cap,cur,rfl,hb,by rw [heap_alloc_old _ _ (Array.getElem?_eq_some_iff.1 hgg).1];exact hgg,hr⟩
theorem rd_of_lit (w:World) (l:List Nat) (t:TypeId) (_h0:0 < l.length):Rd (w.alloc (.cells (u8s l) t)) (.slice (some ⟨w.heap.size,0,none⟩) l.length l.length) l:=by
 have hB:Blk (w.alloc (.cells (u8s l) t)) w.heap.size t (u8s l):=Blk.new w _ _
 refine ⟨_,_,rfl,Nat.le_refl _,fun _=>⟨w.heap.size,0,rfl,hB.lt,fun i hi=>?_⟩⟩
 rw [Nat.zero_add,hB.cell i,u8s_get _ _ hi]
theorem rd_alloc {w:World} {v:Value} {xs:List Nat} (h:Rd w v xs) (o:Obj):Rd (w.alloc o) v xs:=h.below ((Below.refl _ _).alloc (Nat.le_refl _) _) (Nat.le_refl _)
theorem below_own {a b c:World} {base size n:Nat} {e:TypeId} {v:Value} {xs:List Value} (h:Below a.heap.size a b) (ho:b.ownsRow base e size v n xs) (hb:a.heap.size≤base) (k:b.grownBy c v.ownBlock):Below a.heap.size a c:=by
 cases hv:v.ownBlock with
 | none=>
  rw [hv] at k
  exact ⟨k.os.trans h.os,k.tape.trans h.tape,k.output.trans h.output,Nat.le_trans h.size k.size,fun i hi=>(k.block i (Nat.lt_of_lt_of_le hi h.size) (by simp)).trans (h.block i hi)⟩
 | some g=>
  rw [hv] at k
  exact below_of_only h k (Nat.le_trans hb (ho.lt g hv).1)
theorem conv_rd {w:World} {v:Value} {xs:List Nat} (h:Rd w v xs):(convert 25 9 v).run Tryz.prog w=.ok (.string (textOf xs)) w:=by
 obtain ⟨A,c,rfl,hc,hA⟩:=h
 rcases Nat.eq_zero_or_pos xs.length with h0 | h0
 ·have e:xs=[]:=List.eq_nil_of_length_eq_zero h0
  subst e
  cases A with
  | none=>exact run_convert_bytes_nil w 25 5 Tryz.underlying25 Tryz.underlying5 0 c 9 Tryz.underlying9
  | some a=>
   have hl:(loadCells a 0).run Tryz.prog w=.ok #[] w:=by simpa using run_loadCells_list (P:=Tryz.prog) w a [] (by simp)
   rw [run_convert_bytes_string w 25 9 5 _ _ c Tryz.underlying25 Tryz.underlying5 Tryz.underlying9]
   simp [Conv.bytesToString,hl,textOf]
   try rfl
 ·obtain ⟨b,o,rfl,hb,hx⟩:=hA h0
  exact run_text w 25 9 5 Tryz.underlying25 Tryz.underlying5 Tryz.underlying9 b o xs.length c xs rfl hx
theorem rd_of_own {w:World} {base n:Nat} {v:Value} {l:List Nat} (h:w.ownsRow base 5 1 v n (cellsB l)) (hn:n=l.length):Rd w v l:=by
 subst hn
 rcases h.2 with ⟨rfl,h0⟩ | ⟨g,cap,cur,rfl,_,hh,hcap,_,hcs,hxs⟩
 ·exact ⟨none,0,by rw [h0],by omega,fun h1=>by omega⟩
 ·refine ⟨_,_,rfl,hcap,fun _=>⟨g,0,rfl,(Array.getElem?_eq_some_iff.1 hh).1,fun i hi=>?_⟩⟩
  rw [Nat.zero_add,cell_of_row _ _ _ _ _ _ hh]
  have h:=congrArg (·[i]?) hxs
  simp only [List.getElem?_take,if_pos (show i < l.length * 1 by omega)] at h
  rw [show cur[i]? = cur.toList[i]? by simp,h]
  exact cellsB_get hi
structure Pad (B:Nat) (w:World) (s:Value) (ys:List Nat) (wr:World):Prop where
 own:wr.ownsRow B 5 1 s ys.length (cellsB ys)
 bel:Below B w wr
theorem below_ownB {a b c:World} {B size n:Nat} {e:TypeId} {v:Value} {xs:List Value} (hB:a.heap.size=B) (h:Below B a b) (ho:b.ownsRow B e size v n xs) (k:b.grownBy c v.ownBlock):Below B a c:=by
 subst hB
 exact below_own h ho (Nat.le_refl _) k
theorem Pad.len {B:Nat} {w:World} {s:Value} {ys:List Nat} {wr:World} (h:Pad B w s ys wr):∃ A c,s=.slice A ys.length c:=by
 rcases h.own.2 with ⟨hv,hn⟩ | ⟨g,cap,cur,hv,_⟩
 ·exact ⟨none,0,by rw [hv,hn]⟩
 ·exact ⟨_,cap,hv⟩
theorem Pad.rd {B:Nat} {w:World} {s:Value} {ys:List Nat} {wr:World} (h:Pad B w s ys wr):Rd wr s ys:=rd_of_own h.own rfl
section
open Go.Shelf
def ixb_ren:Go.Shelf.Ren:=⟨fun | 137=>75 | 217=>94 | 266=>109 | n=>n,fun | 9=>9 | 5=>5 | 3=>3 | n=>n,fun | n=>n⟩
theorem ixb_lays:Go.Proofs.Lays.n137 Tryz.prog ixb_ren:={
 mixed:=by kernel_rfl
 f137:=Tryz.func75.trans (congrArg some (by kernel_rfl))
 f217:=Tryz.func94.trans (congrArg some (by kernel_rfl))
 f266:=Tryz.func109.trans (congrArg some (by kernel_rfl))
 t3:=Tryz.underlying3
 a3:=Tryz.isAgg3
 z3:=Tryz.sizeOf3
 v3:=Tryz.zeroValue3
 t5:=Tryz.underlying5
 a5:=Tryz.isAgg5
 z5:=Tryz.sizeOf5
 v5:=Tryz.zeroValue5
 t9:=Tryz.underlying9
 a9:=Tryz.isAgg9
 z9:=Tryz.sizeOf9
 v9:=Tryz.zeroValue9 }
end
namespace Oc
def size (c:Nat):Int:=if c=98 then 1 else if c=119 then 4 else if c=113 then 8 else if c=111 then 0 else if c=116 then 0 else -1
def nsize (c:Nat):Int:=if c=98 then 1 else if c=119 then 4 else if c=113 then 8 else 0
def most (c:Nat):Int:=if c=98 then 255 else if c=119 then 4294967295 else if c=113 then 4611686018427387903 else 0
def mostOf (n:Int):Int:=if n=8 then 4611686018427387903 else if n=4 then 4294967295 else 255
def isL (c:UInt8):Bool:=decide (0≤size c.toNat)
def known (l:List UInt8):Bool:=l.all isL
theorem known_take {s:ByteArray} {k:Nat} (h:k < s.size) (h1:known (s.data.toList.take k)=true) (h2:isL s[k]=true):known (s.data.toList.take (k+1))=true:=by
 rw [List.take_succ_eq_append_getElem (by simpa using h)]
 unfold known at h1 ⊢
 rw [List.all_append,h1,Bool.true_and,List.all_cons,List.all_nil,Bool.and_true]
 exact h2
theorem known_not {s:ByteArray} {k:Nat} (h:k < s.size) (h2:isL s[k]=false):known s.data.toList=false:=by
 unfold known
 rw [List.all_eq_false]
 exact ⟨s[k],by simp [ByteArray.getElem_eq_getElem_data],by simp [h2]⟩
end Oc
abbrev letS:ByteArray:=⟨#[98,119,113,111,116]⟩
theorem let_val:∀ c:Fin 256,decide (Lib.indexByte letS.data.toList (((c.val:Nat):Int).toNat.toUInt8) < 0)=decide (Oc.size c.val < 0):=by decide +kernel
theorem ret_i {a b:Int} (h:a=b):Ending.returned (.int .i64 a)=.returned (.int .i64 b):=by rw [h]
theorem ret_b {a b:Bool} (h:a=b):Ending.returned (.bool a)=.returned (.bool b):=by rw [h]
theorem ret_ii {a b x y:Int} (h:a=b∧x=y):Ending.returned (.tuple #[.int .i64 a,.int .i64 x])=.returned (.tuple #[.int .i64 b,.int .i64 y]):=by rw [h.1,h.2]
theorem rsize_any (c:Nat) (w:World) :
  Calls Tryz.prog 33 #[.int .u8 ((c:Nat):Int)] w fun e w'=>e=.returned (.int .i64 (Oc.size c))∧w=w':=by
 have HF:=Lib.hid (show Oc.size c=if c=98 then 1 else if c=119 then 4 else if c=113 then 8 else if c=111 then 0 else if c=116 then 0 else -1 from rfl)
 rcases Nat.decEq c 98 with h1 | h1
 ·rcases Nat.decEq c 119 with h2 | h2
  ·rcases Nat.decEq c 113 with h3 | h3
   ·rcases Nat.decEq c 111 with h4 | h4
    ·rcases Nat.decEq c 116 with h5 | h5
     ·have b4:((c:Int) == 111)=false:=by simp;omega
      have b5:((c:Int) == 116)=false:=by simp;omega
      have HV:=Lib.hid (show Oc.size c=-1 by rw [HF.out,if_neg h1,if_neg h2,if_neg h3,if_neg h4,if_neg h5])
      go_enter Tryz.func33,Tryz.ntmps33
      go_wp2
      go_ret
      exact ⟨ret_i HV.out.symm,rfl⟩
     ·subst h5
      go_enter Tryz.func33,Tryz.ntmps33
      go_wp2
      go_ret
      exact ⟨rfl,rfl⟩
    ·subst h4
     go_enter Tryz.func33,Tryz.ntmps33
     go_wp2
     go_ret
     exact ⟨rfl,rfl⟩
   ·subst h3
    go_enter Tryz.func33,Tryz.ntmps33
    go_wp2
    go_ret
    exact ⟨rfl,rfl⟩
  ·subst h2
   go_enter Tryz.func33,Tryz.ntmps33
   go_wp2
   go_ret
   exact ⟨rfl,rfl⟩
 ·subst h1
  go_enter Tryz.func33,Tryz.ntmps33
  go_wp2
  go_ret
  exact ⟨rfl,rfl⟩
theorem number_any (c:Nat) (w:World) :
  Calls Tryz.prog 62 #[.int .u8 ((c:Nat):Int)] w fun e w'=>e=.returned (.tuple #[.int .i64 (Oc.nsize c),.int .i64 (Oc.most c)])∧w=w':=by
 rcases Nat.decEq c 98 with h1 | h1
 ·rcases Nat.decEq c 119 with h2 | h2
  ·rcases Nat.decEq c 113 with h3 | h3
   ·have HV:=Lib.hid (show Oc.nsize c=0∧Oc.most c=0 from ⟨by unfold Oc.nsize;rw [if_neg h1,if_neg h2,if_neg h3],by unfold Oc.most;rw [if_neg h1,if_neg h2,if_neg h3]⟩)
    go_enter Tryz.func62,Tryz.ntmps62
    go_wp2
    go_ret2
    exact ⟨ret_ii ⟨HV.out.1.symm,HV.out.2.symm⟩,rfl⟩
   ·subst h3
    go_enter Tryz.func62,Tryz.ntmps62
    go_wp2
    go_ret2
    exact ⟨rfl,rfl⟩
  ·subst h2
   go_enter Tryz.func62,Tryz.ntmps62
   go_wp2
   go_ret2
   exact ⟨rfl,rfl⟩
 ·subst h1
  go_enter Tryz.func62,Tryz.ntmps62
  go_wp2
  go_ret2
  exact ⟨rfl,rfl⟩
theorem most_any (n:Int) (w:World) :
  Calls Tryz.prog 34 #[.int .i64 n] w fun e w'=>e=.returned (.int .i64 (Oc.mostOf n))∧w=w':=by
 by_cases h1:n=8
 ·subst h1
  go_enter Tryz.func34,Tryz.ntmps34
  go_wp2
  go_ret
  exact ⟨rfl,rfl⟩
 ·by_cases h2:n=4
  ·subst h2
   go_enter Tryz.func34,Tryz.ntmps34
   go_wp2
   go_ret
   exact ⟨rfl,rfl⟩
  ·have HV:=Lib.hid (show Oc.mostOf n=255 by unfold Oc.mostOf;rw [if_neg h1,if_neg h2])
   go_enter Tryz.func34,Tryz.ntmps34
   go_wp2
   go_ret
   exact ⟨ret_i HV.out.symm,rfl⟩
theorem known_any (s:ByteArray) (w:World) (hs:s.size≤1099511627776) :
  Calls Tryz.prog 51 #[.string s] w fun e w'=>e=.returned (.bool (Oc.known s.data.toList))∧w=w':=by
 go_enter Tryz.func51,Tryz.ntmps51
 go_wp2
 go_loopw [6] (fun i wr=>∃ k:Nat,k≤s.size∧i=.int .i64 k∧Hid (Oc.known (s.data.toList.take k)=true)∧wr=w) (fun i _=>s.size - (intOf i).toNat)
 case atStart=>exact ⟨0,Nat.zero_le _,rfl,Lib.hid rfl,rfl⟩
 case round=>
  obtain ⟨k,hk,rfl,HK,rfl⟩:=hrel
  by_cases hlt:k < s.size
  ·have hv:decide (Lib.indexByte letS.data.toList (((s[k].toNat:Nat):Int).toNat.toUInt8) < 0)=decide (Oc.size s[k].toNat < 0):=let_val ⟨s[k].toNat,s[k].toNat_lt⟩
   have C1:∀ w,Calls Tryz.prog 75 #[.string letS,.int .u8 ((s[k].toNat:Nat):Int)] w _:=fun w=>Any.strings_IndexByte ixb_lays letS (s[k].toNat:Int) w
   generalize Lib.indexByte letS.data.toList (((s[k].toNat:Nat):Int).toNat.toUInt8)=x at hv C1
   by_cases hx:x < 0
   ·have H:=Lib.hid (Oc.known_not hlt (by unfold Oc.isL;rw [decide_eq_true hx] at hv;have:=of_decide_eq_true hv.symm;exact decide_eq_false (by omega)))
    clear hv
    go_wp2_with (go_at_call 75;refine (C1 _).mono ?_;rintro e w' ⟨rfl,rfl⟩)
    go_ret
    exact ⟨ret_b H.out.symm,rfl⟩
   ·have H:=Lib.hid (Oc.known_take hlt HK.out (by unfold Oc.isL;rw [decide_eq_false hx] at hv;have:=of_decide_eq_false hv.symm;exact decide_eq_true (by omega)))
    clear hv
    go_wp2_with (go_at_call 75;refine (C1 _).mono ?_;rintro e w' ⟨rfl,rfl⟩)
    go_roundw
    case rel=>exact ⟨k+1,by omega,by go_num,H,(by first | rfl | trivial)⟩
    case measure=>simp [intOf];omega
  ·have e:s.data.toList.take k=s.data.toList:=List.take_of_length_le (by simp;omega)
   have H:=Lib.hid (e▸HK.out)
   go_wp2
   go_ret
   exact ⟨ret_b H.out.symm,rfl⟩
end Go.Proofs.YtndgadjeeinedaaGreatDoor
/- Layer 2's numbers as bytes: octets.putNumber, and the document's own Num. -/
namespace Go.Proofs.YtndgadjeeinedaaGreatDoor
open Go Go.RowKit
namespace Oc
def nums (s n:Nat):List Nat:=(List.range s).map fun i=>n / 2^(8 * (s - 1 - i)) % 256
theorem nums_len (s n:Nat):(nums s n).length=s:=by simp [nums]
theorem nums_succ {s n m:Nat} (h:m < s):(nums s n).take m++[n / 2^(8 * (s - 1 - m)) % 256]=(nums s n).take (m+1):=by
 have h2:m < (nums s n).length:=by rw [nums_len];exact h
 rw [List.take_succ_eq_append_getElem h2]
 simp [nums]
end Oc
def Others (w w':World):Prop:=∀ (p:Nat) (cs:Array Value) (T:TypeId) (z:Nat×Nat),T≠5→w.heap[p]? = some (Obj.cells cs T z)→w'.heap[p]? = some (Obj.cells cs T z)
theorem Others.refl (w:World):Others w w:=fun _ _ _ _ _ h=>h
theorem Others.trans {a b c:World} (h:Others a b) (k:Others b c):Others a c:=fun p cs T z n e=>k p cs T z n (h p cs T z n e)
theorem Others.alloc {a b:World} (h:Others a b) (o:Obj):Others a (b.alloc o):=fun p cs T z n e=>by
 have h1:=h p cs T z n e
 rw [heap_alloc_old _ _ (Array.getElem?_eq_some_iff.1 h1).1]
 exact h1
theorem Others.own {a b c:World} {B size n:Nat} {v:Value} {xs:List Value} (h:Others a b) (ho:b.ownsRow B 5 size v n xs) (k:b.grownBy c v.ownBlock):Others a c:=fun p cs T z hT e=>by
 have h1:=h p cs T z hT e
 rw [k.block p (Array.getElem?_eq_some_iff.1 h1).1 ?_]
 ·exact h1
 ·intro hp
  rcases ho.2 with ⟨rfl,_⟩ | ⟨g,cap,cur,rfl,_,hh,_⟩
  ·cases hp
  ·cases hp
   rw [hh] at h1
   cases h1
   exact hT rfl
set_option maxRecDepth 100000 in
theorem putNumber_any (v0:Value) (ys0:List Nat) (B s n:Nat) (wb w:World) (hB:wb.heap.size=B) (hP0:Pad B wb v0 ys0 w) (hs:s≤8) (_hn:n≤4611686018427387903) (hz:ys0.length≤1099511627776) :
  Calls Tryz.prog 76 #[v0,.int .i64 (s:Int),.int .i64 (n:Int)] w fun e w'=>∃ v',e=.returned v'∧Pad B wb v' (ys0++Oc.nums s n) w'∧Others w w':=by
 have HPS:Hid (Pad B wb v0 (ys0++(Oc.nums s n).take 0) w):=Lib.hid (by simpa using hP0)
 have HS0:=Lib.hid hB
 clear hP0 hB
 go_enter Tryz.func76,Tryz.ntmps76
 have W0:IntKind.i64.wrap ((s:Int) - 1)=(s:Int) - 1:=IntWalk.i64_in _ (by omega)
 go_wp2
 go_loopw [0,7] (fun v i wr=>∃ m:Nat,m≤s∧i=.int .i64 ((s:Int) - 1 - (m:Int))∧Pad B wb v (ys0++(Oc.nums s n).take m) wr∧Others w wr) (fun _ i _=>(intOf i+1).toNat)
 case atStart=>exact ⟨0,by omega,by simp,HPS.out,Others.refl _⟩
 case round=>
  obtain ⟨m,hm,rfl,hP,ho⟩:=hrel
  have HPJ:=Lib.hid hP
  have HOT:=Lib.hid ho
  clear ho
  obtain ⟨A3,c3,rfl⟩:=hP.len
  clear hP
  have hyl:(ys0++(Oc.nums s n).take m).length≤1099511627776+8:=by
   rw [List.length_append,List.length_take,Oc.nums_len];omega
  have HYS:Hid (m < s→(ys0++(Oc.nums s n).take m)++[n / 2^(8 * (s - 1 - m)) % 256]=ys0++(Oc.nums s n).take (m+1)):=Lib.hid (fun h=>by rw [List.append_assoc,Oc.nums_succ h])
  have HY8:Hid (m=s→(ys0++(Oc.nums s n).take m)=ys0++Oc.nums s n):=Lib.hid (fun h=>by rw [h,List.take_of_length_le (by rw [Oc.nums_len];exact Nat.le_refl _)])
  generalize ys0++(Oc.nums s n).take m=ys at HPJ hyl HYS HY8 ⊢
  obtain ⟨m3,hm3⟩:∃ m3,m3=ys.length:=⟨_,rfl⟩
  rw [←hm3] at hyl ⊢
  have HM3:=Lib.hid hm3
  clear hm3
  by_cases hlt:m < s
  ·obtain ⟨k,hk⟩:∃ k:Nat,k=s - 1 - m:=⟨_,rfl⟩
   have hki:(s:Int) - 1 - (m:Int)=(k:Int):=by omega
   rw [←hk] at HYS
   rw [hki]
   have hk7:k≤7:=by omega
   obtain ⟨x,hx⟩:∃ x,x=n / 2^(8 * k) % 256:=⟨_,rfl⟩
   rw [←hx] at HYS
   have HX:Hid ((n:Int) / 2^(8*k) % 256=(x:Int)):=Lib.hid (by rw [hx];simp)
   clear hx
   have HK:=Lib.hid hk
   clear hk hki
   have HOA:Hid ((wr.alloc (.cells (u8s [x]) 5)).ownsRow B 5 1 (.slice A3 m3 c3) ys.length (cellsB ys)):=Lib.hid (ownsRow_alloc (by have h:=HPJ.out.own;rw [←HM3.out] at h ⊢;exact h) _)
   have HB3:=Lib.hid (HPJ.out.bel.alloc (HS0.out▸HPJ.out.bel.size) (.cells (u8s [x]) 5))
   have HRM:=Lib.hid (rd_of_lit wr [x] 5 (by simp))
   have HZ2:=Lib.hid (show ys.length+[x].length≤70368744177664 by rw [←HM3.out];simp;omega)
   go_wp2_with (rw [HX.out];refine wpList_appendB rfl (.tmp 14) (.tmp 20) rfl B _ ys rfl HOA.out (HS0.out▸HB3.out.size) _ rfl [x] HRM.out HZ2.out ?_;intro v2 w2 ho2 hg2;rw [HYS.out hlt] at ho2;have HP2:Hid (Pad B wb v2 (ys0++(Oc.nums s n).take (m+1)) w2):=Lib.hid ⟨ho2,below_ownB HS0.out HB3.out HOA.out hg2⟩;have HO2:Hid (Others w w2):=Lib.hid ((HOT.out.alloc _).own HOA.out hg2);clear ho2 hg2)
   go_roundw
   case rel=>exact ⟨m+1,by omega,by have:=HK.out;go_num,HP2.out,HO2.out⟩
   case measure=>simp [intOf]
  ·obtain rfl:m=s:=by omega
   have HPF:Hid (Pad B wb (.slice A3 m3 c3) (ys0++Oc.nums m n) wr):=Lib.hid (by have h:=HPJ.out;rw [HY8.out rfl] at h HM3;rw [←HM3.out] at h;exact h)
   clear HY8 HYS hlt
   have W1:¬(0:Int)≤(m:Int) - 1 - (m:Int):=by omega
   go_wp2
   go_ret
   exact ⟨_,rfl,HPF.out,HOT.out⟩
theorem rknown_any (s:ByteArray) (w:World) (hs:s.size≤1099511627776) :
  Calls Tryz.prog 32 #[.string s] w fun e w'=>e=.returned (.bool (Oc.known s.data.toList))∧w=w':=by
 go_enter Tryz.func32,Tryz.ntmps32
 go_wp2
 go_loopw [3] (fun i wr=>∃ k:Nat,k≤s.size∧i=.int .i64 k∧Hid (Oc.known (s.data.toList.take k)=true)∧wr=w) (fun i _=>s.size - (intOf i).toNat)
 case atStart=>exact ⟨0,Nat.zero_le _,rfl,Lib.hid rfl,rfl⟩
 case round=>
  obtain ⟨k,hk,rfl,HK,rfl⟩:=hrel
  by_cases hlt:k < s.size
  ·have C1:=rsize_any s[k].toNat
   have hv:Oc.isL s[k]=decide (0≤Oc.size s[k].toNat):=rfl
   generalize Oc.size s[k].toNat=x at hv C1
   by_cases hx:x < 0
   ·have H:=Lib.hid (Oc.known_not hlt (by rw [hv];exact decide_eq_false (by omega)))
    clear hv
    go_wp2_with (go_at_call 33;refine (C1 _).mono ?_;rintro e w' ⟨rfl,rfl⟩)
    go_ret
    exact ⟨ret_b H.out.symm,rfl⟩
   ·have H:=Lib.hid (Oc.known_take hlt HK.out (by rw [hv];exact decide_eq_true (by omega)))
    clear hv
    go_wp2_with (go_at_call 33;refine (C1 _).mono ?_;rintro e w' ⟨rfl,rfl⟩)
    go_roundw
    case rel=>exact ⟨k+1,by omega,by go_num,H,(by first | rfl | trivial)⟩
    case measure=>simp [intOf];omega
  ·have e:s.data.toList.take k=s.data.toList:=List.take_of_length_le (by simp;omega)
   have H:=Lib.hid (e▸HK.out)
   go_wp2
   go_ret
   exact ⟨ret_b H.out.symm,rfl⟩
namespace Oc
def numsFrom (s n j:Nat):List Nat:=(List.range s).map fun i=>if j≤s - 1 - i then 0 else n / 2^(8 * (s - 1 - i)) % 256
theorem numsFrom_zero (s n:Nat):numsFrom s n 0=List.replicate s 0:=by
 apply List.ext_getElem
 ·simp [numsFrom]
 ·intro i h1 h2;simp [numsFrom]
theorem numsFrom_all (s n:Nat):numsFrom s n s=nums s n:=by
 apply List.ext_getElem
 ·simp [numsFrom,nums]
 ·intro i h1 h2
  have:i < s:=by simpa [numsFrom] using h1
  simp only [numsFrom,nums,List.getElem_map,List.getElem_range]
  rw [if_neg (by omega)]
theorem numsFrom_len (s n j:Nat):(numsFrom s n j).length=s:=by simp [numsFrom]
theorem numsFrom_set (s n j:Nat) (h:j < s):(numsFrom s n j).set (s - 1 - j) (n / 2^(8 * j) % 256)=numsFrom s n (j+1):=by
 apply List.ext_getElem
 ·simp [numsFrom]
 ·intro i h1 h2
  have hi:i < s:=by simpa [numsFrom] using h2
  rw [List.getElem_set]
  simp only [numsFrom,List.getElem_map,List.getElem_range]
  by_cases he:s - 1 - j=i
  ·subst he
   rw [if_pos rfl,if_neg (by omega),show s - 1 - (s - 1 - j)=j by omega]
  ·rw [if_neg he]
   by_cases hj:j≤s - 1 - i
   ·rw [if_pos hj,if_pos (by omega)]
   ·rw [if_neg hj,if_neg (by omega)]
end Oc
set_option maxRecDepth 100000 in
theorem rnum_any (s n:Nat) (w:World) (hs:s≤8) (hn:n≤4611686018427387903) :
  Calls Tryz.prog 35 #[.int .i64 (n:Int),.int .i64 (s:Int)] w fun e w'=>∃ v,e=.returned v∧Rd w' v (Oc.nums s n)∧Below w.heap.size w w':=by
 obtain ⟨i0,hi0,hiz,his,hib⟩:=info_parts byte_info
 have hmk:∀ w':World,(Instr.makeSlice 25 (.int .i64 (s:Int)) (.int .i64 (s:Int))).run Tryz.prog w'=.ok (.slice (some ⟨w'.heap.size,0,none⟩) s s) (w'.alloc (.cells (u8s (Oc.numsFrom s n 0)) 5)):=fun w'=>by
  have h:=run_make (P:=Tryz.prog) w' 25 5 i0 _ Tryz.underlying25 hi0 hiz .i64 .i64 (s:Int) (s:Int) (by omega) (by omega) (by rw [hib];omega) (by omega)
  rw [his,Int.toNat_natCast,Nat.mul_one] at h
  rw [h,Oc.numsFrom_zero,show (Value.int .u8 0).cells=#[.int .u8 0] from rfl,madeOne]
  simp [u8s]
 clear hi0 hiz his hib
 have W0:IntKind.i64.wrap ((s:Int) - 1)=(s:Int) - 1:=IntWalk.i64_in _ (by omega)
 go_enter Tryz.func35,Tryz.ntmps35
 go_wp2
 go_loopw [0,6] (fun x i wr=>∃ j:Nat,j≤s∧x=.int .i64 ((n / 2^(8 * j):Nat):Int)∧i=.int .i64 ((s:Int) - 1 - (j:Int))∧Blk wr w.heap.size 5 (u8s (Oc.numsFrom s n j))∧Below w.heap.size w wr) (fun _ i _=>(intOf i+1).toNat)
 case atStart=>exact ⟨0,by omega,by simp,by simp,Blk.new w _ _,(Below.refl _ _).alloc (Nat.le_refl _) _⟩
 case round=>
  obtain ⟨j,hj,rfl,rfl,hB,hb⟩:=hrel
  have HB:=Lib.hid hB
  have HBel:=Lib.hid hb
  clear hB hb
  by_cases hlt:j < s
  ·obtain ⟨k,hk⟩:∃ k:Nat,k=s - 1 - j:=⟨_,rfl⟩
   have hki:(s:Int) - 1 - (j:Int)=(k:Int):=by omega
   rw [hki]
   have HK:=Lib.hid hk
   have HST:=Lib.hid (Oc.numsFrom_set s n j hlt)
   rw [←hk] at HST
   have HQ:Hid (n / 2^(8 * j) / 256=n / 2^(8 * (j+1))):=Lib.hid (by rw [Nat.div_div_eq_div_mul,show 8 * (j+1)=8 * j+8 by omega,Nat.pow_add])
   have hy:n / 2^(8 * j)≤4611686018427387903:=Nat.le_trans (Nat.div_le_self _ _) hn
   generalize n / 2^(8 * j)=y at hy HST HQ
   have hks:k < s:=by omega
   have hcell:wr.cell? ⟨w.heap.size,k,none⟩=some (.int .u8 ((((Oc.numsFrom s n j).getD k 0:Nat)):Int)):=by
    rw [HB.out.cell k,u8s_get _ _ (by rw [Oc.numsFrom_len];exact hks)]
   have hfr:=HB.out.frozen k
   have W1:IntKind.i64.wrap ((k:Int) - 1)=(k:Int) - 1:=IntWalk.i64_in _ (by omega)
   generalize (Oc.numsFrom s n j).getD k 0=old at hcell
   clear hki hk
   have i0:(k:Int) < s:=by omega
   go_wp2
   refine ⟨⟨j+1,by omega,?_,?_,?_,HBel.out.setCell (Nat.le_refl _) _⟩,?_⟩
   ·rw [←HQ.out];rfl
   ·have:=HK.out
    rw [show (k:Int) - 1=(s:Int) - 1 - ((j+1:Nat):Int) by omega]
   ·have h:=HB.out.set_ k (.int .u8 ((y % 256:Nat):Int))
    rw [u8s_set,HST.out] at h
    exact h
   ·simp [intOf]
  ·obtain rfl:j=s:=by omega
   have H:Hid (Rd wr (.slice (some ⟨w.heap.size,0,none⟩) j j) (Oc.nums j n)):=Lib.hid (by
    rw [Oc.numsFrom_all] at HB
    exact ⟨_,_,by rw [Oc.nums_len],by rw [Oc.nums_len];omega,fun _=>⟨_,_,rfl,HB.out.lt,fun i hi=>by rw [Nat.zero_add,HB.out.cell i,u8s_get _ _ hi]⟩⟩)
   have W1:¬(0:Int)≤(j:Int) - 1 - (j:Int):=by omega
   go_wp2
   go_ret
   exact ⟨_,rfl,H.out,HBel.out⟩
end Go.Proofs.YtndgadjeeinedaaGreatDoor
/- One field of layer 2: whether it has bytes (octets.fits), and which (octets.put). -/
namespace Go.Proofs.YtndgadjeeinedaaGreatDoor
open Go Go.RowKit
namespace Oc
def fits (c:Nat) (n:Int) (l:Nat):Bool:=if c=111 then decide (l=32) else if c=116 then decide (l≤65535) else decide (0≤n) && decide (n≤most c)
def enc (c:Nat) (n:Int) (bs:List Nat):List Nat:=if c=111 then bs else if c=116 then nums 2 bs.length++bs else nums (nsize c).toNat n.toNat
theorem nsize_nat (c:Nat):∃ s:Nat,nsize c=s∧s≤8:=by
 unfold nsize
 by_cases h1:c=98
 ·rw [if_pos h1];exact ⟨1,rfl,by decide⟩
 rw [if_neg h1]
 by_cases h2:c=119
 ·rw [if_pos h2];exact ⟨4,rfl,by decide⟩
 rw [if_neg h2]
 by_cases h3:c=113
 ·rw [if_pos h3];exact ⟨8,rfl,by decide⟩
 rw [if_neg h3];exact ⟨0,rfl,by decide⟩
theorem most_le (c:Nat):most c≤4611686018427387903:=by
 unfold most
 by_cases h1:c=98
 ·rw [if_pos h1];decide
 rw [if_neg h1]
 by_cases h2:c=119
 ·rw [if_pos h2];decide
 rw [if_neg h2]
 by_cases h3:c=113
 ·rw [if_pos h3];decide
 rw [if_neg h3];decide
end Oc
theorem fits_any (c:Nat) (n:Int) (A:Option Addr) (l cap:Nat) (w:World) :
  Calls Tryz.prog 52 #[.int .u8 ((c:Nat):Int),.agg #[.int .i64 n,.slice A l cap]] w fun e w'=>e=.returned (.bool (Oc.fits c n l))∧w'=w.alloc (.cells #[.int .i64 n,.slice A l cap] 72):=by
 rcases Nat.decEq c 111 with h1 | h1
 ·rcases Nat.decEq c 116 with h2 | h2
  ·have b1:((c:Int) == 111)=false:=by simp;omega
   have b2:((c:Int) == 116)=false:=by simp;omega
   have HV:Oc.fits c n l=(decide (0≤n) && decide (n≤Oc.most c)):=by unfold Oc.fits;rw [if_neg h1,if_neg h2]
   have C1:=number_any c
   generalize Oc.most c=mx at HV C1
   generalize Oc.nsize c=sx at C1
   by_cases h3:0≤n
   ·by_cases h4:n≤mx
    ·have H:=Lib.hid (show Oc.fits c n l=true by rw [HV,decide_eq_true h3,decide_eq_true h4];rfl)
     clear HV
     go_enter Tryz.func52,Tryz.ntmps52
     go_wp2_with (go_at_call 62;refine (C1 _).mono ?_;rintro e w' ⟨rfl,rfl⟩)
     go_ret
     exact ⟨ret_b H.out.symm,rfl⟩
    ·have H:=Lib.hid (show Oc.fits c n l=false by rw [HV,decide_eq_false h4,Bool.and_false])
     clear HV
     go_enter Tryz.func52,Tryz.ntmps52
     go_wp2_with (go_at_call 62;refine (C1 _).mono ?_;rintro e w' ⟨rfl,rfl⟩)
     go_ret
     exact ⟨ret_b (by rw [H.out];exact decide_eq_false (by omega)),rfl⟩
   ·have H:=Lib.hid (show Oc.fits c n l=false by rw [HV,decide_eq_false h3,Bool.false_and])
    clear HV
    go_enter Tryz.func52,Tryz.ntmps52
    go_wp2_with (go_at_call 62;refine (C1 _).mono ?_;rintro e w' ⟨rfl,rfl⟩)
    go_ret
    exact ⟨ret_b H.out.symm,rfl⟩
  ·subst h2
   by_cases h3:l≤65535
   ·have H:=Lib.hid (show Oc.fits 116 n l=true from decide_eq_true h3)
    go_enter Tryz.func52,Tryz.ntmps52
    go_wp2
    go_ret
    exact ⟨ret_b (by rw [H.out];exact decide_eq_true (by omega)),rfl⟩
   ·have H:=Lib.hid (show Oc.fits 116 n l=false from decide_eq_false h3)
    go_enter Tryz.func52,Tryz.ntmps52
    go_wp2
    go_ret
    exact ⟨ret_b (by rw [H.out];exact decide_eq_false (by omega)),rfl⟩
 ·subst h1
  by_cases h3:l=32
  ·have H:=Lib.hid (show Oc.fits 111 n l=true from decide_eq_true h3)
   subst h3
   go_enter Tryz.func52,Tryz.ntmps52
   go_wp2
   go_ret
   exact ⟨ret_b H.out.symm,rfl⟩
  ·have H:=Lib.hid (show Oc.fits 111 n l=false from decide_eq_false h3)
   have b3:((l:Int) == 32)=false:=by simp;omega
   go_enter Tryz.func52,Tryz.ntmps52
   go_wp2
   go_ret
   exact ⟨ret_b H.out.symm,rfl⟩
end Go.Proofs.YtndgadjeeinedaaGreatDoor
