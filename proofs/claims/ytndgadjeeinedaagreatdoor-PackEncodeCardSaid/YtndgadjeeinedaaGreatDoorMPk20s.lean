/- Encode: the pack of any texts. -/
import Derived.Test.YtndgadjeeinedaaGreatDoorMPk19
import Derived.Test.YtndgadjeeinedaaGreatDoorMPk18s
import Derived.Deep.AppendLies
import Derived.Lib.SlFresh
namespace Go.Proofs.YtndgadjeeinedaaGreatDoor
open Go Go.RowKit
theorem small_u8b (n:Nat) (h:n≤64):IntKind.u8.wrap (n:Int)=(n:Int):=by
 show (n:Int) % 256=n
 omega
theorem own_one (w:World) (base x:Nat) (h:base≤w.heap.size):(w.alloc (.cells (u8s [x]) 5)).ownsRow base 5 1 (.slice (some ⟨w.heap.size,0,none⟩) 1 1) 1 (cellsB [x]):=
 ⟨rfl,.inr ⟨w.heap.size,1,u8s [x],rfl,h,heap_alloc_new w _,Nat.le_refl _,by unfold maxLen;omega,rfl,rfl⟩⟩
def EncL (w0 w:World) (g mb B:Nat) (its:List Pk.It) (k:Nat):Prop:=∃ out lid last pk v,WrS w0 w g mb B out lid last pk v∧out.length=k∧Pk.encode (its.map (·.text))=Pk.encGo ((its.drop k).map (·.text)) (out.map Pk.It.item) last.item pk
def EncPost (w:World) (a:Nat→Addr) (its:List Pk.It) (e:Ending) (w':World):Prop:=
 (∀ c,Pk.encode (its.map (·.text))=.bad c→e=.returned (.tuple #[nilV,ecode a c])∧Below w.heap.size w w') ∧
 (∀ b,Pk.encode (its.map (·.text))=.ok b→∃ A c,e=.returned (.tuple #[.slice A b.length c,.nilIface])∧Rd w' (.slice A b.length c) b∧Below w.heap.size w w')
def EncNext (w0:World) (g mb B:Nat) (its:List Pk.It) (a:Nat→Addr) (k:Nat) (e:Ending) (w':World):Prop:=
 (e=.returned .nilIface∧EncL w0 w' g mb B its (k+1))∨∃ c,e=.returned (ev (a (c - 1)))∧Pk.encode (its.map (·.text))=.bad c∧Below w0.heap.size w0 w'
theorem enc_put {w0 w:World} {g mb B:Nat} {its:List Pk.It} {k:Nat} (a:Nat→Addr) (A:Option Addr) (c:Nat) (p:Pk.It) (n:Nat) (h:EncL w0 w g mb B its k) (hp:its[k]? = some p) (hv:p.val=.slice A n c) (hr:Rd w0 p.val p.text∧Sha.Byte p.text) (hz:p.text.length≤100000) (hf:its.length≤64) (ht:Tabs w0) (hS:KSents w0 a) (hm:∃ m,w0.cell? ⟨23,0,none⟩=some (.int .i64 m)) :
  Calls Tryz.prog 12 #[.pointer (some ⟨g,0,none⟩),.slice A n c] w (EncNext w0 g mb B its a k):=by
 obtain ⟨out,lid,last,pk,v,hW,hl,he⟩:=h
 have hk:k < its.length:=(List.getElem?_eq_some_iff.1 hp).1
 have hd:its.drop k=p::its.drop (k+1):=by
  rw [List.drop_eq_getElem_cons hk]
  congr 1
  exact (List.getElem?_eq_some_iff.1 hp).2
 refine (pput_any a p.text A n c hW (hv▸hr.1) hr.2 hz (by omega) ht hS hm).mono fun e w' hP=>?_
 rw [hd,List.map_cons,Pk.encGo] at he
 by_cases ha:Pk.adm (out.map Pk.It.item) p.text=0
 ·obtain ⟨v',rfl,hW'⟩:=hP.1 ha
  rw [if_pos ha] at he
  refine Or.inl ⟨rfl,_,_,_,_,v',hW',by rw [List.length_append,hl];rfl,?_⟩
  rw [he,List.map_append]
  rfl
 ·obtain ⟨rfl,hb⟩:=hP.2 ha
  rw [if_neg ha] at he
  exact Or.inr ⟨_,rfl,he,hb⟩
set_option maxRecDepth 100000 in
set_option maxHeartbeats 8000000 in
theorem encode_any (A:Option Addr) (n c:Nat) (its:List Pk.It) (a:Nat→Addr) (w:World) (h:Txts w (.slice A n c) its) (hz:∀ p∈its,p.text.length≤100000) (ht:Tabs w) (hS:KSents w a) (hm:∃ m,w.cell? ⟨23,0,none⟩=some (.int .i64 m)) :
  Calls Tryz.prog 6 #[.slice A n c] w (EncPost w a its):=by
 have hn:n=its.length:=by
  obtain ⟨A',c',hv,_⟩:=h.row
  injection hv with e1 e2 e3
  rw [e2,List.length_map]
 by_cases h64:64 < n
 ·have HE:Hid (Pk.encode (its.map (·.text))=.bad 22):=Lib.hid (by unfold Pk.encode;rw [if_pos (by rw [List.length_map];omega)])
  have g1:(64:Int) < (n:Int):=by omega
  have pF:w.cell? ⟨0,0,none⟩=some (ev (a 21)):=(hS 21 (by omega)).var
  clear h hz ht hS hm hn h64
  go_enter Tryz.func6,Tryz.ntmps6
  go_wp2
  go_quiet (fail)
  go_wp2
  have HB:Hid (Below w.heap.size w (w.drewN nq)):=Lib.hid (below_drewN (Below.refl _ w) nq)
  go_ret2
  refine ⟨fun c hc=>?_,fun b hb=>?_⟩
  ·rw [HE.out] at hc
   cases hc
   exact ⟨rfl,HB.out⟩
  ·rw [HE.out] at hb
   cases hb
 have HCE:Hid (0 < n→∃ b o,A=some ⟨b,o,none⟩∧b < w.heap.size∧∀ i (hi:i < n),∃ A1 l1 c1 p,its[i]? = some p∧p.val=.slice A1 l1 c1∧w.cell? ⟨b,o+i,none⟩=some (.slice A1 l1 c1)):=Lib.hid (fun h0=>by
  obtain ⟨A',c',hv,_,hA⟩:=h.row
  injection hv with e1 e2 e3
  obtain ⟨b,o,ha,hb,hx⟩:=hA (by rw [List.length_map];omega)
  refine ⟨b,o,by rw [e1,ha],hb,fun i hi=>?_⟩
  obtain ⟨p,hp⟩:∃ p,its[i]? = some p:=⟨its[i]'(by omega),List.getElem?_eq_getElem _⟩
  obtain ⟨⟨A1,c1,hpv,_⟩,_⟩:=h.rd p (List.mem_of_getElem? hp)
  exact ⟨A1,_,c1,p,hp,hpv,by rw [←hpv];exact hx i _ (by rw [List.getElem?_map,hp];rfl)⟩)
 have HN:=Lib.hid hn
 have HN64:Hid (n≤64):=Lib.hid (by omega)
 have HT:=Lib.hid h
 have HZ:=Lib.hid hz
 have HTB:=Lib.hid ht
 have HS:=Lib.hid hS
 have HMX:=Lib.hid hm
 have g1:¬(64:Int) < (n:Int):=by omega
 have c8:IntKind.u8.wrap (n:Int)=(n:Int):=small_u8b n HN64.out
 have hE0:Pk.encode (its.map (·.text))=Pk.encGo ((its.drop 0).map (·.text)) (([]:List Pk.It).map Pk.It.item) (⟨[],0,nilV⟩:Pk.It).item [n]:=by
  unfold Pk.encode
  rw [if_neg (by rw [List.length_map];omega),List.length_map,←hn]
  rfl
 have HE0:=Lib.hid hE0
 clear h hz ht hS hm hn h64 hE0
 obtain ⟨w2,hw2⟩:∃ w2,w2=(w.alloc (.map #[] 0)).alloc (.cells (u8s [n]) 5):=⟨_,rfl⟩
 have b2:Below w.heap.size w w2:=hw2▸((Below.refl _ _).alloc (Nat.le_refl _) _).alloc (by simp) _
 have HOW:Hid (w2.ownsRow (w.heap.size+1) 5 1 (.slice (some ⟨w.heap.size+1,0,none⟩) 1 1) 1 (cellsB [n])):=Lib.hid (by
  rw [hw2]
  have h:=own_one (w.alloc (.map #[] 0)) (w.heap.size+1) n (by rw [World.size_alloc];exact Nat.le_refl _)
  rwa [World.size_alloc] at h)
 have HMO:Hid (MapO w2 w.heap.size 0 (fun id=>(Pk.fnd [] id).map Pk.It.v)):=Lib.hid (by
  rw [hw2]
  exact (MapO.ext (f:=fun _=>none) (MapO.made w) (fun x _=>rfl)).below ((Below.refl _ _).alloc (Nat.le_refl _) _))
 have HSZ:Hid (w2.heap.size=w.heap.size+2):=Lib.hid (by rw [hw2];simp)
 have HB:=Lib.hid b2
 have mm:=wmap_made w
 have e2:=hw2.symm
 clear b2 hw2
 go_enter Tryz.func6,Tryz.ntmps6
 go_wp2_with (with_reducible (show wpList _ _ _ (Oper.mk _ (Op.build 46 _) _ _ _ _::_) _ _);refine pause ?_)
 unfold Paused
 change wpList _ _ _ _ _ ((w.alloc (.map #[] 0)).alloc (.cells (u8s [n]) 5))
 rw [e2]
 refine wpList_buildK (by rfl) 46 _ (by rfl) [(0,.map (some w.heap.size)),(2,.slice (some ⟨w.heap.size+1,0,none⟩) 1 1)] (by kernel_rfl) _ (wr_built _ _ _ _) ?_
 go_wp2_with (with_reducible (show wpList _ _ _ (Oper.mk _ (Op.store 46 _ _) _ _ _ _::_) _ _);refine pause ?_)
 unfold Paused
 change wpList _ _ _ _ _ (w2.alloc (.cells (wrC none (itemC zid nilV 0) nilV).toArray 46))
 refine wpList_store_row (by rfl) 46 (.tmp 4) (.tmp 17) (by rfl) w2.heap.size (wrC (some w.heap.size) (itemC zid nilV 0) (.slice (some ⟨w.heap.size+1,0,none⟩) 1 1)).toArray (by rfl) (by rfl) 46 (wrC none (itemC zid nilV 0) nilV).toArray (Blk.new w2 _ _) (by rw [List.size_toArray,wrC_len (itemC_len zid_id _ _)];exact wr_size) (by rw [List.size_toArray,List.size_toArray,wrC_len (itemC_len zid_id _ _),wrC_len (itemC_len zid_id _ _)]) (wrC_one rfl rfl _ _) ?_
 have b3:Below w2.heap.size w2 ((w2.alloc (.cells (wrC none (itemC zid nilV 0) nilV).toArray 46)).setRow w2.heap.size (wrC (some w.heap.size) (itemC zid nilV 0) (.slice (some ⟨w.heap.size+1,0,none⟩) 1 1)).toArray):=below_row ((Below.refl _ _).alloc (Nat.le_refl _) _) (Nat.le_refl _) _
 have hX3:Blk ((w2.alloc (.cells (wrC none (itemC zid nilV 0) nilV).toArray 46)).setRow w2.heap.size (wrC (some w.heap.size) (itemC zid nilV 0) (.slice (some ⟨w.heap.size+1,0,none⟩) 1 1)).toArray) w2.heap.size 46 (wrC (some w.heap.size) (itemC zid nilV 0) (.slice (some ⟨w.heap.size+1,0,none⟩) 1 1)).toArray:=(Blk.new w2 _ _).row _
 have ho3:((w2.alloc (.cells (wrC none (itemC zid nilV 0) nilV).toArray 46)).setRow w2.heap.size (wrC (some w.heap.size) (itemC zid nilV 0) (.slice (some ⟨w.heap.size+1,0,none⟩) 1 1)).toArray).ownsRow (w.heap.size+1) 5 1 (.slice (some ⟨w.heap.size+1,0,none⟩) 1 1) 1 (cellsB [n]):=own_farRow (ownsRow_alloc HOW.out _) (fun k hk=>by
  have e1:k=w.heap.size+1:=by simpa [Value.ownBlock] using hk.symm
  have:=HSZ.out
  omega) _
 have HI:Hid (EncL w ((w2.alloc (.cells (wrC none (itemC zid nilV 0) nilV).toArray 46)).setRow w2.heap.size (wrC (some w.heap.size) (itemC zid nilV 0) (.slice (some ⟨w.heap.size+1,0,none⟩) 1 1)).toArray) w2.heap.size w.heap.size (w.heap.size+1) its 0):=Lib.hid ⟨[],zid,⟨[],0,nilV⟩,[n],_,⟨hX3,HMO.out.below b3,fun p hp=>absurd hp (by simp),ho3,⟨⟨none,0,rfl,Nat.le_refl _,fun h=>absurd h (by simp)⟩,fun i=>by simp,Nat.zero_le _,Nat.zero_le _⟩,⟨zid_id,Or.inr rfl⟩,⟨by omega,Nat.le_refl _,by have:=HSZ.out;omega,by have:=HSZ.out;have:=b3.size;omega⟩,below_next HB.out b3,by simp⟩,rfl,HE0.out⟩
 generalize (w2.alloc (.cells (wrC none (itemC zid nilV 0) nilV).toArray 46)).setRow w2.heap.size (wrC (some w.heap.size) (itemC zid nilV 0) (.slice (some ⟨w.heap.size+1,0,none⟩) 1 1)).toArray=w3 at HI ⊢
 clear b3 e2 mm hX3 ho3 HB HSZ HMO HOW
 generalize w2.heap.size=g4 at HI ⊢
 simp only [Act.put]
 go_wp2
 go_loopw [20] (fun i wr=>∃ k:Nat,k≤n∧i=.int .i64 k∧Hid (EncL w wr g4 w.heap.size (w.heap.size+1) its k)) (fun i _=>n - (intOf i).toNat)
 case atStart=>exact ⟨0,Nat.zero_le _,rfl,HI⟩
 case round=>
  obtain ⟨k,hk,rfl,HEk⟩:=hrel
  by_cases hlt:k < n
  ·obtain ⟨b,o,rfl,hbw,hx⟩:=HCE.out (by omega)
   obtain ⟨A1,l1,c1,p,hp,hpv,pc⟩:=hx k hlt
   have i1:((k:Nat):Int) < n:=by omega
   have i2:(0:Int)≤((k:Nat):Int):=by omega
   have i3:((k:Nat):Int) < 64:=by have:=HN64.out;omega
   have hbel:Below w.heap.size w wr:=by obtain ⟨out,lid,last,pk,v,hW,_⟩:=HEk.out;exact hW.bel
   have pc':wr.cell? ⟨b,o+k,none⟩=some (.slice A1 l1 c1):=(hbel.cell (p:=⟨b,o+k,none⟩) hbw).trans pc
   have CP:=enc_put a A1 c1 p l1 HEk.out hp hpv (HT.out.rd p (List.mem_of_getElem? hp)) (HZ.out p (List.mem_of_getElem? hp)) (by have:=HN.out;have:=HN64.out;omega) HTB.out HS.out HMX.out
   clear hp hpv hx pc hbel hbw
   go_wp2_with (go_at_call 12;refine pause ?_)
   unfold Paused
   refine CP.mono ?_
   rintro e w5 hN
   rcases hN with ⟨rfl,h5⟩ | ⟨cc,rfl,hc,hb5⟩
   ·have HI5:=Lib.hid h5
    clear h5 CP pc'
    go_wp2
    go_roundw
    case rel=>exact ⟨k+1,by omega,by go_num,HI5⟩
    case measure=>simp [intOf];omega
   ·have HC:=Lib.hid hc
    have HB5:=Lib.hid hb5
    clear hc hb5 CP pc'
    go_wp2
    go_ret2
    refine ⟨fun c hc=>?_,fun b hb=>?_⟩
    ·rw [HC.out] at hc
     cases hc
     exact ⟨rfl,HB5.out⟩
    ·rw [HC.out] at hb
     cases hb
  ·obtain rfl:k=n:=by omega
   have ik:¬((k:Nat):Int) < k:=by omega
   obtain ⟨out,lid,last,pk,v,hW,hl,he⟩:=HEk.out
   obtain ⟨Ap,cp,hvp,_⟩:=rd_of_own hW.own rfl
   have p35:wr.cell? ⟨g4,35,none⟩=some (.slice Ap pk.length cp):=hvp▸hW.c33.2.2.2
   have HRP:Hid (Rd wr (.slice Ap pk.length cp) pk):=Lib.hid (hvp▸rd_of_own hW.own rfl)
   have HBW:=Lib.hid hW.bel
   rw [List.drop_of_length_le (by have:=HN.out;omega)] at he
   have he2:Pk.encode (its.map (·.text))=if 2000 < pk.length then .bad 13 else .ok pk:=he
   have pL:wr.cell? ⟨1,0,none⟩=some (ev (a 12)):=(hW.bel.cell (block_lt_of_cell (HS.out 12 (by omega)).var)).trans (HS.out 12 (by omega)).var
   clear hW hl he hvp HEk
   obtain ⟨m,hmm⟩:∃ m,pk.length=m:=⟨_,rfl⟩
   rw [hmm] at p35 he2
   by_cases h2:2000 < m
   ·have g2:(2000:Int) < (m:Int):=by omega
    rw [if_pos h2] at he2
    have HE:=Lib.hid he2
    clear he2 h2
    go_wp2
    go_quiet (fail)
    go_wp2
    have HB:Hid (Below w.heap.size w (wr.drewN nq)):=Lib.hid (below_drewN HBW.out nq)
    go_ret2
    refine ⟨fun c hc=>?_,fun b hb=>?_⟩
    ·rw [HE.out] at hc
     cases hc
     exact ⟨rfl,HB.out⟩
    ·rw [HE.out] at hb
     cases hb
   ·have g2:¬(2000:Int) < (m:Int):=by omega
    rw [if_neg h2] at he2
    have HE:=Lib.hid he2
    have HM:=Lib.hid hmm
    clear he2 h2 hmm
    go_wp2
    go_ret2
    refine ⟨fun c hc=>?_,fun b hb=>?_⟩
    ·rw [HE.out] at hc
     cases hc
    ·rw [HE.out] at hb
     cases hb
     exact ⟨Ap,cp,by rw [HM.out];rfl,HRP.out,HBW.out⟩
end Go.Proofs.YtndgadjeeinedaaGreatDoor
/- Bytes that are appended to and cut at their front; two lists of bytes of the call's own beside one another. -/
namespace Go.Proofs.YtndgadjeeinedaaGreatDoor
open Go Go.RowKit Go.Shelf
def FrO (w:World) (B:Nat) (v:Value) (xs:List Nat):Prop:=
 ∃ g k cap cur,v=.slice (some ⟨g,k,none⟩) xs.length cap∧B≤g∧w.heap[g]? = some (.cells cur 5 (0,0))∧xs.length≤cap∧cap≤maxLen∧k+cap≤cur.size∧(cur.toList.drop k).take xs.length=cellsB xs
theorem cells_at {cur:Array Value} {k n:Nat} {xs:List Nat} (h:(cur.toList.drop k).take n=cellsB xs) (hn:n=xs.length) {i:Nat} (hi:i < xs.length):cur[k+i]? = some (.int .u8 ((xs.getD i 0:Nat):Int)):=by
 have h1:=congrArg (fun l=>l[i]?) h
 simp only [List.getElem?_take,hn,if_pos hi,List.getElem?_drop] at h1
 rw [show cur[k+i]? = cur.toList[k+i]? by simp,h1]
 exact cellsB_get hi
theorem FrO.rd {w:World} {B:Nat} {v:Value} {xs:List Nat} (h:FrO w B v xs):Rd w v xs:=by
 obtain ⟨g,k,cap,cur,rfl,hB,hg,hc,hm,hs,ht⟩:=h
 refine ⟨_,cap,rfl,hc,fun h0=>⟨g,k,rfl,(Array.getElem?_eq_some_iff.1 hg).1,fun i hi=>?_⟩⟩
 rw [cell_of_row _ _ _ _ _ _ hg]
 exact cells_at ht rfl hi
theorem FrO.lt {w:World} {B:Nat} {v:Value} {xs:List Nat} (h:FrO w B v xs):∃ g,v.ownBlock=some g∧B≤g∧g < w.heap.size:=by
 obtain ⟨g,k,cap,cur,rfl,hB,hg,_⟩:=h
 exact ⟨g,rfl,hB,(Array.getElem?_eq_some_iff.1 hg).1⟩
theorem FrO.kept {w w':World} {B:Nat} {v:Value} {xs:List Nat} {row:Option Nat} (h:FrO w B v xs) (hg:w.grownBy w' row) (hr:v.ownBlock≠row):FrO w' B v xs:=by
 obtain ⟨g,k,cap,cur,rfl,hB,hh,r⟩:=h
 exact ⟨g,k,cap,cur,rfl,hB,(hg.block g (Array.getElem?_eq_some_iff.1 hh).1 hr).trans hh,r⟩
theorem FrO.cut {w:World} {B:Nat} {A:Option Addr} {n cap:Nat} {xs:List Nat} (h:FrO w B (.slice A n cap) xs) {k:Nat} (hk:k≤xs.length) :
  FrO w B (.slice (if cap=k then A else A.map (·.add k)) (n - k) (cap - k)) (xs.drop k)∧(Value.slice (if cap=k then A else A.map (·.add k)) (n - k) (cap - k)).ownBlock=(Value.slice A n cap).ownBlock:=by
 obtain ⟨g,o,cap',cur,hv,hB,hg,hc,hm,hs,ht⟩:=h
 injection hv with e1 e2 e3
 subst e1 e2 e3
 by_cases hck:cap=k
 ·rw [if_pos hck]
  have hx:xs.length=k:=by omega
  refine ⟨⟨g,o,cap - k,cur,by rw [List.length_drop],hB,hg,by rw [List.length_drop];omega,by omega,by omega,?_⟩,rfl⟩
  rw [List.drop_eq_nil_of_le (by omega:xs.length≤k)]
  rfl
 ·rw [if_neg hck]
  refine ⟨⟨g,o+k,cap - k,cur,by rw [List.length_drop,Option.map_some,Addr.add_mid],hB,hg,by rw [List.length_drop];omega,by omega,by omega,?_⟩,by rw [Option.map_some,Addr.add_mid];rfl⟩
  have h1:=congrArg (List.drop k) ht
  rw [List.drop_take,List.drop_drop] at h1
  rw [List.length_drop,h1]
  simp [cellsB,List.map_drop]
theorem sl_exact (A : Option Addr) (len cap l : Nat) (h1 : l ≤ len) (w : World) : (Instr.slice 25 (.slice A len cap) (some (.int .i64 (l : Int))) none none).run Tryz.prog w = .ok (.slice (if cap = l then A else A.map (·.add l)) (len - l) (cap - l)) w := by
  cases hq : Tryz.prog.info? 5 with
  | none => have h : (Tryz.prog.info? 5).map (·.size) = some 1 := by kernel_rfl
            simp [hq] at h
  | some i =>
    have hs : i.size = 1 := by have h : (Tryz.prog.info? 5).map (·.size) = some 1 := by kernel_rfl
                               simpa [hq] using h
    have hn : ((l : Nat) : Int) ≤ len := by omega
    cases A <;> by_cases hc : cap = l <;> simp [Instr.slice, run_underlying Tryz.underlying25, Instr.sliceBounds, run_sliceBound, sizeOf, typeInfo, hq, hs, hn, hc]
theorem fr_append1 {w:World} {B:Nat} {v:Value} {xs:List Nat} (h:FrO w B v xs) (hB:B≤w.heap.size) (hx:xs.length≤1000) (ty:TypeId) (ad:Addr) (c y:Nat) (hy:w.cell? ad=some (.int .u8 (y:Int))) :
  ∃ v' w',(Builtin.append_ #[25,25] ty #[v,.slice (some ad) 1 c]).run Tryz.prog w=.ok v' w'∧FrO w' B v' (xs++[y])∧(v'.ownBlock=v.ownBlock∨v'.ownBlock=some w.heap.size)∧w.grownBy w' v.ownBlock:=by
 obtain ⟨g,k,cap,cur,rfl,hBg,hg,hc,hm,hs,ht⟩:=h
 obtain ⟨i0,hi0,hiz,his,hib⟩:=info_parts byte_info
 have hnews:∀ j u,[Value.int .u8 (y:Int)][j]? = some u→w.cell? (ad.add j)=some u:=fun j u hj=>by
  cases j with
  | zero=>simp at hj;subst hj;rw [show ad.add 0=ad from rfl,hy]
  | succ j=>simp at hj
 have hxl:(cellsB xs).length=xs.length:=cellsB_len xs
 have hcB:cellsB (xs++[y])=cellsB xs++[.int .u8 (y:Int)]:=by simp [cellsB]
 by_cases hroom:xs.length+1≤cap
 ·have hfit:(k+xs.length)+0+[Value.int .u8 (y:Int)].length≤cur.size:=by simp;omega
  have hst:=run_storeCells_at Tryz.prog g (k+xs.length) 5 [.int .u8 (y:Int)] 0 cur w hg hfit (by simp [Value.oneCell'])
  have hf:=run_firstCells_some (P:=Tryz.prog) w i0.size 1 ad 1 c [.int .u8 (y:Int)] (by simp [his]) hnews
  refine ⟨.slice (some ⟨g,k,none⟩) (xs.length+1) cap,_,?_,⟨g,k,cap,_,by rw [List.length_append];rfl,hBg,setRow_heap w g cur ((cur.toList.take (k+xs.length)++[Value.int .u8 (y:Int)]++cur.toList.drop (k+xs.length+1)).toArray) _ _ hg,by simp;omega,hm,?_,?_⟩,.inl rfl,⟨rfl,rfl,rfl,by simp,fun j _ hj=>setRow_other w g j _ (fun e=>hj (by simp [Value.ownBlock,e]))⟩⟩
  ·simp only [Nat.add_zero,List.length_cons,List.length_nil,Nat.zero_add] at hst
   rw [his] at hf
   simp [Builtin.append_,run_underlying Tryz.underlying25,sizeOf,typeInfo,hi0,his,Builtin.lenOf,hroom,hf,Addr.add_mid,hst]
  ·simp only [List.size_toArray,List.length_append,List.length_take,List.length_drop,List.length_cons,List.length_nil,Array.length_toList]
   omega
  ·have hl:cur.toList.length=cur.size:=Array.length_toList
   have e1:(cur.toList.take (k+xs.length)).drop k=(cur.toList.drop k).take xs.length:=by rw [List.drop_take,Nat.add_sub_cancel_left]
   rw [hcB,List.append_assoc,List.drop_append_of_le_length (by rw [List.length_take];omega),e1,ht,←List.append_assoc]
   rw [show (xs++[y]).length=(cellsB xs++[Value.int .u8 (y:Int)]).length by simp [hxl]]
   exact List.take_left
 ·have holds:∀ j u,(cellsB xs)[j]? = some u→w.cell? ((⟨g,k,none⟩:Addr).add j)=some u:=fun j u hj=>by
   have hjl:j < xs.length:=by have:=(List.getElem?_eq_some_iff.1 hj).1;rwa [cellsB_len] at this
   rw [Addr.add_mid,cell_of_row _ _ _ _ _ _ hg,cells_at ht rfl hjl,←cellsB_get hjl,hj]
  have hr:=run_append_grow (P:=Tryz.prog) w 25 ty 5 i0 (.int .u8 0) Tryz.underlying25 hi0 hiz ⟨g,k,none⟩ xs.length cap (cellsB xs) (by rw [hxl,his,Nat.mul_one]) holds ad 1 c [.int .u8 (y:Int)] (by simp [his]) hnews (by omega) (by omega) (growslice_fits (by omega) (by rw [hib];omega))
  have hge:=grownCap_ge w (xs.length+1) cap 5
  have hcm:grownCap w (xs.length+1) cap 5≤maxLen:=grownCap_le_maxLen w (xs.length+1) cap 5 (by unfold maxLen;omega)
  refine ⟨_,_,hr,⟨w.heap.size,0,_,_,by rw [List.length_append];rfl,hB,heap_alloc_new w.drew _,by rw [List.length_append];exact hge,hcm,?_,?_⟩,.inr rfl,⟨rfl,rfl,rfl,by simp,fun j hj _=>Below.heap_alloc w.drew _ j hj⟩⟩
  ·simp [size_zeroCells,hxl,Value.cells]
   omega
  ·rw [hcB,List.drop_zero]
   simp only [Array.toList_append,List.append_assoc]
   rw [←List.append_assoc,show (xs++[y]).length=(cellsB xs++[Value.int .u8 (y:Int)]).length by simp [hxl]]
   exact List.take_left
def TwoR (w0:World) (vo:Value) (ys:List Nat) (vf:Value) (fs:List Nat) (wr:World):Prop:=
 (wr.ownsRow w0.heap.size 5 1 vo ys.length (cellsB ys)∧FrO wr w0.heap.size vf fs)∧vo.ownBlock≠vf.ownBlock∧Below w0.heap.size w0 wr
theorem TwoR.alloc {w0:World} {vo vf:Value} {ys fs:List Nat} {wr:World} (h:TwoR w0 vo ys vf fs wr) (o:Obj):TwoR w0 vo ys vf fs (wr.alloc o):=
 ⟨⟨ownsRow_alloc h.1.1 _,by obtain ⟨g,k,cap,cur,e,hB,hg,r⟩:=h.1.2;exact ⟨g,k,cap,cur,e,hB,(Below.heap_alloc wr o g (Array.getElem?_eq_some_iff.1 hg).1).trans hg,r⟩⟩,h.2.1,h.2.2.alloc h.2.2.size _⟩
theorem TwoR.drewN {w0:World} {vo vf:Value} {ys fs:List Nat} {wr:World} (h:TwoR w0 vo ys vf fs wr) (m:Nat):TwoR w0 vo ys vf fs (wr.drewN m):=
 ⟨⟨h.1.1,h.1.2⟩,h.2.1,below_drewN h.2.2 m⟩
theorem TwoR.out {w0:World} {vo vf:Value} {ys fs ys2:List Nat} {wr w':World} {g n cap:Nat} (h:TwoR w0 vo ys vf fs wr) (ho:w'.ownsRow w0.heap.size 5 1 (.slice (some ⟨g,0,none⟩) n cap) ys2.length (cellsB ys2)) (hg:wr.grownBy w' vo.ownBlock)
  (hb:vo.ownBlock=some g∨g=wr.heap.size):TwoR w0 (.slice (some ⟨g,0,none⟩) n cap) ys2 vf fs w':=by
 refine ⟨⟨ho,h.1.2.kept hg (Ne.symm h.2.1)⟩,?_,below_ownB rfl h.2.2 h.1.1 hg⟩
 obtain ⟨gf,e,_,hlt⟩:=h.1.2.lt
 rcases hb with hb | hb
 ·rw [show (Value.slice (some ⟨g,0,none⟩) n cap).ownBlock=some g from rfl,←hb];exact h.2.1
 ·rw [show (Value.slice (some ⟨g,0,none⟩) n cap).ownBlock=some g from rfl,e]
  intro e2
  injection e2 with e2
  omega
theorem TwoR.fresh {w0:World} {vo vf vf':Value} {ys fs fs2:List Nat} {wr w':World} (h:TwoR w0 vo ys vf fs wr) (hf:FrO w' w0.heap.size vf' fs2) (hb:vf'.ownBlock=vf.ownBlock∨vf'.ownBlock=some wr.heap.size) (hg:wr.grownBy w' vf.ownBlock) :
  TwoR w0 vo ys vf' fs2 w':=by
 refine ⟨⟨h.1.1.kept hg ?_,hf⟩,?_,?_⟩
 ·rcases h.1.1.2 with ⟨rfl,_⟩ | ⟨g,cap,cur,rfl,_⟩
  ·exact .inl rfl
  ·exact .inr h.2.1
 ·rcases hb with hb | hb
  ·rw [hb];exact h.2.1
  ·rw [hb]
   intro e
   have:=(h.1.1.lt _ e).2
   omega
 ·obtain ⟨gf,e,hB,hlt⟩:=h.1.2.lt
  exact ⟨hg.os.trans h.2.2.os,hg.tape.trans h.2.2.tape,hg.output.trans h.2.2.output,Nat.le_trans h.2.2.size hg.size,fun k hk=>(hg.block k (Nat.lt_of_lt_of_le hk h.2.2.size) (fun er=>by rw [e] at er;injection er with er;omega)).trans (h.2.2.block k hk)⟩
namespace Dl
theorem best_one {base text:List Nat} {k:Nat} {s t:Nat×Nat} (h:Best base text k s) (h':Best base text k t):s=t:=by
 obtain ⟨a,b⟩:=s
 obtain ⟨c,d⟩:=t
 rcases h with ⟨h1,h2,h3⟩ | ⟨h1,h2,h3,h4,h5⟩<;>rcases h' with ⟨g1,g2,g3⟩ | ⟨g1,g2,g3,g4,g5⟩
 ·simp only at h1 h2 g1 g2;rw [h1,h2,g1,g2]
 ·simp only at g1 g2 g3;have:=h3 d g2;omega
 ·simp only at h1 h2 h3;have:=g3 b h2;omega
 ·simp only at *
  have a1:=h4 d g2
  have a2:=g4 b h2
  have e:a=c:=by omega
  have e2:b=d:=by
   rcases Nat.lt_trichotomy b d with h | h | h
   ·have:=g5 b h;omega
   ·exact h
   ·have:=h5 d h;omega
  rw [e,e2]
theorem occ_cmn {base text:List Nat} {k i:Nat} (hk:k≤text.length) (h127:k≤127) (h0:0 < k):Occ base (text.take k) i↔k≤cmn (base.drop i) text 127:=by
 have hl:(text.take k).length=k:=by rw [List.length_take];omega
 unfold Occ
 rw [hl,cmn_ge,List.length_drop]
 constructor
 ·rintro ⟨h1,h2⟩
  exact ⟨h127,by omega,hk,h2⟩
 ·rintro ⟨h1,h2,h3,h4⟩
  exact ⟨by omega,h4⟩
theorem lg_found {base text:List Nat} {k i:Nat} (h4:4≤k) (hk:k≤text.length) (h127:k≤127) (ho:Occ base (text.take k) i) (hf:∀ j,j < i→¬Occ base (text.take k) j) (hall:∀ j,cmn (base.drop j) text 127≤k):lg base text=(k,i):=by
 have h1:=(occ_cmn hk h127 (by omega)).1 ho
 have hc:=cmn_le (base.drop i) text 127
 rw [List.length_drop] at hc
 refine best_one (lg_best base text) (.inr ⟨h4,by simp only;omega,by simp only;have:=hall i;omega,fun j _=>hall j,fun j hj=>?_⟩)
 exact Nat.lt_of_not_le fun h=>hf j hj ((occ_cmn hk h127 (by omega)).2 h)
theorem lg_none {base text:List Nat} (hall:∀ j,cmn (base.drop j) text 127≤3):lg base text=(0,0):=
 best_one (lg_best base text) (.inl ⟨rfl,rfl,fun j _=>by have:=hall j;omega⟩)
theorem frp_shift (text:List Nat):∀ (k p:Nat),text.length - p≤k→frp text p=fr (text.drop p)
 | 0,p,h=>by rw [frp_end (by omega),List.drop_eq_nil_of_le (by omega:text.length≤p)];rfl
 | k+1,p,h=>by
  by_cases hp:p < text.length
  ·rw [frp_step hp,fr_eq,frp_step (text:=text.drop p) (p:=0) (by rw [List.length_drop];omega),List.length_drop,List.drop_zero,Nat.sub_zero,frp_shift text k (p+127) (by omega)]
   by_cases h127:text.length - p≤127
   ·rw [List.drop_eq_nil_of_le (by omega:text.length≤p+127),frp_end (by rw [List.length_drop];omega)];rfl
   ·rw [frp_shift (text.drop p) k (0+127) (by rw [List.length_drop];omega),List.drop_drop]
  ·rw [frp_end (by omega),List.drop_eq_nil_of_le (by omega:text.length≤p)];rfl
theorem fr_step {xs:List Nat} (h:0 < xs.length):fr xs=min 127 xs.length::xs.take (min 127 xs.length)++fr (xs.drop (min 127 xs.length)):=by
 rw [fr_eq,frp_step h,List.drop_zero,Nat.sub_zero,frp_shift xs _ (0+127) (Nat.le_refl _),Nat.zero_add]
 by_cases h127:xs.length≤127
 ·rw [List.drop_eq_nil_of_le (by omega:xs.length≤127),List.drop_eq_nil_of_le (by omega:xs.length≤min 127 xs.length)]
 ·rw [show min 127 xs.length=127 by omega]
def MR (base target ys fs:List Nat) (p:Nat):Prop:=
 fs.length≤p∧fs=(target.drop (p - fs.length)).take fs.length∧mk base target=ys++mkS target (p - fs.length) (cps base target p)
theorem MR.start (base target:List Nat):MR base target (front base target) [] 0:=⟨Nat.le_refl _,rfl,rfl⟩
theorem MR.len {base target ys fs:List Nat} {p:Nat} (h:MR base target ys fs p):ys.length≤4+2 * target.length:=by
 obtain ⟨k,_,_,h3⟩:=mk_count base target
 rw [h.2.2,List.length_append] at h3
 omega
theorem MR.skip {base target ys fs:List Nat} {p:Nat} (h:MR base target ys fs p) (hp:p < target.length) (h0:(lg base (target.drop p)).1=0):MR base target ys (fs++[target.getD p 0]) (p+1):=by
 obtain ⟨h1,h2,h3⟩:=h
 have hl:(fs++[target.getD p 0]).length=fs.length+1:=by simp
 refine ⟨by rw [hl];omega,?_,?_⟩
 ·rw [hl,show p+1 - (fs.length+1)=p - fs.length by omega,take_snocD (by rw [List.length_drop];omega),←h2,Sha.getD_drop,show p - fs.length+fs.length=p by omega]
 ·rw [hl,show p+1 - (fs.length+1)=p - fs.length by omega,h3,cps_skip hp h0]
theorem MR.copy {base target ys fs:List Nat} {p n f:Nat} (h:MR base target ys fs p) (hp:p < target.length) (he:lg base (target.drop p)=(n,f)) (h0:0 < n):MR base target (ys++fr fs++[128+n,f / 256,f % 256]) [] (p+n):=by
 obtain ⟨h1,h2,h3⟩:=h
 refine ⟨Nat.zero_le _,rfl,?_⟩
 rw [h3,cps_copy hp (by rw [he];exact h0),he,mkS,show p - (p - fs.length)=fs.length by omega,←h2]
 simp
theorem MR.done {base target ys fs:List Nat} {p:Nat} (h:MR base target ys fs p) (hp:p=target.length):mk base target=ys++fr fs:=by
 obtain ⟨h1,h2,h3⟩:=h
 rw [h3,cps_end (by omega),mkS]
 rw [List.take_of_length_le (by rw [List.length_drop];omega)] at h2
 rw [←h2]
end Dl
theorem Dl.appendL {o:Oper} {a:Act} {w:World} {K:Act→World→Prop} {Q:Exit→Act→World→Prop} (s x:Operand)
  (ho:o.op=.call { callee:=.builtin .append,args:=#[s,x],argTypes:=#[25,25] }) (base:Nat) (v:Value) (ys:List Nat) (hs:a.eval s=v) (hown:w.ownsRow base 5 1 v ys.length (cellsB ys)) (hbase:base≤w.heap.size)
  (u:Value) (hx:a.eval x=u) (xs:List Nat) (hu:Rd w u xs) (h0:0 < xs.length) (hz:ys.length+xs.length≤70368744177664)
  (h:∀ g cap w',w'.ownsRow base 5 1 (.slice (some ⟨g,0,none⟩) (ys.length+xs.length) cap) (ys++xs).length (cellsB (ys++xs))→w.grownBy w' v.ownBlock→(v.ownBlock=some g∨g=w.heap.size)→K (a.put o.dst (.slice (some ⟨g,0,none⟩) (ys.length+xs.length) cap)) w'):o.wp Tryz.prog a w K Q:=by
 obtain ⟨i0,hi0,hiz,his,hib⟩:=info_parts byte_info
 obtain ⟨A,c,rfl,hc,hA⟩:=hu
 have e0:cellsB ys++cellsB xs=cellsB (ys++xs):=by simp [cellsB]
 obtain ⟨b,o',rfl,_,hxx⟩:=hA h0
 refine wp_append_lies w s x 25 ho base 5 i0 _ 1 1 Tryz.underlying25 hi0 hiz his hib rfl (by decide) v ys.length (cellsB ys) hs hown _ xs.length c (cellsB xs) hx (by rw [cellsB_len,Nat.mul_one]) ?_ (cellsB_one _) h0 (by unfold maxLen;omega) (by omega) hbase _ rfl ?_
 ·intro j t hj
  have hjl:j < xs.length:=by have:=(List.getElem?_eq_some_iff.1 hj).1;rwa [cellsB_len] at this
  rw [cellsB_get hjl] at hj
  rw [Addr.add_mid,hxx j hjl,hj]
 ·intro g cap w' h1 h2 h3 _
  rw [e0] at h1
  exact h g cap w' (by rw [List.length_append];exact h1) h2 h3
end Go.Proofs.YtndgadjeeinedaaGreatDoor
