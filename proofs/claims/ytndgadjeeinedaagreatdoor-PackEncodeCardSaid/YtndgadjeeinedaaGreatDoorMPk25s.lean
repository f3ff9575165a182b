/- The document's search: the last of some texts with an id. -/
import Derived.Test.YtndgadjeeinedaaGreatDoorMPk14s
import Derived.Test.YtndgadjeeinedaaGreatDoorMPk18s
import Derived.Test.YtndgadjeeinedaaGreatDoorMSum12s
import Derived.Test.YtndgadjeeinedaaGreatDoorMOct9s
import Derived.Lib.ConvBytes
namespace Go.Proofs.YtndgadjeeinedaaGreatDoor
open Go Go.RowKit
namespace Pk
noncomputable def idx (l:List It) (id:List Nat):Nat→Option Nat
 | 0=>none
 | k+1=>if id=Sha.sum ((l.map (·.text)).getD k []) then some k else idx l id k
theorem idx_fnd (l:List It) (id:List Nat):∀ k,k≤l.length→fnd (l.take k) id=(idx l id k).bind (fun i=>l[i]?)∧∀ i,idx l id k=some i→i < k
 | 0,_=>⟨rfl,fun i h=>by cases h⟩
 | k+1,hk=>by
  obtain ⟨h1,h2⟩:=idx_fnd l id k (by omega)
  have hg:(l.map (·.text)).getD k []=l[k].text:=by
   rw [List.getD_eq_getElem?_getD,List.getElem?_map,List.getElem?_eq_getElem (by omega:k < l.length)];rfl
  rw [List.take_succ_eq_append_getElem (by omega),fnd_snoc,idx,hg]
  by_cases he:id=Sha.sum l[k].text
  ·rw [if_pos he,if_pos he]
   exact ⟨by simp [List.getElem?_eq_getElem (by omega:k < l.length)],fun i h=>by injection h with h;omega⟩
  ·rw [if_neg he,if_neg he]
   exact ⟨h1,fun i h=>by have:=h2 i h;omega⟩
theorem idx_all (l:List It) (id:List Nat):fnd l id=(idx l id l.length).bind (fun i=>l[i]?)∧∀ i,idx l id l.length=some i→i < l.length:=by
 have h:=idx_fnd l id l.length (Nat.le_refl _)
 rwa [List.take_length] at h
noncomputable def at_ (o:Option Nat):Int:=match o with | none=>-1 | some i=>(i:Int)
end Pk
theorem rd_blk {w:World} {g t:Nat} {xs:List Nat} (h:Blk w g t (u8s xs)) (_h0:0 < xs.length):Rd w (.slice (some ⟨g,0,none⟩) xs.length xs.length) xs:=
 ⟨_,_,rfl,Nat.le_refl _,fun _=>⟨g,0,rfl,h.lt,fun i hi=>by rw [Nat.zero_add,h.cell];exact u8s_get xs i hi⟩⟩
theorem rid_size:(Tryz.prog.info? 41).map (·.size)=some 32:=by kernel_rfl
theorem rsum_id (t:List Nat):Id32 (Sha.sum t):=⟨Sha.join_len _,Sha.join_byte _⟩
theorem rid_any (v:Value) (bs:List Nat) (w:World) (hv:Rd w v bs) (hb:Sha.Byte bs) (hz:bs.length≤1099511627776) :
  Calls Tryz.prog 14 #[v] w fun e w'=>e=.returned (.agg (u8s (Sha.sum bs)))∧Below w.heap.size w w':=by
 obtain ⟨w1,hw1⟩:∃ w1,w1=w.alloc (.cells (u8s (List.replicate 32 0)) 41):=⟨_,rfl⟩
 have b1:Below w.heap.size w w1:=hw1▸(Below.refl _ _).alloc (Nat.le_refl _) _
 have HX:Hid (Blk w1 w.heap.size 41 (u8s (List.replicate 32 0))):=Lib.hid (hw1▸Blk.new w _ _)
 have C:=refsum_any v bs w1 (hv.below b1 (Nat.le_refl _)) hb hz
 have HB:=Lib.hid b1
 have HS:=Lib.hid (rsum_id bs)
 have e1:=hw1.symm
 clear hv hw1 b1
 go_enter Tryz.func14,Tryz.ntmps14
 go_wp2_with (go_at_call 30;refine pause ?_)
 unfold Paused
 try change Calls _ _ _ (w.alloc (.cells (u8s (List.replicate 32 0)) 41)) _
 try rw [e1]
 refine C.mono ?_
 rintro e w3 ⟨rfl,hb3⟩
 have HX3:=Lib.hid (HX.out.below hb3 HX.out.lt)
 have HB3:=Lib.hid (below_next HB.out hb3)
 clear hb3 C
 generalize hsu:Sha.sum bs=su at HS ⊢
 have HSU:=Lib.hid hsu
 clear hsu
 go_wp2_with (with_reducible (show wpList _ _ _ (Oper.mk _ (Op.store 41 _ _) _ _ _ _::_) _ _);refine pause ?_)
 unfold Paused
 refine wpList_store_row (by rfl) 41 (.tmp 2) (.tmp 4) (by rfl) w.heap.size (u8s su) (by rfl) (by rfl) 41 _ HX3.out (by rw [u8s_size,HS.out.1];exact rid_size) (by rw [u8s_size,u8s_size,HS.out.1];rfl) (u8s_one _) ?_
 have HX4:=Lib.hid (HX3.out.row (u8s su))
 have HB4:=Lib.hid (below_of_only HB3.out (only_setRow (World.grownBy.refl w3 _) (Or.inl rfl) (u8s su):w3.grownBy _ (some w.heap.size)) (Nat.le_refl _))
 generalize w3.setRow w.heap.size (u8s su)=w4 at HX4 HB4 ⊢
 simp only [Act.put]
 go_wp2
 exact bodyPost_ret (v:=.agg (u8s su)) (results_cell_row rfl _ _ w.heap.size 41 _ (0,0) _ rfl HX4.out Tryz.underlying41 rfl (by rw [u8s_size,HS.out.1];exact rid_size)) rfl ⟨by rw [HSU.out],HB4.out⟩
def RFindPost (its:List Pk.It) (id:List Nat) (w:World) (e:Ending) (w':World):Prop:=e=.returned (.int .i64 (Pk.at_ (Pk.idx its id its.length)))∧Below w.heap.size w w'
set_option maxRecDepth 100000 in
set_option maxHeartbeats 2000000 in
theorem pfind_any (A:Option Addr) (n c:Nat) (its:List Pk.It) (id:List Nat) (T:ByteArray) (w:World) (hT:T=textOf id) (hid:Sha.Byte id) (h:Txts w (.slice A n c) its) (hn:its.length≤1000) (hl:∀ p∈its,p.text.length≤100000) :
  Calls Tryz.prog 15 #[.slice A n c,.string T] w (RFindPost its id w):=by
 have hnl:n=its.length:=by
  obtain ⟨A',c',hv,_⟩:=h.row
  injection hv with e1 e2 e3
  rw [e2,List.length_map]
 have HNL:=Lib.hid hnl
 have HRD:=Lib.hid h
 have HR:Hid (0 < n→∃ b o,A=some ⟨b,o,none⟩∧b < w.heap.size∧∀ i u,(its.map (·.val))[i]? = some u→w.cell? ⟨b,o+i,none⟩=some u):=Lib.hid (by
  obtain ⟨A',c',hv,_,hx⟩:=h.row
  injection hv with e1 e2 e3
  subst e1
  rw [←e2] at hx
  exact hx)
 have HL:=Lib.hid hl
 have HN1:Hid (n≤1000):=Lib.hid (by omega)
 have HTI:=Lib.hid hT
 have HID:=Lib.hid hid
 have HPF:Hid (∀ e w',e=.returned (.int .i64 (Pk.at_ (Pk.idx its id n)))∧Below w.heap.size w w'→RFindPost its id w e w'):=Lib.hid (fun e w' hq=>by unfold RFindPost;rw [←hnl];exact hq)
 clear h hn hl hT hid hnl
 go_enter Tryz.func15,Tryz.ntmps15
 go_wp2
 go_loopw [5,11] (fun o j wr=>∃ k:Nat,k≤n∧j=.int .i64 k∧o=.int .i64 (Pk.at_ (Pk.idx its id k))∧Hid (Below w.heap.size w wr)) (fun _ j _=>n - (intOf j).toNat)
 case atStart=>exact ⟨0,Nat.zero_le _,rfl,rfl,Lib.hid (Below.refl _ _)⟩
 case round=>
  obtain ⟨k,hk,rfl,rfl,HB⟩:=hrel
  by_cases hlt:k < n
  ·have hki:k < its.length:=by rw [←HNL.out];exact hlt
   obtain ⟨b,o,rfl,hbl,hcell⟩:=HR.out (by omega)
   obtain ⟨p,hp⟩:∃ p,its[k]? = some p:=⟨its[k],List.getElem?_eq_getElem hki⟩
   have hpm:=List.mem_of_getElem? hp
   obtain ⟨hrd,hby⟩:=HRD.out.rd p hpm
   obtain ⟨A1,c1,hval⟩:∃ A1 c1,p.val=.slice A1 p.text.length c1:=by obtain ⟨A1,c1,h,_⟩:=hrd;exact ⟨A1,c1,h⟩
   have pc:wr.cell? ⟨b,o+k,none⟩=some (.slice A1 p.text.length c1):=by
    rw [←hval]
    exact (HB.out.cell (p:=⟨b,o+k,none⟩) hbl).trans (hcell k _ (by rw [List.getElem?_map,hp];rfl))
   have CID:=rid_any (.slice A1 p.text.length c1) p.text wr (by rw [←hval];exact hrd.below HB.out (Nat.le_refl _)) hby (by have:=HL.out p hpm;omega)
   have HSI:=Lib.hid (rsum_id p.text)
   have HIX:Hid (Pk.idx its id (k+1)=if id=Sha.sum p.text then some k else Pk.idx its id k):=Lib.hid (by
    rw [Pk.idx,List.getD_eq_getElem?_getD,List.getElem?_map,hp];rfl)
   obtain ⟨su,hsu⟩:∃ su,su=Sha.sum p.text:=⟨_,rfl⟩
   rw [←hsu] at CID HSI HIX
   obtain ⟨n1,hn1⟩:∃ n,n=p.text.length:=⟨_,rfl⟩
   rw [←hn1] at pc CID
   have i1:((k:Nat):Int) < n:=by omega
   have i2:(0:Int)≤((k:Nat):Int):=by omega
   have i3:((k:Nat):Int) < 1000:=by have:=HN1.out;omega
   generalize hat:Pk.at_ (Pk.idx its id k)=av
   have HAT:=Lib.hid hat
   have HLT:=Lib.hid hlt
   clear hrd hby hval hpm hcell hsu hn1 hp hki hk hat hlt
   go_wp2_with (go_at_call 14;refine pause ?_)
   unfold Paused
   refine CID.mono ?_
   rintro e w5 ⟨rfl,hb5⟩
   have HB5:=Lib.hid (below_then HB.out hb5)
   clear hb5 CID pc
   go_wp2_with (with_reducible (show wpList _ _ _ (Oper.mk _ (Op.store 41 _ _) _ _ _ _::_) _ _);refine pause ?_)
   unfold Paused
   change wpList _ _ _ _ _ (w5.alloc (.cells (u8s (List.replicate 32 0)) 41))
   refine wpList_store_row (by rfl) 41 (.tmp 8) (.tmp 17) (by rfl) w5.heap.size (u8s su) (by rfl) (by rfl) 41 (u8s (List.replicate 32 0)) (Blk.new w5 _ _) (by rw [u8s_size,HSI.out.1];exact rid_size) (by rw [u8s_size,u8s_size,HSI.out.1];rfl) (u8s_one _) ?_
   have b6:Below w5.heap.size w5 ((w5.alloc (.cells (u8s (List.replicate 32 0)) 41)).setRow w5.heap.size (u8s su)):=below_row ((Below.refl _ _).alloc (Nat.le_refl _) _) (Nat.le_refl _) _
   have HB6:=Lib.hid (below_then HB5.out b6)
   have hblk:Blk ((w5.alloc (.cells (u8s (List.replicate 32 0)) 41)).setRow w5.heap.size (u8s su)) w5.heap.size 41 (u8s su):=(Blk.new w5 _ _).row _
   have hr6:=rd_blk hblk (by rw [HSI.out.1];decide)
   rw [HSI.out.1] at hr6
   have cv:=conv_rd hr6
   clear b6 hblk hr6
   generalize (w5.alloc (.cells (u8s (List.replicate 32 0)) 41)).setRow w5.heap.size (u8s su)=w6 at HB6 cv ⊢
   generalize w5.heap.size=g6 at cv ⊢
   simp only [Act.put]
   by_cases he:id=su
   ·have HN7:Hid (Pk.at_ (Pk.idx its id (k+1))=(k:Int)):=Lib.hid (by rw [HIX.out,if_pos he];rfl)
    rw [←he,←HTI.out] at cv
    clear he
    go_wp2
    go_roundw
    case rel=>exact ⟨k+1,by have:=HLT.out;omega,by go_num,by rw [HN7.out],HB6⟩
    case measure=>have:=HLT.out;simp [intOf];omega
   ·have HN7:Hid (Pk.at_ (Pk.idx its id (k+1))=av):=Lib.hid (by rw [HIX.out,if_neg he];exact HAT.out)
    have hne:¬(textOf su).toList=T.toList:=by rw [HTI.out];exact textOf_neD HSI.out.2 HID.out (fun e=>he e.symm)
    generalize textOf su=T1 at cv hne
    have hne2:(T1.toList == T.toList)=false:=by simpa using hne
    clear he
    go_wp2
    go_roundw
    case rel=>exact ⟨k+1,by have:=HLT.out;omega,by go_num,by rw [HN7.out],HB6⟩
    case measure=>have:=HLT.out;simp [intOf];omega
  ·obtain rfl:k=n:=by omega
   have ik:¬((k:Nat):Int) < k:=by omega
   have HE:=Lib.hid (HPF.out _ _ ⟨rfl,HB.out⟩)
   generalize Pk.at_ (Pk.idx its id k)=av at HE ⊢
   go_wp2
   go_ret
   exact HE.out
end Go.Proofs.YtndgadjeeinedaaGreatDoor
/- The functions that Read and Rest hand to Take. -/
namespace Go.Proofs.YtndgadjeeinedaaGreatDoor
open Go Go.RowKit
section
variable (s:ByteArray) (xs:List Nat) (a:Nat→Addr) (sh:Nat) (w0 w:World)
end
end Go.Proofs.YtndgadjeeinedaaGreatDoor
/- The function that Rest hands to Take. -/
namespace Go.Proofs.YtndgadjeeinedaaGreatDoor
open Go Go.RowKit
section
variable (s:ByteArray) (xs:List Nat) (a:Nat→Addr) (sh q:Nat) (w0 w:World)
end
end Go.Proofs.YtndgadjeeinedaaGreatDoor
/- octets.Read and octets.Rest. -/
namespace Go.Proofs.YtndgadjeeinedaaGreatDoor
open Go Go.RowKit
section
variable (s:ByteArray) (xs:List Nat) (a:Nat→Addr) (A:Option Addr) (n c:Nat) (w:World)
end
end Go.Proofs.YtndgadjeeinedaaGreatDoor
/- The chapter's example (alive). -/
namespace Go.Proofs.YtndgadjeeinedaaGreatDoor
open Go Go.RowKit
namespace Oc
end Oc
end Go.Proofs.YtndgadjeeinedaaGreatDoor
/- The document's Rest, its answers in the memory that it was handed. -/
namespace Go.Proofs.YtndgadjeeinedaaGreatDoor
open Go Go.RowKit
namespace Oc
end Oc
end Go.Proofs.YtndgadjeeinedaaGreatDoor
