/- The bytes of an item: fields made of bytes, written. -/
import Derived.Test.YtndgadjeeinedaaGreatDoorMPk14s
import Derived.Test.YtndgadjeeinedaaGreatDoorMOct4s
import Derived.Test.YtndgadjeeinedaaGreatDoorMDl16s
import Derived.Test.YtndgadjeeinedaaGreatDoorMBases
import Derived.Test.YtndgadjeeinedaaGreatDoorMShaMixs
import Derived.Test.YtndgadjeeinedaaGreatDoorMShaEnds
import Derived.Test.YtndgadjeeinedaaGreatDoorMByts
import Derived.Laws.OwnMore
set_option maxRecDepth 100000
namespace Go.Proofs.YtndgadjeeinedaaGreatDoor
open Go Go.RowKit
theorem pnum_any (n:Int) (w:World):Calls Tryz.prog 26 #[.int .i64 n] w fun e w'=>e=.returned (.agg #[.int .i64 n,.slice none 0 0])∧Below w.heap.size w w':=by
 have HB:Hid (Below w.heap.size w (w.alloc (.cells #[.int .i64 n,.slice none 0 0] 72))):=Lib.hid ((Below.refl _ _).alloc (Nat.le_refl _) _)
 have HK:Hid (Blk (w.alloc (.cells #[.int .i64 n,.slice none 0 0] 72)) w.heap.size 72 #[.int .i64 n,.slice none 0 0]):=Lib.hid (Blk.new w _ _)
 go_enter Tryz.func26,Tryz.ntmps26
 go_wp2
 exact bodyPost_ret (v:=.agg #[.int .i64 n,.slice none 0 0]) (results_cell_row rfl _ _ w.heap.size 72 _ (0,0) _ rfl HK.out Tryz.underlying72 rfl (by kernel_rfl)) rfl ⟨rfl,HB.out⟩
theorem pbytes_any (A:Option Addr) (n c:Nat) (xs:List Nat) (w:World) (hv:Rd w (.slice A n c) xs) (hz:xs.length≤1000000) :
  Calls Tryz.prog 27 #[.slice A n c] w fun e w'=>∃ A' c',e=.returned (.agg #[.int .i64 0,.slice A' xs.length c'])∧Rd w' (.slice A' xs.length c') xs∧Below w.heap.size w w':=by
 obtain ⟨w1,hw1⟩:∃ w1,w1=w.alloc (.cells #[.int .i64 0,.slice none 0 0] 72):=⟨_,rfl⟩
 have b1:Below w.heap.size w w1:=hw1▸(Below.refl _ _).alloc (Nat.le_refl _) _
 have HX:Hid (Blk w1 w.heap.size 72 #[.int .i64 0,.slice none 0 0]):=Lib.hid (hw1▸Blk.new w _ _)
 have CC:=clone_any (.slice A n c) xs w1 (hv.below b1 (Nat.le_refl _)) (by omega)
 have HB:=Lib.hid b1
 have e1:=hw1.symm
 clear hv b1 hw1
 go_enter Tryz.func27,Tryz.ntmps27
 go_wp2_with (go_at_call 54;refine pause ?_)
 unfold Paused
 refine CC.mono ?_
 rintro e w2 ⟨A',c',rfl,hr,_,hb⟩
 have HX2:=Lib.hid (HX.out.below hb HX.out.lt)
 have HB2:=Lib.hid (below_next HB.out hb)
 have HR:=Lib.hid hr
 clear hr hb CC
 go_wp2_with (with_reducible (show wpList _ _ _ (Oper.mk _ (Op.store 72 _ _) _ _ _ _::_) _ _);refine pause ?_)
 unfold Paused
 refine wpList_store_row (by rfl) 72 (.tmp 2) (.tmp 5) (by rfl) w.heap.size #[.int .i64 0,.slice A' xs.length c'] (by rfl) (by rfl) 72 #[.int .i64 0,.slice none 0 0] HX2.out (by kernel_rfl) (by rfl) (by simp [Value.oneCell']) ?_
 have HX3:=Lib.hid (HX2.out.row #[.int .i64 0,.slice A' xs.length c'])
 have HB3:=Lib.hid (below_row HB2.out (Nat.le_refl _) #[.int .i64 0,.slice A' xs.length c'])
 have hg:w2.grownBy (w2.setRow w.heap.size #[.int .i64 0,.slice A' xs.length c']) (some w.heap.size):=only_setRow (World.grownBy.refl w2 _) (Or.inl rfl) _
 have HR3:=Lib.hid (rd_kpt HR.out (Kpt.of_grown (S:=fun x=>x=w.heap.size) hg rfl) (fun x hx=>by subst hx;exact noU_blk HX2.out (by intro v hv n e;subst e;simp at hv)))
 clear hg
 generalize w2.setRow w.heap.size #[.int .i64 0,.slice A' xs.length c']=w3 at HX3 HB3 HR3 ⊢
 simp only [Act.put]
 go_wp2
 exact bodyPost_ret (v:=.agg #[.int .i64 0,.slice A' xs.length c']) (results_cell_row rfl _ _ w.heap.size 72 _ (0,0) _ rfl HX3.out Tryz.underlying72 rfl (by kernel_rfl)) rfl ⟨A',c',rfl,HR3.out,HB3.out⟩
theorem nums_two (n:Nat) (h:n < 65536):Oc.nums 2 n=[n / 256,n % 256]:=by
 show [n / 2 ^ (8 * (2 - 1 - 0)) % 256,n / 2 ^ (8 * (2 - 1 - 1)) % 256]=_
 have e1:n / 256 % 256=n / 256:=by omega
 simp
 omega
theorem encs_bt (A:Option Addr) (c:Nat) (t:List Nat) (h:t.length < 65536):Oc.encs [98,116] [⟨0,none,0,0,[]⟩,⟨0,A,t.length,c,t⟩]=0::([t.length / 256,t.length % 256]++t):=by
 have e:Oc.encs [98,116] [⟨0,none,0,0,[]⟩,⟨0,A,t.length,c,t⟩]=Oc.enc 98 0 []++(Oc.enc 116 0 t++[]):=rfl
 have e1:Oc.enc 98 0 []=[0]:=by kernel_rfl
 have e2:Oc.enc 116 0 t=Oc.nums 2 t.length++t:=by unfold Oc.enc;rw [if_neg (by decide),if_pos rfl]
 rw [e,e1,e2,nums_two _ h]
 simp
theorem encs_bot (A A2:Option Addr) (c c2:Nat) (s d:List Nat) (h:d.length < 65536):Oc.encs [98,111,116] [⟨1,none,0,0,[]⟩,⟨0,A,s.length,c,s⟩,⟨0,A2,d.length,c2,d⟩]=(1::s)++([d.length / 256,d.length % 256]++d):=by
 have e:Oc.encs [98,111,116] [⟨1,none,0,0,[]⟩,⟨0,A,s.length,c,s⟩,⟨0,A2,d.length,c2,d⟩]=Oc.enc 98 1 []++(Oc.enc 111 0 s++(Oc.enc 116 0 d++[])):=rfl
 have e1:Oc.enc 98 1 []=[1]:=by kernel_rfl
 have e3:Oc.enc 111 0 s=s:=by unfold Oc.enc;rw [if_pos rfl]
 have e2:Oc.enc 116 0 d=Oc.nums 2 d.length++d:=by unfold Oc.enc;rw [if_neg (by decide),if_pos rfl]
 rw [e,e1,e2,e3,nums_two _ h]
 simp
theorem write_bt (B:Option Addr) (b cap:Nat) (A:Option Addr) (c:Nat) (t:List Nat) (a:Nat→Addr) (w:World) (hb:Blk w b 72 #[.int .i64 0,.slice none 0 0,.int .i64 0,.slice A t.length c]) (hB:B=some ⟨b,0,none⟩) (hr:Rd w (.slice A t.length c) t) (ht:t.length≤1000) (hS:KSents w a) :
  Calls Tryz.prog 25 #[.string { data:=#[98,116] },.slice B 2 cap] w fun e w'=>∃ v,e=.returned (.tuple #[v,.nilIface])∧Pad w.heap.size w v (0::([t.length / 256,t.length % 256]++t)) w':=by
 have hF:FRow w b 0 [⟨0,none,0,0,[]⟩,⟨0,A,t.length,c,t⟩]:=by
  refine ⟨fun i hi=>?_,fun i hi=>?_,fun f hf=>?_,hb.lt⟩
  ·rcases i with _ | _ | i
   ·exact hb.cell 0
   ·exact hb.cell 2
   ·simp at hi;omega
  ·rcases i with _ | _ | i
   ·exact hb.cell 1
   ·exact hb.cell 3
   ·simp at hi;omega
  ·rcases List.mem_cons.1 hf with rfl | hf
   ·exact ⟨⟨none,0,rfl,Nat.le_refl _,fun h=>absurd h (by simp)⟩,rfl⟩
   ·rw [List.mem_singleton.1 hf]
    exact ⟨hr,rfl⟩
 refine (write_any { data:=#[98,116] } B b 0 cap [⟨0,none,0,0,[]⟩,⟨0,A,t.length,c,t⟩] (a 6) (a 0) w (by decide) (fun _=>hB) hF (by simp) (fun f hf=>?_) (hS 6 (by omega)).var (hS 0 (by omega)).var).mono fun e w' h=>?_
 ·rcases List.mem_cons.1 hf with rfl | hf
  ·exact Nat.zero_le _
  ·rw [List.mem_singleton.1 hf]
   exact ht
 ·obtain ⟨v,he,hp⟩:=h.2.2.2 (by decide +kernel) rfl (fun i h1 h2 _=>by
   rcases i with _ | _ | i
   ·show Oc.fits 98 0 0=true
    decide +kernel
   ·show Oc.fits 116 0 t.length=true
    unfold Oc.fits
    rw [if_neg (by decide),if_pos rfl]
    simp
    omega
   ·simp at h2;omega)
  rw [show ({ data:=#[98,116] }:ByteArray).data.toList=[98,116] from rfl,encs_bt A c t (by omega)] at hp
  exact ⟨v,he,hp⟩
theorem write_bot (B:Option Addr) (b cap:Nat) (A A2:Option Addr) (c c2:Nat) (s d:List Nat) (a:Nat→Addr) (w:World) (hb:Blk w b 72 #[.int .i64 1,.slice none 0 0,.int .i64 0,.slice A s.length c,.int .i64 0,.slice A2 d.length c2]) (hB:B=some ⟨b,0,none⟩) (hs:Rd w (.slice A s.length c) s) (hsl:s.length=32) (hd:Rd w (.slice A2 d.length c2) d) (hdl:d.length≤1000) (hS:KSents w a) :
  Calls Tryz.prog 25 #[.string { data:=#[98,111,116] },.slice B 3 cap] w fun e w'=>∃ v,e=.returned (.tuple #[v,.nilIface])∧Pad w.heap.size w v ((1::s)++([d.length / 256,d.length % 256]++d)) w':=by
 have hF:FRow w b 0 [⟨1,none,0,0,[]⟩,⟨0,A,s.length,c,s⟩,⟨0,A2,d.length,c2,d⟩]:=by
  refine ⟨fun i hi=>?_,fun i hi=>?_,fun f hf=>?_,hb.lt⟩
  ·rcases i with _ | _ | _ | i
   ·exact hb.cell 0
   ·exact hb.cell 2
   ·exact hb.cell 4
   ·simp at hi;omega
  ·rcases i with _ | _ | _ | i
   ·exact hb.cell 1
   ·exact hb.cell 3
   ·exact hb.cell 5
   ·simp at hi;omega
  ·rcases List.mem_cons.1 hf with rfl | hf
   ·exact ⟨⟨none,0,rfl,Nat.le_refl _,fun h=>absurd h (by simp)⟩,rfl⟩
   ·rcases List.mem_cons.1 hf with rfl | hf
    ·exact ⟨hs,rfl⟩
    ·rw [List.mem_singleton.1 hf]
     exact ⟨hd,rfl⟩
 refine (write_any { data:=#[98,111,116] } B b 0 cap [⟨1,none,0,0,[]⟩,⟨0,A,s.length,c,s⟩,⟨0,A2,d.length,c2,d⟩] (a 6) (a 0) w (by decide) (fun _=>hB) hF (by simp) (fun f hf=>?_) (hS 6 (by omega)).var (hS 0 (by omega)).var).mono fun e w' h=>?_
 ·rcases List.mem_cons.1 hf with rfl | hf
  ·exact Nat.zero_le _
  ·rcases List.mem_cons.1 hf with rfl | hf
   ·show s.length≤1000
    omega
   ·rw [List.mem_singleton.1 hf]
    exact hdl
 ·obtain ⟨v,he,hp⟩:=h.2.2.2 (by decide +kernel) rfl (fun i h1 h2 _=>by
   rcases i with _ | _ | _ | i
   ·show Oc.fits 98 1 0=true
    decide +kernel
   ·show Oc.fits 111 0 s.length=true
    unfold Oc.fits
    rw [if_pos rfl,hsl]
    rfl
   ·show Oc.fits 116 0 d.length=true
    unfold Oc.fits
    rw [if_neg (by decide),if_pos rfl]
    simp
    omega
   ·simp at h2;omega)
  rw [show ({ data:=#[98,111,116] }:ByteArray).data.toList=[98,111,116] from rfl,encs_bot A A2 c c2 s d (by omega)] at hp
  exact ⟨v,he,hp⟩
end Go.Proofs.YtndgadjeeinedaaGreatDoor
/- The document's own words of layer 7: numbers of two bytes. -/
namespace Go.Proofs.YtndgadjeeinedaaGreatDoor
open Go Go.RowKit Go.Shelf
theorem own_formD {w:World} {base n:Nat} {s:Value} {l:List Value} (h:w.ownsRow base 5 1 s n l):∃ A c,s=.slice A n c:=by
 rcases h.2 with ⟨hv,hn⟩ | ⟨g,cap,cur,hv,_⟩
 ·exact ⟨none,0,by rw [hv,hn]⟩
 ·exact ⟨_,cap,hv⟩
theorem tl_loopD (bs:ByteArray):∀ (n i:Nat) (r:List UInt8),bs.size - i=n→ByteArray.toList.loop bs i r=r.reverse++bs.data.toList.drop i:=by
 intro n
 induction n with
 | zero=>
  intro i r h
  rw [ByteArray.toList.loop]
  have h1:¬i < bs.size:=by omega
  rw [if_neg h1,List.drop_eq_nil_of_le (by have:bs.data.toList.length=bs.size:=rfl;omega)];simp
 | succ n ih=>
  intro i r h
  rw [ByteArray.toList.loop]
  have h1:i < bs.size:=by omega
  rw [if_pos h1,ih (i+1) _ (by omega)]
  have h2:i < bs.data.toList.length:=h1
  rw [List.drop_eq_getElem_cons h2,List.reverse_cons,List.append_assoc]
  congr 1
  simp [ByteArray.get!,h1]
theorem bytes_listD (bs:ByteArray):bs.toList=bs.data.toList:=by
 unfold ByteArray.toList
 rw [tl_loopD bs _ 0 [] rfl];simp
theorem textOf_neD {x y:List Nat} (hx:Sha.Byte x) (hy:Sha.Byte y) (h:x≠y):¬(textOf x).toList=(textOf y).toList:=fun e=>h (by
 rw [bytes_listD,bytes_listD] at e
 have e2:x.map UInt8.ofNat=y.map UInt8.ofNat:=by simpa [textOf] using e
 exact Dl.map_ofNat_inj (Dl.mem_byte hx) (Dl.mem_byte hy) e2)
def Dl.Occ (base s:List Nat) (i:Nat):Prop:=i+s.length≤base.length∧(base.drop i).take s.length=s
def FindPost (base s:List Nat) (w:World) (e:Ending) (w':World):Prop:=
 (∃ m,w'=w.drewN m)∧((∃ i:Nat,e=.returned (.int .i64 (i:Int))∧i < 1000∧Dl.Occ base s i∧∀ j,j < i→¬Dl.Occ base s j)∨(e=.returned (.int .i64 (-1))∧∀ j,¬Dl.Occ base s j))
set_option maxHeartbeats 1000000 in
theorem rfind_any (A A2:Option Addr) (nb cb k c2:Nat) (base s:List Nat) (w:World) (hB:Rd w (.slice A nb cb) base) (hS:Rd w (.slice A2 k c2) s) (bb:Sha.Byte base) (bs:Sha.Byte s) (h0:0 < k) (hl:nb≤400) (hk:k≤127) :
  Calls Tryz.prog 31 #[.slice A nb cb,.slice A2 k c2] w (FindPost base s w):=by
 have en:nb=base.length:=by obtain ⟨_,_,hv,_⟩:=hB;injection hv
 have es:k=s.length:=by obtain ⟨_,_,hv,_⟩:=hS;injection hv
 have HB:=Lib.hid hB
 have HS:=Lib.hid hS
 have HBB:=Lib.hid bb
 have HBS:=Lib.hid bs
 have HEN:=Lib.hid en
 have HES:=Lib.hid es
 clear hB hS bb bs en es
 go_enter Tryz.func31,Tryz.ntmps31
 go_wp2
 go_loopw [5] (fun v wr=>∃ i m:Nat,i≤nb∧v=.int .i64 i∧wr=w.drewN m∧Hid (∀ j,j < i→¬Dl.Occ base s j)) (fun v _=>nb+1 - (intOf v).toNat)
 case atStart=>exact ⟨0,0,Nat.zero_le _,rfl,rfl,Lib.hid fun j h=>absurd h (Nat.not_lt_zero _)⟩
 case round=>
  obtain ⟨i,m,hi,rfl,rfl,HJ⟩:=hrel
  by_cases hin:i+k≤nb
  ·have g1:(i:Int)+(k:Int)≤(nb:Int):=by omega
   obtain ⟨e0,hc,b,o,rfl,hbw,hx⟩:=HB.out.blk (by rw [←HEN.out];omega)
   clear e0 hx hbw
   have S1:∀ w',(Instr.slice 25 (.slice (some ⟨b,o,none⟩) nb cb) (some (.int .i64 (i:Int))) (some (.int .i64 ((i:Int)+(k:Int)))) none).run Tryz.prog w'=.ok (.slice (some ⟨b,o+i,none⟩) k (cb - i)) w':=fun w'=>by
    have h:=sl_lohi b o nb cb i (i+k) w' (by omega) (by omega) (by omega) (lo:=(i:Int)) (hi:=(i:Int)+(k:Int)) rfl (by omega)
    rwa [show i+k - i=k by omega] at h
   have RS:∀ q,Rd (w.drewN q) (.slice (some ⟨b,o+i,none⟩) k (cb - i)) ((base.drop i).take k):=fun q=>by
    have h:=(HB.out.below (below_drewN (Below.refl _ w) q) (Nat.le_refl _)).cut (k:=i) (by rw [←HEN.out];omega)
    rw [if_neg (by omega),Option.map_some,Addr.add_mid] at h
    exact h.cutHi (by rw [List.length_drop,←HEN.out];omega)
   have RT:∀ q,Rd (w.drewN q) (.slice A2 k c2) s:=fun q=>HS.out.below (below_drewN (Below.refl _ w) q) (Nat.le_refl _)
   have q2:∀ q,(convert 25 9 (.slice A2 k c2)).run Tryz.prog (w.drewN q)=.ok (.string (textOf s)) (w.drewN q):=fun q=>conv_rd (RT q)
   by_cases he:(base.drop i).take k=s
   ·have HO:Hid (Dl.Occ base s i):=Lib.hid ⟨by rw [←HES.out,←HEN.out];exact hin,by rw [←HES.out];exact he⟩
    have q1:∀ q,(convert 25 9 (.slice (some ⟨b,o+i,none⟩) k (cb - i))).run Tryz.prog (w.drewN q)=.ok (.string (textOf s)) (w.drewN q):=fun q=>by rw [←he];exact conv_rd (RS q)
    generalize textOf s=T at q1 q2
    clear he RS RT
    go_wp2
    go_quiet (fail)
    go_wp2
    go_ret
    exact ⟨⟨_,by simp;rfl⟩,.inl ⟨i,rfl,by omega,HO.out,HJ.out⟩⟩
   ·have HO:Hid (∀ j,j < i+1→¬Dl.Occ base s j):=Lib.hid fun j hj=>by
     rcases Nat.lt_or_eq_of_le (Nat.le_of_lt_succ hj) with h | rfl
     ·exact HJ.out j h
     ·exact fun h=>he (by have:=h.2;rw [←HES.out] at this;exact this)
    have q1:∀ q,(convert 25 9 (.slice (some ⟨b,o+i,none⟩) k (cb - i))).run Tryz.prog (w.drewN q)=.ok (.string (textOf ((base.drop i).take k))) (w.drewN q):=fun q=>conv_rd (RS q)
    have hne:¬(textOf ((base.drop i).take k)).toList=(textOf s).toList:=textOf_neD (Dl.byte_of_mem fun x hx=>Dl.mem_byte HBB.out x (List.mem_of_mem_drop (List.mem_of_mem_take hx))) HBS.out he
    generalize textOf ((base.drop i).take k)=T1 at q1 hne
    generalize textOf s=T at q2 hne
    have hne2:(T1.toList == T.toList)=false:=by simpa using hne
    clear he RS RT
    go_wp2
    go_quiet (fail)
    go_wp2
    go_roundw
    case rel=>exact ⟨i+1,m+nq,by omega,by go_num,by simp,HO⟩
    case measure=>simp [intOf];omega
  ·have g1:¬(i:Int)+(k:Int)≤(nb:Int):=by omega
   have HO:Hid (∀ j,¬Dl.Occ base s j):=Lib.hid fun j h=>by
    by_cases hj:j < i
    ·exact HJ.out j hj h
    ·have:=h.1;rw [←HES.out,←HEN.out] at this;omega
   go_wp2
   go_ret
   exact ⟨⟨_,rfl⟩,.inr ⟨rfl,HO.out⟩⟩
end Go.Proofs.YtndgadjeeinedaaGreatDoor
/- cartageref01.right is a turn to the left by what is left of 32. -/
namespace Go.Proofs.YtndgadjeeinedaaGreatDoor
open Go Go.RowKit
theorem rroot_any (x n:Nat) (w:World) (hx:x < 4294967296) (h1:1≤n) (h31:n≤31) :
  Calls Tryz.prog 58 #[.int .u32 x,.int .u64 (n:Int)] w fun e w'=>e=.returned (.int .u32 (Sha.rl x (32 - n):Nat))∧w=w':=by
 go_enter Tryz.func58,Tryz.ntmps58
 go_wp2
 go_ret
 refine ⟨?_,rfl⟩
 congr 2
 have h2:x / 2^n≤x:=Nat.div_le_self _ _
 have e:=u32_or (x / 2^n) (x * 2^(32-n) % 4294967296) (by omega) (by omega)
 unfold Sha.rl
 rw [show 32 - (32 - n)=n by omega,Nat.or_comm,←e]
 simp
theorem reftable_any (w:World) :
  Calls Tryz.prog 57 #[] w fun e w'=>e=.returned (.slice (some ⟨w.heap.size,0,none⟩) 64 64)∧Blk w' w.heap.size 121 (u32s Sha.K)∧Below w.heap.size w w':=by
 go_enter Tryz.func57,Tryz.ntmps57
 go_wp2_with fail
 go_ret
 exact ⟨rfl,Blk.new w _ _,(Below.refl _ _).alloc (Nat.le_refl _) _⟩
end Go.Proofs.YtndgadjeeinedaaGreatDoor
/- The mathematics of the document's own digest (cartageref01.Sum): the padding grown byte by byte, a word read byte by byte, the words' sum in another order. -/
namespace Go.Proofs.YtndgadjeeinedaaGreatDoor
namespace Sha
def zeros (n:Nat):Nat:=(119 - n % 64) % 64
theorem zeros_go {n j:Nat} (hj:j≤zeros n):(n+1+j) % 64=56↔j=zeros n:=by
 unfold zeros at *;omega
def padTo (bs:List Nat) (j:Nat):List Nat:=bs++[128]++List.replicate j 0
theorem padTo_len (bs:List Nat) (j:Nat):(padTo bs j).length=bs.length+1+j:=by simp [padTo];omega
theorem padTo_succ (bs:List Nat) (j:Nat):padTo bs j++[0]=padTo bs (j+1):=by
 simp [padTo,List.replicate_succ']
theorem len8_at {n t:Nat} (h:t < 8):(len8 n).getD t 0=(8 * n) / 2^(56 - 8*t) % 256:=by
 have e:8 * (7 - t)=56 - 8 * t:=by omega
 simp [len8,List.getD,h,e]
theorem len8_succ {n t:Nat} (h:t < 8):(len8 n).take t++[(8 * n) / 2^(56 - 8*t) % 256]=(len8 n).take (t+1):=by
 have h2:t < (len8 n).length:=by rw [len8_len];exact h
 rw [List.take_succ_eq_append_getElem h2,←len8_at h]
 simp [List.getD,h2]
theorem padded_eq (bs:List Nat):padded bs=padTo bs (zeros bs.length)++(len8 bs.length).take 8:=by
 rw [List.take_of_length_le (by rw [len8_len];omega)];rfl
theorem padded_len (bs:List Nat):(padded bs).length=64 * ((bs.length+72) / 64):=by
 rw [padded_eq,List.length_append,padTo_len,List.length_take,len8_len];unfold zeros;omega
theorem padded_byte {bs:List Nat} (hb:Byte bs):Byte (padded bs):=by
 refine ((hb.app ?_).app ?_).app ?_
 ·intro i;rcases i with _ | i<;>simp
 ·intro i
  by_cases h:i < (119 - bs.length % 64) % 64
  ·simp [List.getD,h]
  ·simp [List.getD,h]
 ·intro i
  by_cases h:i < 8
  ·rw [len8_at h];exact Nat.mod_lt _ (by decide)
  ·have e:(len8 bs.length)[i]? = none:=List.getElem?_eq_none (by rw [len8_len];omega)
   simp [List.getD,e]
def part (bs:List Nat) (i:Nat):Nat→Nat
 | 0=>0
 | j+1=>(part bs i j * 256+bs.getD (4*i+j) 0)
theorem part_four (bs:List Nat) (i:Nat):part bs i 4=word bs i:=by
 simp only [part,word,Nat.add_zero];omega
theorem part_lt {bs:List Nat} (hb:Byte bs) (i:Nat):∀ j,j≤4→part bs i j < 256 ^ j
 | 0,_=>by simp [part]
 | j+1,h=>by
  have h1:=part_lt hb i j (by omega)
  have h2:=hb (4*i+j)
  simp only [part,Nat.pow_succ];omega
theorem part_wrap {bs:List Nat} (hb:Byte bs) (i j:Nat) (h:j < 4):(part bs i j * 256 % 4294967296+bs.getD (4*i+j) 0) % 4294967296=part bs i (j+1):=by
 have h1:=part_lt hb i (j+1) (by omega)
 have h3:(256:Nat) ^ (j+1)≤256 ^ 4:=Nat.pow_le_pow_right (by decide) (by omega)
 have h4:(256:Nat) ^ 4=4294967296:=by decide
 simp only [part] at h1 ⊢
 omega
theorem nextW_late {bs l:List Nat} (h:16≤l.length):(((l.getD (l.length-16) 0+l.getD (l.length-7) 0) % 4294967296+low (l.getD (l.length-15) 0)) % 4294967296+high (l.getD (l.length-2) 0)) % 4294967296=nextW bs l:=by
 unfold nextW;rw [if_neg (by omega)];omega
theorem addS_get (l:List Nat) (s:S8) (i:Nat) (hi:i < 8):(addS l s).getD i 0=(l.getD i 0+[s.a,s.b,s.c,s.d,s.e,s.f,s.g,s.h].getD i 0) % 4294967296:=by
 obtain h | h | h | h | h | h | h | h:i=0∨i=1∨i=2∨i=3∨i=4∨i=5∨i=6∨i=7:=by omega
 all_goals (subst h;rfl)
end Sha
end Go.Proofs.YtndgadjeeinedaaGreatDoor
/- What the walk of the document's own digest (cartageref01.Sum) keeps while it pads the message. -/
namespace Go.Proofs.YtndgadjeeinedaaGreatDoor
open Go Go.RowKit
abbrev res32 (w:World):World:=w.alloc (.cells (u8s (List.replicate 32 0)) 41)
theorem res32_size (w:World):(res32 w).heap.size=w.heap.size+1:=by simp
def lenVp (v:Value):Nat:=match v with | .slice _ n _=>n | _=>0
def loopsOf:Code→List Code
 | .loop c=>c::loopsOf c
 | .seq a b=>loopsOf a++loopsOf b
 | .block _ c=>loopsOf c
 | .scope c=>loopsOf c
 | .cond _ a b=>loopsOf a++loopsOf b
 | _=>[]
noncomputable def sumLoop (k:Nat):Code:=((Tryz.f30.body.map loopsOf).getD []).getD k .skip
theorem cell_grown {a w:World} {g:Nat} (h:a.grownBy w (some g)) {b o:Nat} {v:Value} (hc:a.cell? ⟨b,o,none⟩=some v) (hne:b≠g):w.cell? ⟨b,o,none⟩=some v:=by
 have hb:=block_lt_of_cell hc
 have e:=h.block b hb (by intro e;cases e;exact hne rfl)
 rw [←hc]
 show (match w.heap[b]? with | some (.cells c _ _)=>if (none:Option Nat).isSome then none else c[o]? | _=>none)=(match a.heap[b]? with | some (.cells c _ _)=>if (none:Option Nat).isSome then none else c[o]? | _=>none)
 rw [e]
theorem set_mid (pre post:List Nat) (a x:Nat):(pre++a::post).set pre.length x=pre++x::post:=by
 rw [List.set_append_right _ _ (Nat.le_refl _)];simp
theorem get_mid (pre post:List Nat) (a:Nat):(pre++a::post).getD pre.length 0=a:=by
 simp [List.getD]
set_option maxHeartbeats 2000000 in
theorem sum5_any (c0 c1 c2 c4 c5 c6 c7 c12 c13 c14 c15 c16 c17 c18 c19 c20 c21 c22 c23 c24 c25 c26 c27 c28 c29 c30 c31 c32 c33 c34 c35 c36 c37 c38 c39 c40 c41 c42 c43 c44 c45 c46 c47 c48 c49 c50 c51 c52 c53 c54 c55 c56 c57 c58 c59 c60 c61 c62 c63 c64 c65 c66 c67 c68 c69 c70 c71 c72 c73 c74 c75 c76 c77 c78 c79 c80 c81 c82 c83 c84 c85 c86 c87 c88 c89 c90 c91 c92 c93 c94 c95 c96 c97 c98 c99 c100 c101 c102 c103 c104 c105 c106 c107 c108 c109 c110 c111 c112 c113 c114 c115 c116 c117 c118 c119 c120 c121 c122 c123 c124 c125 c126 c127 c128 c129 c130 c131 c132 c133 c134 c135 c136 c137 c138 c139 c140 c141 c142 c143 c144 c145 c146 c147 c148 c149 c150 c151 c152 c153 c154 c155 c156 c157 c158 c159 c160 c161 c162 c163 c164 c165 c166 c167 c168 c169 c170 c171 c172 c173 c174 c175 c176 c177 c178 c179 c180 c181 c182 c183 c184 c185 c186 c187 c188 c189 c190 c191 c192 c193 c194 c195 c196 c197 c198 c199 c200 c201 c202 c203 c204 c205 c206 c207 c208 c209 c210 c211 c212 c213 c214 c215 c216 c217 c218 c219 c220 c221 c222 c223 c224 c225 c226 c227 c228 c229 c230 c231 c232 c233 c234 c235 c236 c237 c238 c239 c240 c241 c242 c243 c244 c245 c246 c247 c248 c249 c250 c251 c252 c253 c254 c255 c256 c257 c258 c259 c260 c261 c262 c263 c264 c265 c266 c267 c268 c269 c270 c271:Value) (gb o m3 c3 gw i k:Nat) (bs pre post:List Nat) (w:World) (Q0:Exit→Act→World→Prop) (hb:Sha.Byte bs) (hm:m3≤1099511628000) (hk:64 * k+4 * i+4≤m3) (hi:i < 64) (hpl:pre.length=i)
  (hlen:(pre++0::post).length=64) (hne:gb≠gw) (hmsg:∀ j,j < 4→w.cell? ⟨gb,o+(64 * k+4 * i+j),none⟩=some (.int .u8 ((bs.getD (4 * i+j) 0:Nat):Int))) (hw:Blk w gw 121 (u32s (pre++0::post)))
  (hexit:∀ (u71 u72 u73 u74 u75 u76 u77 u78 u79 u80 u81 u82 u83 u84 u85 u86 u87 u88 u89 u90 u91 u92 u93:Value) (w':World),Blk w' gw 121 (u32s (pre++Sha.word bs i::post))→w.grownBy w' (some gw)→Q0 (.exit 8) ⟨List.toArray (c0::c1::c2::.slice (some ⟨gb,o,none⟩) m3 c3::c4::c5::c6::c7::.int .i64 (64 * (k:Int))::.slice (some ⟨gw,0,none⟩) 64 64::.int .i64 (i:Int)::.int .i64 4::c12::c13::c14::c15::c16::c17::c18::c19::c20::c21::c22::c23::c24::c25::c26::c27::c28::c29::c30::c31::c32::c33::c34::c35::c36::c37::c38::c39::c40::c41::c42::c43::c44::c45::c46::c47::c48::c49::c50::c51::c52::c53::c54::c55::c56::c57::c58::c59::c60::c61::c62::c63::c64::c65::c66::c67::c68::c69::c70::u71::u72::u73::u74::u75::u76::u77::u78::u79::u80::u81::u82::u83::u84::u85::u86::u87::u88::u89::u90::u91::u92::u93::c94::c95::c96::c97::c98::c99::c100::c101::c102::c103::c104::c105::c106::c107::c108::c109::c110::c111::c112::c113::c114::c115::c116::c117::c118::c119::c120::c121::c122::c123::c124::c125::c126::c127::c128::c129::c130::c131::c132::c133::c134::c135::c136::c137::c138::c139::c140::c141::c142::c143::c144::c145::c146::c147::c148::c149::c150::c151::c152::c153::c154::c155::c156::c157::c158::c159::c160::c161::c162::c163::c164::c165::c166::c167::c168::c169::c170::c171::c172::c173::c174::c175::c176::c177::c178::c179::c180::c181::c182::c183::c184::c185::c186::c187::c188::c189::c190::c191::c192::c193::c194::c195::c196::c197::c198::c199::c200::c201::c202::c203::c204::c205::c206::c207::c208::c209::c210::c211::c212::c213::c214::c215::c216::c217::c218::c219::c220::c221::c222::c223::c224::c225::c226::c227::c228::c229::c230::c231::c232::c233::c234::c235::c236::c237::c238::c239::c240::c241::c242::c243::c244::c245::c246::c247::c248::c249::c250::c251::c252::c253::c254::c255::c256::c257::c258::c259::c260::c261::c262::c263::c264::c265::c266::c267::c268::c269::c270::c271::[]),[]⟩ w') :
  (Code.loop (sumLoop 4)).wp Tryz.prog Q0 ⟨List.toArray (c0::c1::c2::.slice (some ⟨gb,o,none⟩) m3 c3::c4::c5::c6::c7::.int .i64 (64 * (k:Int))::.slice (some ⟨gw,0,none⟩) 64 64::.int .i64 (i:Int)::.int .i64 0::c12::c13::c14::c15::c16::c17::c18::c19::c20::c21::c22::c23::c24::c25::c26::c27::c28::c29::c30::c31::c32::c33::c34::c35::c36::c37::c38::c39::c40::c41::c42::c43::c44::c45::c46::c47::c48::c49::c50::c51::c52::c53::c54::c55::c56::c57::c58::c59::c60::c61::c62::c63::c64::c65::c66::c67::c68::c69::c70::c71::c72::c73::c74::c75::c76::c77::c78::c79::c80::c81::c82::c83::c84::c85::c86::c87::c88::c89::c90::c91::c92::c93::c94::c95::c96::c97::c98::c99::c100::c101::c102::c103::c104::c105::c106::c107::c108::c109::c110::c111::c112::c113::c114::c115::c116::c117::c118::c119::c120::c121::c122::c123::c124::c125::c126::c127::c128::c129::c130::c131::c132::c133::c134::c135::c136::c137::c138::c139::c140::c141::c142::c143::c144::c145::c146::c147::c148::c149::c150::c151::c152::c153::c154::c155::c156::c157::c158::c159::c160::c161::c162::c163::c164::c165::c166::c167::c168::c169::c170::c171::c172::c173::c174::c175::c176::c177::c178::c179::c180::c181::c182::c183::c184::c185::c186::c187::c188::c189::c190::c191::c192::c193::c194::c195::c196::c197::c198::c199::c200::c201::c202::c203::c204::c205::c206::c207::c208::c209::c210::c211::c212::c213::c214::c215::c216::c217::c218::c219::c220::c221::c222::c223::c224::c225::c226::c227::c228::c229::c230::c231::c232::c233::c234::c235::c236::c237::c238::c239::c240::c241::c242::c243::c244::c245::c246::c247::c248::c249::c250::c251::c252::c253::c254::c255::c256::c257::c258::c259::c260::c261::c262::c263::c264::c265::c266::c267::c268::c269::c270::c271::[]),[]⟩ w:=by
 have HM:=Lib.hid hmsg
 have HPL:=Lib.hid hpl
 have HLN:=Lib.hid hlen
 have HW:=Lib.hid hw
 have HE:=Lib.hid hexit
 clear hmsg hpl hlen hw hexit
 conv=>arg 2;arg 1;whnf
 go_loopw [11] (fun j wr=>∃ t:Nat,t≤4∧j=.int .i64 t∧Hid (Blk wr gw 121 (u32s (pre++Sha.part bs i t::post))∧w.grownBy wr (some gw))) (fun j _=>4 - (intOf j).toNat)
 case atStart=>exact ⟨0,by omega,rfl,Lib.hid ⟨HW.out,World.grownBy.refl w _⟩⟩
 case round=>
  obtain ⟨t,ht,rfl,HR⟩:=hrel
  by_cases hlt:t < 4
  ·have c1:=cell_grown HR.out.2 (HM.out t hlt) hne
   have c2:wr.cell? ⟨gw,i,none⟩=some (.int .u32 ((Sha.part bs i t:Nat):Int)):=by
    rw [HR.out.1.cell,u32s_get _ _ (by have:=HLN.out;simp at this ⊢;omega)]
    have e:=get_mid pre post (Sha.part bs i t)
    rw [HPL.out] at e
    rw [e]
   have f2:=HR.out.1.frozen i
   have hpw:=Sha.part_wrap hb i t hlt
   have hpt:=Sha.part_lt hb i t (by omega)
   have hbt:=hb (4 * i+t)
   have h4:256 ^ t≤256 ^ 4:=Nat.pow_le_pow_right (by decide) (by omega)
   have HV:=Lib.hid (show (((Sha.part bs i t:Nat):Int) * 256+((bs.getD (4 * i+t) 0:Nat):Int)) % 4294967296=((Sha.part bs i (t+1):Nat):Int) by rw [←hpw];omega)
   have HS:=Lib.hid (show (u32s (pre++Sha.part bs i t::post)).setIfInBounds i (.int .u32 ((Sha.part bs i (t+1):Nat):Int))=u32s (pre++Sha.part bs i (t+1)::post) by
    rw [u32s_set];have e:=set_mid pre post (Sha.part bs i t) (Sha.part bs i (t+1));rw [HPL.out] at e;rw [e])
   clear hpw hpt h4
   generalize bs.getD (4 * i+t) 0=bt at c1 hbt HV
   generalize Sha.part bs i t=pt at *
   have W1:IntKind.i64.wrap (4 * ((i:Nat):Int))=4 * i:=IntWalk.i64_in _ (by omega)
   have W2:IntKind.i64.wrap (64 * ((k:Nat):Int)+4 * i)=64 * k+4 * i:=IntWalk.i64_in _ (by omega)
   have W3:IntKind.i64.wrap (64 * ((k:Nat):Int)+4 * i+t)=64 * k+4 * i+t:=IntWalk.i64_in _ (by omega)
   have W4:(64 * ((k:Nat):Int)+4 * i+t).toNat=64 * k+4 * i+t:=by omega
   have W5:(0:Int)≤64 * ((k:Nat):Int)+4 * i+t:=by omega
   have W6:64 * ((k:Nat):Int)+4 * i+t < m3:=by omega
   have W7:((i:Nat):Int) < 64:=by omega
   have W8:(0:Int)≤((i:Nat):Int):=by omega
   go_wp2
   refine wp_region_still_tail 19 (by kernel_rfl) (by kernel_rfl) ?_
   change wpStill _ _ wr.drew _ _ _
   dsimp only [List.take,List.drop]
   repeat still_step
   refine wpStill_nil ?_
   change wpList _ _ _ _ _ wr.drew
   go_wp2
   go_roundw
   case rel=>exact ⟨t+1,by omega,by go_num,Lib.hid ⟨by rw [←HS.out,←HV.out];exact (HR.out.1.set_ i _).drew,only_drew (only_setCell HR.out.2 (.inl rfl) _)⟩⟩
   case measure=>simp [intOf];omega
  ·obtain rfl:t=4:=by omega
   have HP:=Lib.hid (Sha.part_four bs i)
   go_wp2
   refine HE.out _ _ _ _ _ _ _ _ _ _ _ _ _ _ _ _ _ _ _ _ _ _ _ wr ?_ HR.out.2
   rw [←HP.out]
   exact HR.out.1
end Go.Proofs.YtndgadjeeinedaaGreatDoor
