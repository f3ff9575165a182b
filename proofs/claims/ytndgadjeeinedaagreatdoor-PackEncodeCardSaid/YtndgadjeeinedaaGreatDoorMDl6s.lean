/- delta.Apply's first answers; the whole of it. -/
import Derived.Test.YtndgadjeeinedaaGreatDoorMDl5
import Derived.Test.YtndgadjeeinedaaGreatDoorMOct8s
import Derived.Test.YtndgadjeeinedaaGreatDoorMShaMixs
import Derived.Lib.Index
import Derived.Lib.Bytes
import Derived.Shelf.Small.Strs
import Derived.Shelf.Strings.Search1
import Derived.Shelf.Bytes.SlIndexSmall
import Derived.Shelf.Bytes.SlIndexAt
import Derived.Shelf.Bytes.SlSearch0
import Derived.Shelf.Bytes.SlSearch1
import Derived.Shelf.Bytes.SlSearch2
import Derived.Shelf.Bytes.SlIndexWhole
import Derived.Shelf.LaysM
import Derived.Ground.SlbCloneProg
import Derived.Shelf.Bytes.SlClone
import Derived.Shelf.Bytes.SlEqualAll
import Derived.Shelf.Bytes.Small
import Derived.Shelf.Bytes.IndexByte
import Derived.Test.YtndgadjeeinedaaGreatDoorProg
import Derived.WalkLawsBesides
namespace Go.Proofs.YtndgadjeeinedaaGreatDoor
open Go Go.RowKit Go.Shelf
attribute [local go_sem] Oper.semAt_some
set_option maxRecDepth 100000 in
set_option maxHeartbeats 1000000 in
theorem dapply_short (Ab A:Option Addr) (nb cb c:Nat) (_base d:List Nat) (ea:Nat→Addr) (w:World) (hS:ASents w ea) (h4:d.length < 4) :
  Calls Tryz.prog 82 #[.slice Ab nb cb,.slice A d.length c] w (ApplyPost (.err 1) ea w):=by
 have SZ:∀ w',Below w.heap.size w w'→Calls Tryz.prog 95 #[.slice A d.length c] w' fun e w''=>e=.returned (.tuple #[.int .i64 0,.int .i64 0,ev (ea 1)])∧∃ m,w''=w'.drewN m:=fun w' hw=>
  sizes_short A c d (ea 1) w' h4 ((hS 1 (by omega)).below hw (Nat.le_refl _)).var
 clear h4 hS
 refine (callsIn_wide (n:=4)).1 ?_
 refine callsIn_of_wp Tryz.func82 rfl trivial ?_ rfl
 simp only [Tryz.ntmps82,List.size_toArray,List.length_cons,List.length_nil,Nat.reduceAdd,Nat.reduceSub,Array.replicate_succ,Array.replicate_zero,List.push_toArray,List.append_toArray,List.nil_append,List.cons_append]
 gi_wp2_with (refine ⟨trivial,?_⟩;gi_at_call 95;refine (callsIn_wide.2 (SZ _ ?_)).mono ?_;exact ((((Below.refl _ w).alloc (Nat.le_refl _) _).alloc (by simp) _).alloc (by simp;omega) _);rintro e w' ⟨rfl,m,rfl⟩)
 refine bodyPost_ret (v:=.tuple #[.slice none 0 0,ev (ea 1)]) (by simp [results,Tryz.results82,go_sem]) rfl ⟨rfl,?_⟩
 exact (((below_drewN ((((Below.refl _ w).alloc (Nat.le_refl _) _).alloc (by simp) _).alloc (by simp;omega) _) m).setCell (p:=⟨w.heap.size+1,0,none⟩) (Nat.le_add_right _ _) _).setCell (p:=⟨w.heap.size+1+1,0,none⟩) (by show w.heap.size≤w.heap.size+1+1;omega) _).alloc (by simp;omega) _
set_option maxRecDepth 100000 in
set_option maxHeartbeats 1000000 in
theorem dapply_state (Ab A:Option Addr) (nb cb n c:Nat) (d:List Nat) (ea:Nat→Addr) (w:World) (hD:Rd w (.slice A n c) d) (hb:Sha.Byte d) (hS:ASents w ea) (h4:4≤d.length) (hst:Dl.two d 0≠nb) :
  Calls Tryz.prog 82 #[.slice Ab nb cb,.slice A n c] w (ApplyPost (.err 18) ea w):=by
 have SZ:∀ w',Below w.heap.size w w'→Calls Tryz.prog 95 #[.slice A n c] w' fun e w''=>e=.returned (.tuple #[.int .i64 (Dl.two d 0:Nat),.int .i64 (Dl.two d 2:Nat),.nilIface])∧∃ m,w''=w'.drewN m:=fun w' hw=>sizes_any A n c d w' (hD.below hw (Nat.le_refl _)) hb h4
 have hG:=(hS 18 (by omega)).lt
 have cE:∀ w',Below w.heap.size w w'→w'.cell? ⟨19,0,none⟩=some (ev (ea 18)):=fun w' hw=>((hS 18 (by omega)).below hw (Nat.le_refl _)).var
 have lE:19 < w.heap.size:=hG
 have hm:Tryz.prog.follows .mixedOrders=true:=by kernel_rfl
 have b0:((Dl.two d 0:Nat):Int)≠(nb:Int):=by omega
 have b1:(((Dl.two d 0:Nat):Int) != (nb:Int))=true:=by simp;omega
 clear hst
 clear h4 hS hD hb hG
 refine (callsIn_wide (n:=4)).1 ?_
 refine callsIn_of_wp Tryz.func82 rfl trivial ?_ rfl
 simp only [Tryz.ntmps82,List.size_toArray,List.length_cons,List.length_nil,Nat.reduceAdd,Nat.reduceSub,Array.replicate_succ,Array.replicate_zero,List.push_toArray,List.append_toArray,List.nil_append,List.cons_append]
 gi_wp2_with (refine ⟨trivial,?_⟩;gi_at_call 95;refine (callsIn_wide.2 (SZ _ ?_)).mono ?_;exact ((((Below.refl _ w).alloc (Nat.le_refl _) _).alloc (by simp) _).alloc (by simp;omega) _);rintro e w' ⟨rfl,m,rfl⟩)
 have hb3:=below_drewN ((((Below.refl _ w).alloc (Nat.le_refl _) (.cells #[.slice Ab nb cb] 25)).alloc (by simp) (.cells #[.slice none 0 0] 25)).alloc (by simp;omega) (.cells #[.nilIface] 27)) m
 have c3:=cE _ hb3
 have c4:(((((w.alloc (.cells #[.slice Ab nb cb] 25)).alloc (.cells #[.slice none 0 0] 25)).alloc (.cells #[.nilIface] 27)).drewN m).alloc (.cells #[.int .i64 ((Dl.two d 2:Nat):Int)] 3)).cell? ⟨19,0,none⟩=some (ev (ea 18)):=cE _ (hb3.alloc (by simp;omega) _)
 have c5:((((((w.alloc (.cells #[.slice Ab nb cb] 25)).alloc (.cells #[.slice none 0 0] 25)).alloc (.cells #[.nilIface] 27)).drewN m).setCell ⟨w.heap.size+1,0,none⟩ (.slice none 0 0)).alloc (.cells #[.int .i64 ((Dl.two d 2:Nat):Int)] 3)).cell? ⟨19,0,none⟩=some (ev (ea 18)):=cE _ ((hb3.setCell (p:=⟨w.heap.size+1,0,none⟩) (Nat.le_add_right _ _) _).alloc (by simp;omega) _)
 gi_region_with_o (fail)
 all_goals gi_wp2
 all_goals
  refine bodyPost_ret (v:=.tuple #[.slice none 0 0,ev (ea 18)]) (by simp [results,Tryz.results82,go_sem]) rfl ⟨rfl,?_⟩
  exact below_drewN (((hb3.setCell (p:=⟨w.heap.size+1,0,none⟩) (Nat.le_add_right _ _) _).setCell (p:=⟨w.heap.size+1+1,0,none⟩) (by show w.heap.size≤w.heap.size+1+1;omega) _).alloc (by simp;omega) _) 1
set_option maxRecDepth 100000 in
set_option maxHeartbeats 1000000 in
theorem dapply_large (Ab A:Option Addr) (nb cb n c:Nat) (d:List Nat) (ea:Nat→Addr) (w:World) (hD:Rd w (.slice A n c) d) (hb:Sha.Byte d) (hS:ASents w ea) (h4:4≤d.length) (hst:Dl.two d 0=nb) (hlg:300 < Dl.two d 2) :
  Calls Tryz.prog 82 #[.slice Ab nb cb,.slice A n c] w (ApplyPost (.err 12) ea w):=by
 have SZ:∀ w',Below w.heap.size w w'→Calls Tryz.prog 95 #[.slice A n c] w' fun e w''=>e=.returned (.tuple #[.int .i64 (Dl.two d 0:Nat),.int .i64 (Dl.two d 2:Nat),.nilIface])∧∃ m,w''=w'.drewN m:=fun w' hw=>sizes_any A n c d w' (hD.below hw (Nat.le_refl _)) hb h4
 have hG:=(hS 12 (by omega)).lt
 have cE:∀ w',Below w.heap.size w w'→w'.cell? ⟨1,0,none⟩=some (ev (ea 12)):=fun w' hw=>((hS 12 (by omega)).below hw (Nat.le_refl _)).var
 have lE:1 < w.heap.size:=hG
 have hm:Tryz.prog.follows .mixedOrders=true:=by kernel_rfl
 rw [hst] at SZ
 have b1:decide ((300:Int) < ((Dl.two d 2:Nat):Int))=true:=by simp;omega
 have b2:(300:Int) < ((Dl.two d 2:Nat):Int):=by omega
 clear hst hlg
 clear h4 hS hD hb hG
 refine (callsIn_wide (n:=4)).1 ?_
 refine callsIn_of_wp Tryz.func82 rfl trivial ?_ rfl
 simp only [Tryz.ntmps82,List.size_toArray,List.length_cons,List.length_nil,Nat.reduceAdd,Nat.reduceSub,Array.replicate_succ,Array.replicate_zero,List.push_toArray,List.append_toArray,List.nil_append,List.cons_append]
 gi_wp2_with (refine ⟨trivial,?_⟩;gi_at_call 95;refine (callsIn_wide.2 (SZ _ ?_)).mono ?_;exact ((((Below.refl _ w).alloc (Nat.le_refl _) _).alloc (by simp) _).alloc (by simp;omega) _);rintro e w' ⟨rfl,m,rfl⟩)
 have hb3:=below_drewN ((((Below.refl _ w).alloc (Nat.le_refl _) (.cells #[.slice Ab nb cb] 25)).alloc (by simp) (.cells #[.slice none 0 0] 25)).alloc (by simp;omega) (.cells #[.nilIface] 27)) m
 have c3:=cE _ hb3
 have c4:(((((w.alloc (.cells #[.slice Ab nb cb] 25)).alloc (.cells #[.slice none 0 0] 25)).alloc (.cells #[.nilIface] 27)).drewN m).alloc (.cells #[.int .i64 ((Dl.two d 2:Nat):Int)] 3)).cell? ⟨1,0,none⟩=some (ev (ea 12)):=cE _ (hb3.alloc (by simp;omega) _)
 have c5:((((((w.alloc (.cells #[.slice Ab nb cb] 25)).alloc (.cells #[.slice none 0 0] 25)).alloc (.cells #[.nilIface] 27)).drewN m).setCell ⟨w.heap.size+1,0,none⟩ (.slice none 0 0)).alloc (.cells #[.int .i64 ((Dl.two d 2:Nat):Int)] 3)).cell? ⟨1,0,none⟩=some (ev (ea 12)):=cE _ ((hb3.setCell (p:=⟨w.heap.size+1,0,none⟩) (Nat.le_add_right _ _) _).alloc (by simp;omega) _)
 gi_region_with_o (fail)
 all_goals gi_wp2
 all_goals
  refine bodyPost_ret (v:=.tuple #[.slice none 0 0,ev (ea 12)]) (by simp [results,Tryz.results82,go_sem]) rfl ⟨rfl,?_⟩
  exact below_drewN (((hb3.setCell (p:=⟨w.heap.size+1,0,none⟩) (Nat.le_add_right _ _) _).setCell (p:=⟨w.heap.size+1+1,0,none⟩) (by show w.heap.size≤w.heap.size+1+1;omega) _).alloc (by simp;omega) _) 1
theorem dapply (Ab A:Option Addr) (nb cb n c:Nat) (base d:List Nat) (ea:Nat→Addr) (w:World) (hB:Rd w (.slice Ab nb cb) base) (hD:Rd w (.slice A n c) d) (hb:Sha.Byte d) (hS:ASents w ea) :
  Calls Tryz.prog 82 #[.slice Ab nb cb,.slice A n c] w (ApplyPost (Dl.applyP base d) ea w):=by
 have en:n=d.length:=by obtain ⟨_,_,hv,_⟩:=hD;injection hv
 have eb:nb=base.length:=by obtain ⟨_,_,hv,_⟩:=hB;injection hv
 unfold Dl.applyP
 split
 ·rename_i h4
  rw [en]
  exact dapply_short Ab A nb cb c base d ea w hS h4
 ·rename_i h4
  split
  ·rename_i hst
   exact dapply_state Ab A nb cb n c d ea w hD hb hS (by omega) (by rw [eb];exact hst)
  ·rename_i hst
   split
   ·rename_i hlg
    exact dapply_large Ab A nb cb n c d ea w hD hb hS (by omega) (by rw [eb];exact Classical.not_not.1 hst) hlg
   ·rename_i hlg
    exact dapply_any Ab A nb cb n c base d ea w hB hD hb hS (by omega) (Classical.not_not.1 hst) (by omega)
end Go.Proofs.YtndgadjeeinedaaGreatDoor
/- delta.Steps: how many copies and fresh steps. -/
namespace Go.Proofs.YtndgadjeeinedaaGreatDoor
open Go Go.RowKit Go.Shelf
attribute [local go_sem] Oper.semAt_some
namespace Dl
end Dl
end Go.Proofs.YtndgadjeeinedaaGreatDoor
/- The longest copy with which a text begins: with how many bytes both begin; the first of the longest places. -/
namespace Go.Proofs.YtndgadjeeinedaaGreatDoor.Dl
open Go Go.Proofs.YtndgadjeeinedaaGreatDoor
def cmn:List Nat→List Nat→Nat→Nat
 | a::la,b::bs,m+1=>if a=b then cmn la bs m+1 else 0
 | _,_,_=>0
theorem cmn_ge:∀ (k:Nat) (a b:List Nat) (m:Nat),k≤cmn a b m↔k≤m∧k≤a.length∧k≤b.length∧a.take k=b.take k
 | 0,a,b,m=>by simp
 | k+1,[],b,m=>by simp [cmn]
 | k+1,a::la,[],m=>by simp [cmn]
 | k+1,a::la,b::bs,0=>by simp [cmn]
 | k+1,a::la,b::bs,m+1=>by
  rw [cmn]
  split
  ·rename_i h
   subst h
   have:=cmn_ge k la bs m
   simp only [List.take_succ_cons,List.cons.injEq,true_and,List.length_cons]
   constructor
   ·intro h1
    have h2:=this.1 (by omega)
    exact ⟨by omega,by omega,by omega,h2.2.2.2⟩
   ·rintro ⟨h1,h2,h3,h4⟩
    have:=this.2 ⟨by omega,by omega,by omega,h4⟩
    omega
  ·rename_i h
   constructor
   ·intro h1;omega
   ·rintro ⟨_,_,_,h4⟩
    simp only [List.take_succ_cons,List.cons.injEq] at h4
    exact absurd h4.1 h
theorem cmn_le (a b:List Nat) (m:Nat):cmn a b m≤m∧cmn a b m≤a.length∧cmn a b m≤b.length∧a.take (cmn a b m)=b.take (cmn a b m):=(cmn_ge _ a b m).1 (Nat.le_refl _)
theorem take_snocD {l:List Nat} {n:Nat} (h:n < l.length):l.take (n+1)=l.take n++[l.getD n 0]:=by
 rw [List.take_succ_eq_append_getElem h];simp [List.getD,h]
theorem cmn_stop {a b:List Nat} {m n:Nat} (hm:n < m) (ha:n < a.length) (hb:n < b.length) (he:a.take n=b.take n) (hne:a.getD n 0≠b.getD n 0):cmn a b m=n:=by
 have h1:=(cmn_ge n a b m).2 ⟨by omega,by omega,by omega,he⟩
 have h2:¬n+1≤cmn a b m:=fun h=>by
  have h3:=((cmn_ge (n+1) a b m).1 h).2.2.2
  rw [take_snocD ha,take_snocD hb,he] at h3
  have h4:=List.append_cancel_left h3
  simp only [List.cons.injEq,and_true] at h4
  exact hne h4
 omega
theorem cmn_full {a b:List Nat} {m n:Nat} (hn:n=min (min a.length b.length) m) (he:a.take n=b.take n):cmn a b m=n:=by
 have h1:=(cmn_ge n a b m).2 ⟨by omega,by omega,by omega,he⟩
 have h2:=cmn_le a b m
 omega
theorem take_step {a b:List Nat} {n:Nat} (ha:n < a.length) (hb:n < b.length) (he:a.take n=b.take n) (h:a.getD n 0=b.getD n 0):a.take (n+1)=b.take (n+1):=by
 rw [take_snocD ha,take_snocD hb,he,h]
def lgN (base text:List Nat):Nat→Nat×Nat
 | 0=>(0,0)
 | k+1=>if 4≤cmn (base.drop k) text 127∧(lgN base text k).1 < cmn (base.drop k) text 127 then (cmn (base.drop k) text 127,k) else lgN base text k
def lg (base text:List Nat):Nat×Nat:=lgN base text base.length
theorem lgN_succ (base text:List Nat) (k:Nat):lgN base text (k+1)=if 4≤cmn (base.drop k) text 127∧(lgN base text k).1 < cmn (base.drop k) text 127 then (cmn (base.drop k) text 127,k) else lgN base text k:=rfl
theorem lgN_skip {base text:List Nat} {k:Nat}:∀ (n:Nat),(∀ j,k≤j→j < k+n→cmn (base.drop j) text 127 < 4)→lgN base text (k+n)=lgN base text k
 | 0,_=>rfl
 | n+1,h=>by
  rw [←Nat.add_assoc,lgN_succ,if_neg (by have:=h (k+n) (by omega) (by omega);omega)]
  exact lgN_skip n (fun j h1 h2=>h j h1 (by omega))
def Best (base text:List Nat) (k:Nat) (s:Nat×Nat):Prop:=
 (s.1=0∧s.2=0∧∀ j,j < k→cmn (base.drop j) text 127 < 4) ∨
 (4≤s.1∧s.2 < k∧cmn (base.drop s.2) text 127=s.1∧(∀ j,j < k→cmn (base.drop j) text 127≤s.1)∧∀ j,j < s.2→cmn (base.drop j) text 127 < s.1)
theorem lgN_best (base text:List Nat):∀ k,Best base text k (lgN base text k)
 | 0=>.inl ⟨rfl,rfl,fun j h=>by omega⟩
 | k+1=>by
  rw [lgN_succ]
  have ih:=lgN_best base text k
  generalize lgN base text k=s at ih ⊢
  split
  ·rename_i h
   rcases ih with ⟨h1,h2,h3⟩ | ⟨h1,h2,h3,h4,h5⟩
   ·refine .inr ⟨h.1,Nat.lt_succ_self k,rfl,fun j hj=>?_,fun j hj=>?_⟩
    ·rcases Nat.lt_or_eq_of_le (Nat.le_of_lt_succ hj) with hj | rfl
     ·have:=h3 j hj;show _≤cmn (base.drop k) text 127;omega
     ·exact Nat.le_refl _
    ·have:=h3 j hj;show _ < cmn (base.drop k) text 127;omega
   ·refine .inr ⟨h.1,Nat.lt_succ_self k,rfl,fun j hj=>?_,fun j hj=>?_⟩
    ·rcases Nat.lt_or_eq_of_le (Nat.le_of_lt_succ hj) with hj | rfl
     ·have:=h4 j hj;show _≤cmn (base.drop k) text 127;omega
     ·exact Nat.le_refl _
    ·have:=h4 j hj;show _ < cmn (base.drop k) text 127;omega
  ·rename_i h
   rcases ih with ⟨h1,h2,h3⟩ | ⟨h1,h2,h3,h4,h5⟩
   ·refine .inl ⟨h1,h2,fun j hj=>?_⟩
    rcases Nat.lt_or_eq_of_le (Nat.le_of_lt_succ hj) with hj | rfl
    ·exact h3 j hj
    ·omega
   ·refine .inr ⟨h1,by omega,h3,fun j hj=>?_,h5⟩
    rcases Nat.lt_or_eq_of_le (Nat.le_of_lt_succ hj) with hj | rfl
    ·exact h4 j hj
    ·omega
theorem lg_best (base text:List Nat):Best base text base.length (lg base text):=lgN_best base text base.length
theorem lg_short {base text:List Nat} (h:text.length < 4):lg base text=(0,0):=by
 rcases lg_best base text with ⟨h1,h2,_⟩ | ⟨h1,_,h3,_⟩
 ·exact Prod.ext h1 h2
 ·have:=cmn_le (base.drop (lg base text).2) text 127
  omega
theorem map_ofNat_inj:∀ {xs ys:List Nat},(∀ x∈xs,x < 256)→(∀ y∈ys,y < 256)→xs.map UInt8.ofNat=ys.map UInt8.ofNat→xs=ys
 | [],[],_,_,_=>rfl
 | [],_::_,_,_,h=>by cases h
 | _::_,[],_,_,h=>by cases h
 | x::xs,y::ys,hx,hy,h=>by
  simp only [List.map_cons,List.cons.injEq] at h
  have e:x=y:=by
   have h1:=congrArg UInt8.toNat h.1
   simp only [UInt8.toNat_ofNat'] at h1
   have:=hx x (by simp);have:=hy y (by simp)
   omega
  rw [e,map_ofNat_inj (fun z hz=>hx z (by simp [hz])) (fun z hz=>hy z (by simp [hz])) h.2]
theorem mem_byte {xs:List Nat} (h:∀ i,xs.getD i 0 < 256):∀ x∈xs,x < 256:=fun x hx=>by
 obtain ⟨i,hi,rfl⟩:=List.mem_iff_getElem.1 hx
 have:=h i
 simpa [List.getD,hi] using this
theorem bytesOf_nats (xs:List Nat):Lib.bytesOf (xs.map fun (n:Nat)=>(n:Int))=xs.map UInt8.ofNat:=by
 unfold Lib.bytesOf
 rw [List.map_map]
 rfl
theorem occ_iff {base text:List Nat} (hb:∀ i,base.getD i 0 < 256) (ht:∀ i,text.getD i 0 < 256) (h4:4≤text.length) (i:Nat) :
  Lib.occAt (base.map UInt8.ofNat) ((text.take 4).map UInt8.ofNat) i=true↔4≤cmn (base.drop i) text 127:=by
 unfold Lib.occAt
 rw [List.isPrefixOf_iff_prefix,List.prefix_iff_eq_take,List.length_map,List.length_take,Nat.min_eq_left h4,←List.map_drop,←List.map_take,cmn_ge]
 constructor
 ·intro h
  have h':=map_ofNat_inj (fun x hx=>mem_byte ht x (List.mem_of_mem_take hx)) (fun x hx=>mem_byte hb x (List.mem_of_mem_drop (List.mem_of_mem_take hx))) h
  have hl:=congrArg List.length h'
  rw [List.length_take,List.length_take,Nat.min_eq_left h4] at hl
  exact ⟨by omega,by omega,h4,h'.symm⟩
 ·rintro ⟨_,_,_,h⟩
  rw [h]
theorem least {p:Nat→Prop} (h:∃ i,p i):∃ n,p n∧∀ j,j < n→¬p j:=by
 obtain ⟨i,hi⟩:=h
 induction i using Nat.strongRecOn with
 | _ i ih=>
  by_cases hq:∃ j,j < i∧p j
  ·obtain ⟨j,hj,hp⟩:=hq
   exact ih j hj hp
  ·exact ⟨i,hi,fun j hj hp=>hq ⟨j,hj,hp⟩⟩
theorem index_says {base text:List Nat} (hb:∀ i,base.getD i 0 < 256) (ht:∀ i,text.getD i 0 < 256) (h4:4≤text.length) (k:Nat) :
  (Lib.index ((base.drop k).map UInt8.ofNat) ((text.take 4).map UInt8.ofNat)=-1∧∀ j,k≤j→cmn (base.drop j) text 127 < 4) ∨
  (∃ n:Nat,Lib.index ((base.drop k).map UInt8.ofNat) ((text.take 4).map UInt8.ofNat)=(n:Int)∧k+n+4≤base.length∧4≤cmn (base.drop (k+n)) text 127∧∀ j,k≤j→j < k+n→cmn (base.drop j) text 127 < 4):=by
 have hbd:∀ i,(base.drop k).getD i 0 < 256:=fun i=>by rw [Sha.getD_drop];exact hb _
 have hocc:=fun i=>occ_iff (base:=base.drop k) hbd ht h4 i
 by_cases hex:∃ i,4≤cmn ((base.drop k).drop i) text 127
 ·obtain ⟨n,hf,hm⟩:=least hex
  have hl:=cmn_le ((base.drop k).drop n) text 127
  rw [List.length_drop,List.length_drop] at hl
  refine .inr ⟨n,Lib.index_first (by rw [List.length_map,List.length_drop];omega) ((hocc n).2 hf) (fun j hj=>?_),by omega,by rw [List.drop_drop] at hf;exact hf,fun j h1 h2=>?_⟩
  ·have h:=hm j hj
   cases hq:Lib.occAt ((base.drop k).map UInt8.ofNat) ((text.take 4).map UInt8.ofNat) j with
   | false=>rfl
   | true=>exact absurd ((hocc j).1 hq) h
  ·have h:=hm (j - k) (by omega)
   rw [List.drop_drop,show k+(j - k)=j by omega] at h
   omega
 ·refine .inl ⟨Lib.index_none (fun j _=>?_),fun j hj=>?_⟩
  ·cases hq:Lib.occAt ((base.drop k).map UInt8.ofNat) ((text.take 4).map UInt8.ofNat) j with
   | false=>rfl
   | true=>exact absurd ⟨j,(hocc j).1 hq⟩ hex
  ·have h:¬4≤cmn ((base.drop k).drop (j - k)) text 127:=fun h=>hex ⟨_,h⟩
   rw [List.drop_drop,show k+(j - k)=j by omega] at h
   omega
end Go.Proofs.YtndgadjeeinedaaGreatDoor.Dl
/- The library's contracts at this program's numbers: each by one application. -/
namespace Go.Proofs
open Go.Shelf
def Tryz.lays185_ren:Go.Shelf.Ren:=⟨fun | 185=>91 | 187=>104 | 115=>105 | 253=>106 | 224=>107 | 254=>108 | 255=>116 | 291=>117 | n=>n,fun | 37=>25 | 3=>3 | 4=>4 | 0=>0 | 5=>5 | 46=>118 | 9=>9 | 146=>192 | 51=>121 | n=>n,fun | 1=>23 | n=>n⟩
theorem Tryz.lays185:Go.Proofs.Lays.n185 Tryz.prog Tryz.lays185_ren:={
 mixed:=by kernel_rfl
 f115:=Tryz.func105.trans (congrArg some (by kernel_rfl))
 f185:=Tryz.func91.trans (congrArg some (by kernel_rfl))
 f187:=Tryz.func104.trans (congrArg some (by kernel_rfl))
 f224:=Tryz.func107.trans (congrArg some (by kernel_rfl))
 f253:=Tryz.func106.trans (congrArg some (by kernel_rfl))
 f254:=Tryz.func108.trans (congrArg some (by kernel_rfl))
 f255:=Tryz.func116.trans (congrArg some (by kernel_rfl))
 f291:=Tryz.func117.trans (congrArg some (by kernel_rfl))
 t0:=Tryz.underlying0
 a0:=Tryz.isAgg0
 z0:=Tryz.sizeOf0
 v0:=Tryz.zeroValue0
 t3:=Tryz.underlying3
 a3:=Tryz.isAgg3
 z3:=Tryz.sizeOf3
 v3:=Tryz.zeroValue3
 t4:=Tryz.underlying4
 a4:=Tryz.isAgg4
 z4:=Tryz.sizeOf4
 v4:=Tryz.zeroValue4
 t5:=Tryz.underlying5
 a5:=Tryz.isAgg5
 z5:=Tryz.sizeOf5
 v5:=Tryz.zeroValue5
 t9:=Tryz.underlying9
 a9:=Tryz.isAgg9
 z9:=Tryz.sizeOf9
 v9:=Tryz.zeroValue9
 t37:=Tryz.underlying25
 a37:=Tryz.isAgg25
 z37:=Tryz.sizeOf25
 v37:=Tryz.zeroValue25
 t46:=Tryz.underlying118
 a46:=Tryz.isAgg118
 z46:=Tryz.sizeOf118
 v46:=Tryz.zeroValue118
 t51:=Tryz.underlying121
 a51:=Tryz.isAgg121
 z51:=Tryz.sizeOf121
 v51:=Tryz.zeroValue121
 t146:=Tryz.underlying192
 a146:=Tryz.isAgg192
 z146:=Tryz.sizeOf192
 v146:=Tryz.zeroValue192
 g1:=by kernel_rfl }
open Go.RowKit Go.Lib in
theorem Tryz.bytes_Index_longer (p q:Option Addr) (n c m d:Nat) (w:World) (h2:2≤m) (hnm:n < m) (hm:m≤9223372036854775807) :
  Calls Tryz.prog 91 #[.slice p n c,.slice q m d] w fun e w'=>e=.returned (.int .i64 (-1))∧w'=w:=Any.bytes_Index_longer Tryz.lays185 p q n c m d w h2 hnm hm
open Go.Proofs Go.RowKit Go.Lib in
theorem Tryz.bytes_Index_at (a1 a2:Addr) (n c1 k c2:Nat) (xs ys:List Int) (m:Int) (w:World) (hx:xs.length=n) (hy:ys.length=k) (hr1:∀ x∈xs,0≤x∧x < 256) (hr2:∀ y∈ys,0≤y∧y < 256) (hc1:∀ i,i < n→w.cell? (a1.add i)=some (.int .u8 (xs.getD i 0))) (hc2:∀ i,i < k→w.cell? (a2.add i)=some (.int .u8 (ys.getD i 0))) (hcap:n≤c1) (hs:n < 4294967281) (hk:k≤9223372036854775807) (hm:w.cell? ⟨23,0,none⟩=some (.int .i64 m)) :
  Calls Tryz.prog 91 #[.slice (some a1) n c1,.slice (some a2) k c2] w fun e w'=>e=.returned (.int .i64 (Lib.index (Lib.bytesOf xs) (Lib.bytesOf ys)))∧∃ q,w'=w.drewN q:=Any.bytes_Index_at Tryz.lays185 a1 a2 n c1 k c2 xs ys m w hx hy hr1 hr2 hc1 hc2 hcap hs hk hm
def Tryz.laysM185_ren:Go.Shelf.Ren:=⟨fun | 185=>91 | 187=>104 | 115=>105 | 253=>106 | 224=>107 | 254=>108 | 255=>116 | 291=>117 | n=>n,fun | 37=>25 | 3=>3 | 4=>4 | 0=>0 | 5=>5 | 46=>118 | 9=>9 | 146=>192 | 51=>121 | n=>n,fun | 1=>23 | n=>n⟩
theorem Tryz.laysM185:Go.Proofs.LaysM.n185 Tryz.prog Tryz.laysM185_ren:={
 mixed:=by kernel_rfl
 f115:=Tryz.func105.trans (congrArg some (by kernel_rfl))
 f185:=Tryz.func91.trans (congrArg some (by kernel_rfl))
 f187:=Tryz.func104.trans (congrArg some (by kernel_rfl))
 f224:=Tryz.func107.trans (congrArg some (by kernel_rfl))
 f253:=Tryz.func106.trans (congrArg some (by kernel_rfl))
 f254:=Tryz.func108.trans (congrArg some (by kernel_rfl))
 f255:=Tryz.func116.trans (congrArg some (by kernel_rfl))
 f291:=Tryz.func117.trans (congrArg some (by kernel_rfl))
 t0:=Tryz.underlying0
 a0:=Tryz.isAgg0
 z0:=Tryz.sizeOf0
 v0:=Tryz.zeroValue0
 t3:=Tryz.underlying3
 a3:=Tryz.isAgg3
 z3:=Tryz.sizeOf3
 v3:=Tryz.zeroValue3
 t4:=Tryz.underlying4
 a4:=Tryz.isAgg4
 z4:=Tryz.sizeOf4
 v4:=Tryz.zeroValue4
 t5:=Tryz.underlying5
 a5:=Tryz.isAgg5
 z5:=Tryz.sizeOf5
 v5:=Tryz.zeroValue5
 t9:=Tryz.underlying9
 a9:=Tryz.isAgg9
 z9:=Tryz.sizeOf9
 v9:=Tryz.zeroValue9
 t37:=Tryz.underlying25
 a37:=Tryz.isAgg25
 z37:=Tryz.sizeOf25
 v37:=Tryz.zeroValue25
 t46:=Tryz.underlying118
 a46:=Tryz.isAgg118
 z46:=Tryz.sizeOf118
 v46:=Tryz.zeroValue118
 t51:=Tryz.underlying121
 a51:=Tryz.isAgg121
 z51:=Tryz.sizeOf121
 v51:=Tryz.zeroValue121
 t146:=Tryz.underlying192
 a146:=Tryz.isAgg192
 z146:=Tryz.sizeOf192
 v146:=Tryz.zeroValue192
 g1:=by kernel_rfl
 i0:=by kernel_rfl
 i3:=by kernel_rfl
 i4:=by kernel_rfl
 i5:=by kernel_rfl
 i9:=by kernel_rfl
 i37:=by kernel_rfl
 i46:=by kernel_rfl
 i51:=by kernel_rfl
 i146:=by kernel_rfl
 m1:=by kernel_rfl
 s1_3:=fun w h=>Go.Proofs.cell_of_shapedOpen_int (zero:=#[.int .i64 0]) (t:=3) h (of_decide_eq_true (by kernel_rfl)) (by kernel_rfl) rfl (by kernel_rfl) (by kernel_rfl) Tryz.underlying3 }
end Go.Proofs
/- delta.common and delta.longest. -/
namespace Go.Proofs.YtndgadjeeinedaaGreatDoor
open Go Go.RowKit
set_option maxRecDepth 100000 in
set_option maxHeartbeats 1000000 in
theorem common_any (A B:Option Addr) (na ca nb cb:Nat) (xs ys:List Nat) (w:World) (hx:Rd w (.slice A na ca) xs) (hy:Rd w (.slice B nb cb) ys) (hlx:xs.length≤1000000) (hly:ys.length≤1000000) :
  Calls Tryz.prog 92 #[.slice A na ca,.slice B nb cb] w fun e w'=>e=.returned (.int .i64 (Dl.cmn xs ys 127:Nat))∧∃ m,w'=w.drewN m:=by
 have ea:na=xs.length:=by obtain ⟨_,_,hv,_⟩:=hx;injection hv
 have eb:nb=ys.length:=by obtain ⟨_,_,hv,_⟩:=hy;injection hv
 subst ea eb
 have HX:=Lib.hid hx
 have HY:=Lib.hid hy
 clear hx hy
 obtain ⟨na,hna⟩:∃ na,na=xs.length:=⟨_,rfl⟩
 obtain ⟨nb,hnb⟩:∃ nb,nb=ys.length:=⟨_,rfl⟩
 rw [←hna] at HX hlx ⊢
 rw [←hnb] at HY hly ⊢
 have HNA:=Lib.hid hna
 have HNB:=Lib.hid hnb
 clear hna hnb
 by_cases z1:na≤nb
 ·by_cases z2:na≤127
  ·have z3:(na:Int)≤nb:=by omega
   have z4:(na:Int)≤127:=by omega
   go_enter Tryz.func92,Tryz.ntmps92
   go_wp2
   go_loopw [13] (fun i wr=>∃ k m:Nat,k≤na∧i=.int .i64 k∧Hid (xs.take k=ys.take k)∧wr=w.drewN m) (fun i _=>na - (intOf i).toNat)
   case atStart=>exact ⟨0,0,Nat.zero_le _,rfl,Lib.hid rfl,rfl⟩
   case round=>
    obtain ⟨k,m,hk,rfl,HT,rfl⟩:=hrel
    by_cases hlt:k < na
    ·have l1:k < na:=by omega
     have l2:k < nb:=by omega
     obtain ⟨_,_,b1,o1,rfl,_,g1⟩:=HX.out.blk (by rw [←HNA.out];omega)
     obtain ⟨_,_,b2,o2,rfl,_,g2⟩:=HY.out.blk (by rw [←HNB.out];omega)
     have x1:w.cell? ⟨b1,o1+k,none⟩=_:=g1 k (by rw [←HNA.out];omega)
     have x2:w.cell? ⟨b2,o2+k,none⟩=_:=g2 k (by rw [←HNB.out];omega)
     have HS:=Lib.hid (show xs.getD k 0=ys.getD k 0→xs.take (k+1)=ys.take (k+1) from fun h=>Dl.take_step (by rw [←HNA.out];omega) (by rw [←HNB.out];omega) HT.out h)
     have HN:=Lib.hid (show xs.getD k 0≠ys.getD k 0→Dl.cmn xs ys 127=k from fun h=>Dl.cmn_stop (by omega) (by rw [←HNA.out];omega) (by rw [←HNB.out];omega) HT.out h)
     generalize xs.getD k 0=p at x1 HS HN
     generalize ys.getD k 0=q at x2 HS HN
     clear g1 g2
     have i1:(0:Int)≤((k:Nat):Int):=by omega
     by_cases e:p=q
     ·have HE:=Lib.hid (HS.out e)
      subst e
      clear HS HN
      go_wp2
      go_quiet (fail)
      go_wp2
      go_roundw
      case rel=>exact ⟨k+1,m+nq,by omega,by go_num,HE,by simp⟩
      case measure=>simp [intOf];omega
     ·have HE:=Lib.hid (HN.out e)
      have e1:((p:Int) != (q:Int))=true:=by simp;omega
      have e2:¬(p:Int)=(q:Int):=by omega
      clear HS HN e
      go_wp2
      go_quiet (fail)
      go_wp2
      go_ret
      exact ⟨by rw [HE.out];rfl,m+nq,by simp⟩
    ·have HE:Hid (Dl.cmn xs ys 127=na):=Lib.hid (Dl.cmn_full (by rw [←HNA.out,←HNB.out];omega) (by rw [←show k=na by omega];exact HT.out))
     go_wp2
     go_ret
     exact ⟨by rw [HE.out];rfl,m,rfl⟩
  ·have z3:(na:Int)≤nb:=by omega
   have z4:¬(na:Int)≤127:=by omega
   have z5:(127:Int)≤na:=by omega
   have z6:(127:Int)≤nb:=by omega
   go_enter Tryz.func92,Tryz.ntmps92
   go_wp2
   go_loopw [13] (fun i wr=>∃ k m:Nat,k≤127∧i=.int .i64 k∧Hid (xs.take k=ys.take k)∧wr=w.drewN m) (fun i _=>127 - (intOf i).toNat)
   case atStart=>exact ⟨0,0,Nat.zero_le _,rfl,Lib.hid rfl,rfl⟩
   case round=>
    obtain ⟨k,m,hk,rfl,HT,rfl⟩:=hrel
    by_cases hlt:k < 127
    ·have l1:k < na:=by omega
     have l2:k < nb:=by omega
     obtain ⟨_,_,b1,o1,rfl,_,g1⟩:=HX.out.blk (by rw [←HNA.out];omega)
     obtain ⟨_,_,b2,o2,rfl,_,g2⟩:=HY.out.blk (by rw [←HNB.out];omega)
     have x1:w.cell? ⟨b1,o1+k,none⟩=_:=g1 k (by rw [←HNA.out];omega)
     have x2:w.cell? ⟨b2,o2+k,none⟩=_:=g2 k (by rw [←HNB.out];omega)
     have HS:=Lib.hid (show xs.getD k 0=ys.getD k 0→xs.take (k+1)=ys.take (k+1) from fun h=>Dl.take_step (by rw [←HNA.out];omega) (by rw [←HNB.out];omega) HT.out h)
     have HN:=Lib.hid (show xs.getD k 0≠ys.getD k 0→Dl.cmn xs ys 127=k from fun h=>Dl.cmn_stop (by omega) (by rw [←HNA.out];omega) (by rw [←HNB.out];omega) HT.out h)
     generalize xs.getD k 0=p at x1 HS HN
     generalize ys.getD k 0=q at x2 HS HN
     clear g1 g2
     have i1:(0:Int)≤((k:Nat):Int):=by omega
     by_cases e:p=q
     ·have HE:=Lib.hid (HS.out e)
      subst e
      clear HS HN
      go_wp2
      go_quiet (fail)
      go_wp2
      go_roundw
      case rel=>exact ⟨k+1,m+nq,by omega,by go_num,HE,by simp⟩
      case measure=>simp [intOf];omega
     ·have HE:=Lib.hid (HN.out e)
      have e1:((p:Int) != (q:Int))=true:=by simp;omega
      have e2:¬(p:Int)=(q:Int):=by omega
      clear HS HN e
      go_wp2
      go_quiet (fail)
      go_wp2
      go_ret
      exact ⟨by rw [HE.out];rfl,m+nq,by simp⟩
    ·have HE:Hid (Dl.cmn xs ys 127=127):=Lib.hid (Dl.cmn_full (by rw [←HNA.out,←HNB.out];omega) (by rw [←show k=127 by omega];exact HT.out))
     go_wp2
     go_ret
     exact ⟨by rw [HE.out];rfl,m,rfl⟩
 ·by_cases z2:nb≤127
  ·have z3:¬(na:Int)≤nb:=by omega
   have z5:(nb:Int)≤na:=by omega
   have z4:(nb:Int)≤127:=by omega
   go_enter Tryz.func92,Tryz.ntmps92
   go_wp2
   go_loopw [13] (fun i wr=>∃ k m:Nat,k≤nb∧i=.int .i64 k∧Hid (xs.take k=ys.take k)∧wr=w.drewN m) (fun i _=>nb - (intOf i).toNat)
   case atStart=>exact ⟨0,0,Nat.zero_le _,rfl,Lib.hid rfl,rfl⟩
   case round=>
    obtain ⟨k,m,hk,rfl,HT,rfl⟩:=hrel
    by_cases hlt:k < nb
    ·have l1:k < na:=by omega
     have l2:k < nb:=by omega
     obtain ⟨_,_,b1,o1,rfl,_,g1⟩:=HX.out.blk (by rw [←HNA.out];omega)
     obtain ⟨_,_,b2,o2,rfl,_,g2⟩:=HY.out.blk (by rw [←HNB.out];omega)
     have x1:w.cell? ⟨b1,o1+k,none⟩=_:=g1 k (by rw [←HNA.out];omega)
     have x2:w.cell? ⟨b2,o2+k,none⟩=_:=g2 k (by rw [←HNB.out];omega)
     have HS:=Lib.hid (show xs.getD k 0=ys.getD k 0→xs.take (k+1)=ys.take (k+1) from fun h=>Dl.take_step (by rw [←HNA.out];omega) (by rw [←HNB.out];omega) HT.out h)
     have HN:=Lib.hid (show xs.getD k 0≠ys.getD k 0→Dl.cmn xs ys 127=k from fun h=>Dl.cmn_stop (by omega) (by rw [←HNA.out];omega) (by rw [←HNB.out];omega) HT.out h)
     generalize xs.getD k 0=p at x1 HS HN
     generalize ys.getD k 0=q at x2 HS HN
     clear g1 g2
     have i1:(0:Int)≤((k:Nat):Int):=by omega
     by_cases e:p=q
     ·have HE:=Lib.hid (HS.out e)
      subst e
      clear HS HN
      go_wp2
      go_quiet (fail)
      go_wp2
      go_roundw
      case rel=>exact ⟨k+1,m+nq,by omega,by go_num,HE,by simp⟩
      case measure=>simp [intOf];omega
     ·have HE:=Lib.hid (HN.out e)
      have e1:((p:Int) != (q:Int))=true:=by simp;omega
      have e2:¬(p:Int)=(q:Int):=by omega
      clear HS HN e
      go_wp2
      go_quiet (fail)
      go_wp2
      go_ret
      exact ⟨by rw [HE.out];rfl,m+nq,by simp⟩
    ·have HE:Hid (Dl.cmn xs ys 127=nb):=Lib.hid (Dl.cmn_full (by rw [←HNA.out,←HNB.out];omega) (by rw [←show k=nb by omega];exact HT.out))
     go_wp2
     go_ret
     exact ⟨by rw [HE.out];rfl,m,rfl⟩
  ·have z3:¬(na:Int)≤nb:=by omega
   have z4:¬(nb:Int)≤127:=by omega
   have z5:(nb:Int)≤na:=by omega
   have z6:(127:Int)≤nb:=by omega
   have z7:(127:Int)≤na:=by omega
   go_enter Tryz.func92,Tryz.ntmps92
   go_wp2
   go_loopw [13] (fun i wr=>∃ k m:Nat,k≤127∧i=.int .i64 k∧Hid (xs.take k=ys.take k)∧wr=w.drewN m) (fun i _=>127 - (intOf i).toNat)
   case atStart=>exact ⟨0,0,Nat.zero_le _,rfl,Lib.hid rfl,rfl⟩
   case round=>
    obtain ⟨k,m,hk,rfl,HT,rfl⟩:=hrel
    by_cases hlt:k < 127
    ·have l1:k < na:=by omega
     have l2:k < nb:=by omega
     obtain ⟨_,_,b1,o1,rfl,_,g1⟩:=HX.out.blk (by rw [←HNA.out];omega)
     obtain ⟨_,_,b2,o2,rfl,_,g2⟩:=HY.out.blk (by rw [←HNB.out];omega)
     have x1:w.cell? ⟨b1,o1+k,none⟩=_:=g1 k (by rw [←HNA.out];omega)
     have x2:w.cell? ⟨b2,o2+k,none⟩=_:=g2 k (by rw [←HNB.out];omega)
     have HS:=Lib.hid (show xs.getD k 0=ys.getD k 0→xs.take (k+1)=ys.take (k+1) from fun h=>Dl.take_step (by rw [←HNA.out];omega) (by rw [←HNB.out];omega) HT.out h)
     have HN:=Lib.hid (show xs.getD k 0≠ys.getD k 0→Dl.cmn xs ys 127=k from fun h=>Dl.cmn_stop (by omega) (by rw [←HNA.out];omega) (by rw [←HNB.out];omega) HT.out h)
     generalize xs.getD k 0=p at x1 HS HN
     generalize ys.getD k 0=q at x2 HS HN
     clear g1 g2
     have i1:(0:Int)≤((k:Nat):Int):=by omega
     by_cases e:p=q
     ·have HE:=Lib.hid (HS.out e)
      subst e
      clear HS HN
      go_wp2
      go_quiet (fail)
      go_wp2
      go_roundw
      case rel=>exact ⟨k+1,m+nq,by omega,by go_num,HE,by simp⟩
      case measure=>simp [intOf];omega
     ·have HE:=Lib.hid (HN.out e)
      have e1:((p:Int) != (q:Int))=true:=by simp;omega
      have e2:¬(p:Int)=(q:Int):=by omega
      clear HS HN e
      go_wp2
      go_quiet (fail)
      go_wp2
      go_ret
      exact ⟨by rw [HE.out];rfl,m+nq,by simp⟩
    ·have HE:Hid (Dl.cmn xs ys 127=127):=Lib.hid (Dl.cmn_full (by rw [←HNA.out,←HNB.out];omega) (by rw [←show k=127 by omega];exact HT.out))
     go_wp2
     go_ret
     exact ⟨by rw [HE.out];rfl,m,rfl⟩
end Go.Proofs.YtndgadjeeinedaaGreatDoor
