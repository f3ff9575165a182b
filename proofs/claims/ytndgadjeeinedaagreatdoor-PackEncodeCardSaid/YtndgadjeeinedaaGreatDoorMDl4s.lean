/- The iterator over a delta's steps (delta.steps): for every loop body that keeps what lay below n₀. -/
import Derived.Test.YtndgadjeeinedaaGreatDoorMDl2s
import Derived.RangeFuncNested
import Derived.RangeFuncBound
import Derived.RangeFuncCalls
import Derived.RangeFuncLeaves
import Derived.RangeFuncBox
import Derived.Shelf.Abstract
import Derived.Shelf.RegionOpen
import Derived.WalkKit
import Derived.OwnWalkIn
import Derived.TacticsInMore
import Derived.LoopNIn
import Derived.LoopIn
import Derived.Test.YtndgadjeeinedaaGreatDoorMErrs
import Derived.OrdersHeld
import Derived.OrdersIn
import Derived.TacticsIn
import Derived.StillTailTactics
namespace Go.Proofs.YtndgadjeeinedaaGreatDoor
open Go Go.RowKit Go.Shelf
attribute [local go_sem] Oper.semAt_some
theorem dsl_from (b o len cap l : Nat) (h1 : l ≤ len) {lo : Int} (el : lo = l) : ∃ A2, (∀ w, (Instr.slice 25 (.slice (some ⟨b, o, none⟩) len cap) (some (.int .i64 lo)) none none).run Tryz.prog w = .ok (.slice A2 (len - l) (cap - l)) w) ∧ (l < cap → A2 = some ⟨b, o + l, none⟩) := by
  subst el
  cases hq : Tryz.prog.info? 5 with
  | none => have h : (Tryz.prog.info? 5).map (·.size) = some 1 := by kernel_rfl
            simp [hq] at h
  | some i =>
    have hs : i.size = 1 := by have h : (Tryz.prog.info? 5).map (·.size) = some 1 := by kernel_rfl
                               simpa [hq] using h
    have hn : ((l : Nat) : Int) ≤ len := by omega
    refine ⟨if cap = l then some ⟨b, o, none⟩ else some ⟨b, o + l, none⟩, fun w => ?_, fun h => if_neg (by omega)⟩
    by_cases hc : cap = l
    · simp [Instr.slice, run_underlying Tryz.underlying25, Instr.sliceBounds, run_sliceBound, sizeOf, typeInfo, hq, hs, hn, hc, Addr.add_mid]
    · simp [Instr.slice, run_underlying Tryz.underlying25, Instr.sliceBounds, run_sliceBound, sizeOf, typeInfo, hq, hs, hn, hc, Addr.add_mid]
theorem DIn.keep {w w':World} {d:List Nat} {b o c n₀:Nat} {aS aF:Addr} (h:DIn w d b o c aS aF) (hb:Below n₀ w w') (hl:b < n₀∧3 < n₀∧5 < n₀):DIn w' d b o c aS aF:=
 ⟨h.len,h.byt,Nat.lt_of_lt_of_le h.blk hb.size,fun i hi=>(hb.cell (p:=⟨b,o+i,none⟩) hl.1).trans (h.cel i hi),(hb.cell (p:=⟨3,0,none⟩) hl.2.1).trans h.short,(hb.cell (p:=⟨5,0,none⟩) hl.2.2).trans h.form⟩
def RestV (d:List Nat) (b o c p:Nat) (v:Value):Prop:=∃ A' c',v=.slice A' (d.length - p) c'∧(p < d.length→A'=some ⟨b,o+p,none⟩∧c'=c - p)
set_option maxRecDepth 100000 in
set_option maxHeartbeats 2000000 in
theorem steps1_in (n:Nat) (hn:1≤n) (l Bd n₀:Nat) (d:List Nat) (b o c:Nat) (aS aF:Addr) (J Jx:List Dl.Ev→World→Prop) (W0:World)
  (hl:b < n₀∧3 < n₀∧5 < n₀) (hn0:n₀≤W0.heap.size) (hJ:AbidesFrom W0.heap.size J) (h4:4≤d.length)
  (hY:∀ pre x W,J pre W→pre.length < (Dl.evs d 4).length→YieldAt Fence.wide (n - 1) Tryz.prog l #[stepV b o c (Dl.norm d x),errV aS aF (Dl.norm d x)] W fun e W'=>
   (e=.returned (.bool true)∧J (pre++[x]) W'∧Below n₀ W W')∨(e=.returned (.bool false)∧Jx (pre++[x]) W'))
  (hBd:W0.cell? ⟨Bd,0,none⟩=some (.slice (some ⟨b,o,none⟩) d.length c)) (hD:DIn W0 d b o c aS aF) (h0:J [] W0) :
  CallsIn Fence.wide n Tryz.prog 111 #[.func (.yield l) #[] #[],.pointer (some ⟨Bd,0,none⟩)] W0 fun e W'=>(∃ v,e=.returned v) ∧
   ((∃ ys,ys=Dl.evs d 4∧J ys W')∨(∃ pre,pre <+: Dl.evs d 4∧Jx pre W')):=by
 obtain ⟨A1,S1,E1⟩:=dsl_from b o d.length c 4 h4 (lo:=4) rfl
 have HR0:Hid (RestV d b o c 4 (.slice A1 (d.length - 4) (c - 4))):=Lib.hid ⟨_,_,rfl,fun h=>⟨E1 (by have:=hD.len;omega),rfl⟩⟩
 have HD0:=Lib.hid hD
 obtain ⟨N,hN⟩:∃ N,N=d.length:=⟨_,rfl⟩
 refine callsIn_of_wp Tryz.func111 rfl trivial ?_ rfl
 simp only [Tryz.ntmps111,List.size_toArray,List.length_cons,List.length_nil,Nat.reduceAdd,Nat.reduceSub,Array.replicate_succ,Array.replicate_zero,List.push_toArray,List.append_toArray,List.nil_append,List.cons_append]
 clear E1
 gi_wp2
 clear S1
 gi_loopw [3] (fun v wr=>∃ p pre,p≤d.length∧RestV d b o c p v∧Hid (Dl.evs d 4=pre++Dl.evs d p)∧J pre wr∧DIn wr d b o c aS aF∧n₀≤wr.heap.size) (fun v _=>match v with | .slice _ m _=>m | _=>0)
 case atStart=>exact ⟨4,[],h4,HR0.out,Lib.hid rfl,h0,HD0.out,hn0⟩
 case round=>
  obtain ⟨p,pre,hp,⟨A',c',rfl,hA⟩,HE,hJs,hDr,hnr⟩:=hrel
  by_cases hlt:p < d.length
  ·obtain ⟨rfl,rfl⟩:=hA hlt
   have CF:=first_any d p b o c aS aF wr hDr hlt
   have hok:=Dl.evAt_ok hD.byt p
   have HSP:(Dl.evAt d p=(.bad false,0))∨(Dl.evAt d p=(.bad true,0))∨(∃ n f k,Dl.evAt d p=(.copy n f,k)∧p+k≤d.length∧0 < k)∨(∃ m q k,Dl.evAt d p=(.fresh m q,k)∧p+k≤d.length∧0 < k):=by
    unfold Dl.evAt
    split
    ·exact .inl rfl
    ·split
     ·split
      ·exact .inr (.inl rfl)
      ·exact .inr (.inr (.inr ⟨_,_,_,rfl,by omega,by omega⟩))
     ·split
      ·exact .inr (.inl rfl)
      ·exact .inr (.inr (.inl ⟨_,_,_,rfl,by omega,by omega⟩))
   rcases HSP with he | he | ⟨m,f,k,he,hk,hk0⟩ | ⟨m,q,k,he,hk,hk0⟩
   ·rw [he] at CF hok
    simp only [stepV,errV] at CF
    have hYY:=hY pre (.bad false)
    rw [Dl.norm_ok hok] at hYY
    have HY:=Lib.hid hYY
    clear hYY hok
    have hm:0 < d.length - p:=by omega
    have HEV:Hid (Dl.evs d 4=pre++[.bad false]):=Lib.hid (by rw [HE.out,Dl.evs_bad hlt he])
    have HLN:Hid (pre.length < (Dl.evs d 4).length):=Lib.hid (by rw [HEV.out];simp)
    have HDR:=Lib.hid hDr
    have HJW:=Lib.hid hJs
    have HNR:=Lib.hid hnr
    clear he hY hDr hJs hnr
    gi_wp2_with (refine ⟨trivial,?_⟩;gi_at_call 112;refine (callsIn_wide.2 CF).mono ?_;rintro e w1 ⟨rfl,hb⟩;have HB:=Lib.hid hb;have HJ1:=Lib.hid (hJ pre wr (w1.alloc (.cells #[.int .i64 0,.slice none 0 0,.int .i64 0] 111)) none HJW.out (only_alloc (only_of_below hb none) _) (fun r e=>by cases e));obtain ⟨fn,tmps,assign,body,hy,hR⟩:=HY.out _ HJ1.out HLN.out;simp only [stepV,errV] at hy;clear hb CF)
    refine hR.mono ?_
    rintro e W3 (⟨rfl,hJ3,hk3⟩ | ⟨rfl,hJx3⟩)
    ·gi_wp2
     refine bodyPost_ret (results_none rfl _ _ _) rfl ?_
     exact ⟨⟨_,rfl⟩,.inl ⟨_,rfl,by rw [HEV.out];exact hJ3⟩⟩
    ·gi_wp2
     refine bodyPost_ret (results_none rfl _ _ _) rfl ?_
     exact ⟨⟨_,rfl⟩,.inr ⟨_,by rw [HEV.out];exact List.prefix_refl _,hJx3⟩⟩
   ·rw [he] at CF hok
    simp only [stepV,errV] at CF
    have hYY:=hY pre (.bad true)
    rw [Dl.norm_ok hok] at hYY
    have HY:=Lib.hid hYY
    clear hYY hok
    have hm:0 < d.length - p:=by omega
    have HEV:Hid (Dl.evs d 4=pre++[.bad true]):=Lib.hid (by rw [HE.out,Dl.evs_bad hlt he])
    have HLN:Hid (pre.length < (Dl.evs d 4).length):=Lib.hid (by rw [HEV.out];simp)
    have HDR:=Lib.hid hDr
    have HJW:=Lib.hid hJs
    have HNR:=Lib.hid hnr
    clear he hY hDr hJs hnr
    gi_wp2_with (refine ⟨trivial,?_⟩;gi_at_call 112;refine (callsIn_wide.2 CF).mono ?_;rintro e w1 ⟨rfl,hb⟩;have HB:=Lib.hid hb;have HJ1:=Lib.hid (hJ pre wr (w1.alloc (.cells #[.int .i64 0,.slice none 0 0,.int .i64 0] 111)) none HJW.out (only_alloc (only_of_below hb none) _) (fun r e=>by cases e));obtain ⟨fn,tmps,assign,body,hy,hR⟩:=HY.out _ HJ1.out HLN.out;simp only [stepV,errV] at hy;clear hb CF)
    refine hR.mono ?_
    rintro e W3 (⟨rfl,hJ3,hk3⟩ | ⟨rfl,hJx3⟩)
    ·gi_wp2
     refine bodyPost_ret (results_none rfl _ _ _) rfl ?_
     exact ⟨⟨_,rfl⟩,.inl ⟨_,rfl,by rw [HEV.out];exact hJ3⟩⟩
    ·gi_wp2
     refine bodyPost_ret (results_none rfl _ _ _) rfl ?_
     exact ⟨⟨_,rfl⟩,.inr ⟨_,by rw [HEV.out];exact List.prefix_refl _,hJx3⟩⟩
   ·rw [he] at CF hok
    simp only [stepV,errV] at CF
    have hYY:=hY pre (.copy m f)
    rw [Dl.norm_ok hok] at hYY
    have HY:=Lib.hid hYY
    clear hYY hok
    have hm:0 < d.length - p:=by omega
    obtain ⟨A2,S2,E2⟩:=dsl_from b (o+p) (d.length - p) (c - p) k (by omega) (lo:=(k:Int)) rfl
    have HE2:Hid (RestV d b o c (p+k) (.slice A2 (d.length - p - k) (c - p - k))):=Lib.hid ⟨A2,c - p - k,by rw [Nat.sub_sub],fun h=>⟨by have:=hDr.len;rw [E2 (by omega),Nat.add_assoc],by rw [Nat.sub_sub]⟩⟩
    have HEV:Hid (Dl.evs d 4=(pre++[.copy m f])++Dl.evs d (p+k)):=Lib.hid (by rw [HE.out,Dl.evs_step hlt he (by intro s e;cases e)];simp)
    have HK:=Lib.hid hk
    have HK0:=Lib.hid hk0
    clear E2 hk hk0
    have HLN:Hid (pre.length < (Dl.evs d 4).length):=Lib.hid (by rw [HEV.out];simp)
    have HDR:=Lib.hid hDr
    have HJW:=Lib.hid hJs
    have HNR:=Lib.hid hnr
    clear he hY hDr hJs hnr
    gi_wp2_with (refine ⟨trivial,?_⟩;gi_at_call 112;refine (callsIn_wide.2 CF).mono ?_;rintro e w1 ⟨rfl,hb⟩;have HB:=Lib.hid hb;have HJ1:=Lib.hid (hJ pre wr (w1.alloc (.cells #[.int .i64 (m:Int),.slice none 0 0,.int .i64 (f:Int)] 111)) none HJW.out (only_alloc (only_of_below hb none) _) (fun r e=>by cases e));obtain ⟨fn,tmps,assign,body,hy,hR⟩:=HY.out _ HJ1.out HLN.out;simp only [stepV,errV] at hy;clear hb CF)
    refine hR.mono ?_
    rintro e W3 (⟨rfl,hJ3,hk3⟩ | ⟨rfl,hJx3⟩)
    ·have HK3:=Lib.hid hk3
     have HJ3:=Lib.hid hJ3
     clear hk3 hJ3 hR hy
     gi_wp2
     go_roundw
     case rel=>
      have hb3:Below n₀ wr W3:=((HB.out.mono HNR.out).alloc (by have:=HB.out.size;have:=HNR.out;omega) _).trans HK3.out
      exact ⟨p+k,_,HK.out,HE2.out,HEV,HJ3.out,HDR.out.keep hb3 hl,Nat.le_trans HNR.out hb3.size⟩
     case measure=>have h1:=HK0.out;have h2:=HK.out;show d.length - p - k < d.length - p;omega
    ·gi_wp2
     refine bodyPost_ret (results_none rfl _ _ _) rfl ?_
     exact ⟨⟨_,rfl⟩,.inr ⟨_,by rw [HEV.out];exact List.prefix_append _ _,hJx3⟩⟩
   ·rw [he] at CF hok
    simp only [stepV,errV] at CF
    have hYY:=hY pre (.fresh m q)
    rw [Dl.norm_ok hok] at hYY
    have HY:=Lib.hid hYY
    clear hYY hok
    have hm:0 < d.length - p:=by omega
    obtain ⟨A2,S2,E2⟩:=dsl_from b (o+p) (d.length - p) (c - p) k (by omega) (lo:=(k:Int)) rfl
    have HE2:Hid (RestV d b o c (p+k) (.slice A2 (d.length - p - k) (c - p - k))):=Lib.hid ⟨A2,c - p - k,by rw [Nat.sub_sub],fun h=>⟨by have:=hDr.len;rw [E2 (by omega),Nat.add_assoc],by rw [Nat.sub_sub]⟩⟩
    have HEV:Hid (Dl.evs d 4=(pre++[.fresh m q])++Dl.evs d (p+k)):=Lib.hid (by rw [HE.out,Dl.evs_step hlt he (by intro s e;cases e)];simp)
    have HK:=Lib.hid hk
    have HK0:=Lib.hid hk0
    clear E2 hk hk0
    have HLN:Hid (pre.length < (Dl.evs d 4).length):=Lib.hid (by rw [HEV.out];simp)
    have HDR:=Lib.hid hDr
    have HJW:=Lib.hid hJs
    have HNR:=Lib.hid hnr
    clear he hY hDr hJs hnr
    gi_wp2_with (refine ⟨trivial,?_⟩;gi_at_call 112;refine (callsIn_wide.2 CF).mono ?_;rintro e w1 ⟨rfl,hb⟩;have HB:=Lib.hid hb;have HJ1:=Lib.hid (hJ pre wr (w1.alloc (.cells #[.int .i64 (m:Int),.slice (some ⟨b,o+q,none⟩) m (c - q),.int .i64 0] 111)) none HJW.out (only_alloc (only_of_below hb none) _) (fun r e=>by cases e));obtain ⟨fn,tmps,assign,body,hy,hR⟩:=HY.out _ HJ1.out HLN.out;simp only [stepV,errV] at hy;clear hb CF)
    refine hR.mono ?_
    rintro e W3 (⟨rfl,hJ3,hk3⟩ | ⟨rfl,hJx3⟩)
    ·have HK3:=Lib.hid hk3
     have HJ3:=Lib.hid hJ3
     clear hk3 hJ3 hR hy
     gi_wp2
     go_roundw
     case rel=>
      have hb3:Below n₀ wr W3:=((HB.out.mono HNR.out).alloc (by have:=HB.out.size;have:=HNR.out;omega) _).trans HK3.out
      exact ⟨p+k,_,HK.out,HE2.out,HEV,HJ3.out,HDR.out.keep hb3 hl,Nat.le_trans HNR.out hb3.size⟩
     case measure=>have h1:=HK0.out;have h2:=HK.out;show d.length - p - k < d.length - p;omega
    ·gi_wp2
     refine bodyPost_ret (results_none rfl _ _ _) rfl ?_
     exact ⟨⟨_,rfl⟩,.inr ⟨_,by rw [HEV.out];exact List.prefix_append _ _,hJx3⟩⟩
  ·have e:Dl.evs d p=[]:=Dl.evs_end (by omega)
   have e2:d.length - p=0:=by omega
   have HE2:=HE.out
   rw [e,List.append_nil] at HE2
   have HE3:=Lib.hid HE2
   rw [e2]
   clear e e2 HE2
   gi_wp2
   go_end0
   exact ⟨⟨_,rfl⟩,.inl ⟨_,rfl,by rw [HE3.out];exact hJs⟩⟩
theorem steps_any (v:Value) (w:World) (hv:∃ A n c,v=.slice A n c) :
  Calls Tryz.prog 96 #[v] w fun e w'=>e=.returned (.func (.func 111) #[] #[.pointer (some ⟨w.heap.size,0,none⟩)])∧w'=w.alloc (.cells #[v] 25):=by
 obtain ⟨A,m,c,rfl⟩:=hv
 go_enter Tryz.func96,Tryz.ntmps96
 go_wp2
 go_ret
 exact ⟨rfl,rfl⟩
theorem steps_stops (n:Nat) (hn:1≤n) (Bd n₀:Nat) (d:List Nat) (b o c:Nat) (aS aF:Addr) (w:World)
  (hl:b < n₀∧3 < n₀∧5 < n₀) (hn0:n₀≤w.heap.size) (h4:4≤d.length)
  (hBd:w.cell? ⟨Bd,0,none⟩=some (.slice (some ⟨b,o,none⟩) d.length c)) (hD:DIn w d b o c aS aF) :
  SeqStopsK Fence.wide n Tryz.prog 111 #[.pointer (some ⟨Bd,0,none⟩)] (fun x:Dl.Ev=>#[stepV b o c (Dl.norm d x),errV aS aF (Dl.norm d x)]) (Below n₀) (fun ys=>ys=Dl.evs d 4) (fun pre=>pre <+: Dl.evs d 4) (Dl.evs d 4).length w:=fun l J Jx W hW hJ _ hY h0=>
 steps1_in n hn l Bd n₀ d b o c aS aF J Jx W hl (Nat.le_trans hn0 hW.size) hJ h4 hY ((hW.cell (p:=⟨Bd,0,none⟩) (block_lt_of_cell hBd)).trans hBd) (hD.below hW (Nat.le_refl _)) h0
end Go.Proofs.YtndgadjeeinedaaGreatDoor
/- Rows for a region whose stores come behind all its loads: what is held on the world is held up to the first store only. -/
namespace Go.Proofs.YtndgadjeeinedaaGreatDoor
open Go Go.RowKit
section
variable {P:Program} {ops:Array Oper} {Q:Exit→Act→World→Prop} {md:Region.Mode} {S:World→Prop} {b:Nat}
def Upto (P:Program) (md:Region.Mode) (ops:Array Oper) (Q:Exit→Act→World→Prop) (S:World→Prop) (b:Nat):Nat→Array Bool→Act→World→Prop
 | 0,ls,a,w=>Region.ready md ops ls=[]∧Q .normal a w
 | n+1,ls,a,w=>(Region.ready md ops ls=[]→Q .normal a w)∧∀ j∈Region.ready md ops ls,wpOp P ops Q j (fun a' w'=>(j≠b→ls.getD b true=false→S w')∧Upto P md ops Q S b n (ls.setIfInBounds j true) a' w') a w
theorem Upto.any:∀ (n:Nat) (ls:Array Bool) (a:Act) (w:World),Upto P md ops Q S b n ls a w→wpAny P md ops Q n ls a w
 | 0,_,_,_,h=>h
 | n+1,_,_,_,h=>⟨h.1,fun j hj=>wpOp_mono (fun a' w' k=>Upto.any n _ a' w' k.2) (h.2 j hj)⟩
def waits (md:Region.Mode) (ops:Array Oper) (b i:Nat):Bool:=match ops[b]? with
 | some o=>o.after.any fun e=>Region.binds md e && e.on == i
 | none=>false
theorem not_b {ls:Array Bool} {i j:Nat} (hw:waits md ops b i=true) (hi:i∈Region.ready md ops ls) (hj:j∈Region.ready md ops ls):j≠b:=fun e=>by
 subst e
 obtain ⟨_,o,ho,hall⟩:=mem_ready.1 hj
 unfold waits at hw
 rw [ho] at hw
 obtain ⟨k,hk,hke⟩:=Array.any_eq_true.1 hw
 simp at hke
 have h1:=hall _ (Array.getElem_mem hk) hke.1
 have h0:=(mem_ready.1 hi).1
 rw [hke.2] at h1
 rcases Nat.lt_or_ge i ls.size with h' | h'
 ·simp [h'] at h0 h1;rw [h0] at h1;cases h1
 ·simp [Array.getElem?_eq_none h'] at h1
theorem Upto.first {i:Nat} {oi:Oper} {v:Value} (hi:ops[i]? = some oi) (hsel:∀ (j:Nat) (o:Oper) cs b,ops[j]? = some o→o.op≠.select cs b)
  (hQ:∀ c a w,Q (.panic c) (a.put oi.dst v) w→Q (.panic c) a w) (hw:waits md ops b i=true) (hib:i≠b) :
  ∀ (n:Nat) (ls:Array Bool) (a:Act) (w:World),ls.getD b true=false →
   (∀ j oj,ops[j]? = some oj→j≠i→ls.getD j true=false→(∀ e∈oj.after,Region.binds md e=true→e.on≠i)→oi.apart ops oj=true) →
   i∈Region.ready md ops ls→YieldsIf P ops S oi v a→S w→Upto P md ops Q S b n (ls.setIfInBounds i true) (a.put oi.dst v) w→Upto P md ops Q S b (n+1) ls a w:=by
 intro n
 induction n with
 | zero=>
  intro ls a w _ _ hr hy hS H
  refine ⟨fun h=>(by rw [h] at hr;cases hr),fun j hj=>?_⟩
  by_cases hji:j=i
  ·subst hji;exact hy.wpOp hi hS ⟨fun _ _=>hS,H⟩
  ·have:=ready_mono hj hji
   rw [H.1] at this
   cases this
 | succ n ih=>
  intro ls a w hlb hfree hr hy hS H
  refine ⟨fun h=>(by rw [h] at hr;cases hr),fun j hj=>?_⟩
  by_cases hji:j=i
  ·subst hji;exact hy.wpOp hi hS ⟨fun _ _=>hS,H⟩
  ·have hjb:=not_b hw hr hj
   have h1:=H.2 j (ready_mono hj hji)
   obtain ⟨hun,oj,hoj,hall⟩:=mem_ready.1 hj
   have hno:∀ e∈oj.after,Region.binds md e=true→e.on≠i:=fun e he hb heq=>by
    have h1:=hall e he hb
    have h0:=(mem_ready.1 hr).1
    rw [heq] at h1
    rcases Nat.lt_or_ge i ls.size with h' | h'
    ·simp [h'] at h0 h1;rw [h0] at h1;cases h1
    ·simp [Array.getElem?_eq_none h'] at h1
   have h2:=wpOp_putIf hoj (hfree j oj hoj hji hun hno) (fun cs b=>hsel i oi cs b hi) (fun cs b=>hsel j oj cs b hoj) hQ hy h1
   refine wpOp_mono (fun a' w' h3=>?_) h2
   have hb1:(ls.setIfInBounds i true).getD b true=false:=by rw [getD_set_ne true hib];exact hlb
   have hS':=h3.2.1 hjb hb1
   refine ⟨fun _ _=>hS',ih (ls.setIfInBounds j true) a' w' (by rw [getD_set_ne true hjb];exact hlb) (fun k ok hk hki hku hkn=>hfree k ok hk hki (by
    by_cases hjk:j=k
    ·subst hjk;exact hun
    ·rwa [getD_set_ne true hjk] at hku) hkn) (ready_mono hr (Ne.symm hji)) h3.1 hS' ?_⟩
   rw [Array.setIfInBounds_comm _ _ hji]
   exact h3.2.2
theorem Upto.take {i:Nat} {oi:Oper} {v:Value} {n:Nat} {ls:Array Bool} {a:Act} {w:World} (hi:ops[i]? = some oi) (hs:Region.noSelect ops=true) (hf:Region.free md ops ls i=true) (hr:(Region.ready md ops ls).contains i=true)
  (hb:(ls.getD b true == false && waits md ops b i && i != b)=true) (hQ:∀ c a w,Q (.panic c) (a.put oi.dst v) w→Q (.panic c) a w) (hy:YieldsIf P ops S oi v a) (hS:S w) (h:Upto P md ops Q S b n (ls.setIfInBounds i true) (a.put oi.dst v) w):Upto P md ops Q S b (n+1) ls a w:=by
 simp at hb
 exact Upto.first hi (Region.noSelect_spec hs) hQ hb.1.2 hb.2 n ls a w (by simpa using hb.1.1) (Region.free_spec hi hf) (by simpa using hr) hy hS h
theorem Upto.firstY {i:Nat} {oi:Oper} {v:Value} (hi:ops[i]? = some oi) (hsel:∀ (j:Nat) (o:Oper) cs b,ops[j]? = some o→o.op≠.select cs b)
  (hQ:∀ c a w,Q (.panic c) (a.put oi.dst v) w→Q (.panic c) a w) (hib:i≠b) :
  ∀ (n:Nat) (ls:Array Bool) (a:Act) (w:World),(ls.getD b true=false→S w) →
   (∀ j oj,ops[j]? = some oj→j≠i→ls.getD j true=false→(∀ e∈oj.after,Region.binds md e=true→e.on≠i)→oi.apart ops oj=true) →
   i∈Region.ready md ops ls→YieldsIf P ops (fun _=>True) oi v a→Upto P md ops Q S b n (ls.setIfInBounds i true) (a.put oi.dst v) w→Upto P md ops Q S b (n+1) ls a w:=by
 intro n
 induction n with
 | zero=>
  intro ls a w hlb _ hr hy H
  refine ⟨fun h=>(by rw [h] at hr;cases hr),fun j hj=>?_⟩
  by_cases hji:j=i
  ·subst hji;exact hy.wpOp hi trivial ⟨fun _=>hlb,H⟩
  ·have:=ready_mono hj hji
   rw [H.1] at this
   cases this
 | succ n ih=>
  intro ls a w hlb hfree hr hy H
  refine ⟨fun h=>(by rw [h] at hr;cases hr),fun j hj=>?_⟩
  by_cases hji:j=i
  ·subst hji;exact hy.wpOp hi trivial ⟨fun _=>hlb,H⟩
  ·have h1:=H.2 j (ready_mono hj hji)
   obtain ⟨hun,oj,hoj,hall⟩:=mem_ready.1 hj
   have hno:∀ e∈oj.after,Region.binds md e=true→e.on≠i:=fun e he hb heq=>by
    have h1:=hall e he hb
    have h0:=(mem_ready.1 hr).1
    rw [heq] at h1
    rcases Nat.lt_or_ge i ls.size with h' | h'
    ·simp [h'] at h0 h1;rw [h0] at h1;cases h1
    ·simp [Array.getElem?_eq_none h'] at h1
   have h2:=wpOp_putIf hoj (hfree j oj hoj hji hun hno) (fun cs b=>hsel i oi cs b hi) (fun cs b=>hsel j oj cs b hoj) hQ hy h1
   refine wpOp_mono (fun a' w' h3=>?_) h2
   have hS':j≠b→ls.getD b true=false→S w':=fun hjb hl=>h3.2.1 hjb (by rw [getD_set_ne true hib];exact hl)
   refine ⟨hS',ih (ls.setIfInBounds j true) a' w' (fun hl=>?_) (fun k ok hk hki hku hkn=>hfree k ok hk hki (by
    by_cases hjk:j=k
    ·subst hjk;exact hun
    ·rwa [getD_set_ne true hjk] at hku) hkn) (ready_mono hr (Ne.symm hji)) h3.1 ?_⟩
   ·by_cases hjb:j=b
    ·subst hjb
     rcases Nat.lt_or_ge j ls.size with h' | h'
     ·simp [h'] at hl
     ·simp [Array.getElem?_eq_none h'] at hun
    ·exact hS' hjb (by rwa [getD_set_ne true hjb] at hl)
   ·rw [Array.setIfInBounds_comm _ _ hji]
    exact h3.2.2
theorem Upto.takeY {i:Nat} {oi:Oper} {v:Value} {n:Nat} {ls:Array Bool} {a:Act} {w:World} (hi:ops[i]? = some oi) (hs:Region.noSelect ops=true) (hf:Region.free md ops ls i=true) (hr:(Region.ready md ops ls).contains i=true)
  (hb:(i != b)=true) (hQ:∀ c a w,Q (.panic c) (a.put oi.dst v) w→Q (.panic c) a w) (hy:YieldsIf P ops (fun _=>True) oi v a) (hS:ls.getD b true=false→S w) (h:Upto P md ops Q S b n (ls.setIfInBounds i true) (a.put oi.dst v) w):Upto P md ops Q S b (n+1) ls a w:=by
 simp at hb
 exact Upto.firstY hi (Region.noSelect_spec hs) hQ hb n ls a w hS (Region.free_spec hi hf) (by simpa using hr) hy h
theorem Upto.one {i:Nat} {oi:Oper} {n:Nat} {ls:Array Bool} {a:Act} {w:World} (hr:Region.ready md ops ls=[i]) (hi:ops[i]? = some oi) (wi:Region.wanted oi (yielded ops a.tmps)=true)
  (h1:∀ K:Act→World→Prop,(∀ a' w',(i≠b→ls.getD b true=false→S w')→Upto P md ops Q S b n (ls.setIfInBounds i true) a' w'→K a' w')→oi.wp P a w K Q):Upto P md ops Q S b (n+1) ls a w:=by
 refine ⟨fun h0=>by rw [hr] at h0;simp at h0,fun k hk=>?_⟩
 rw [hr] at hk
 obtain rfl:=List.mem_singleton.1 hk
 unfold wpOp
 simp only [hi,wi,if_true]
 exact Or.inl (h1 (fun a' w'=>(k≠b→ls.getD b true=false→S w')∧Upto P md ops Q S b n (ls.setIfInBounds k true) a' w') fun _ _ hs hh=>⟨hs,hh⟩)
theorem Upto.done {ls:Array Bool} {a:Act} {w:World} (hr:Region.ready md ops ls=[]) (h:Q .normal a w):∀ n,Upto P md ops Q S b n ls a w
 | 0=>⟨hr,h⟩
 | _+1=>⟨fun _=>h,by rw [hr];simp⟩
theorem wp_region_upto {id:Nat} {a:Act} {w:World} (hm:P.follows .mixedOrders=true)
  (h:Upto P .any ops Q S b ops.size (Array.replicate ops.size false) a { w with drawn:=w.drawn+1 }):(Code.region id ops true).wp P Q a w:=
 wp_region_any hm (Upto.any _ _ _ _ h)
end
end Go.Proofs.YtndgadjeeinedaaGreatDoor
/- A region in a round of a loop over an iterator: what is walked outside a fence holds in the round. -/
namespace Go.Proofs.YtndgadjeeinedaaGreatDoor
open Go Go.RowKit
theorem rowsIn_round {n l:Nat} {P:Program} {row:String} {args:Array Value} {w:World} {R:Value→World→Prop} (h:Rows P row args w R):RowsIn (Fence.wide.inRound l) n P row args w R:=
 fun c cs _=>let ⟨v,w',r,s⟩:=h c cs;⟨v,w',r,stepsIn_wide.2 s⟩
theorem callsIn_round {n l:Nat} {P:Program} {f:FuncId} {args:Array Value} {w:World} {R:Ending→World→Prop} (h:Calls P f args w R):CallsIn (Fence.wide.inRound l) n P f args w R:=
 CallsIn.inRound l (callsIn_wide.2 h)
theorem operIn_round {n l:Nat} {P:Program} {o:Oper} {a:Act} {w:World} {K:Act→World→Prop} {Q:Exit→Act→World→Prop} (hd:∀ c,o.op≠.defer c) (h:o.wp P a w K Q):o.wpIn (Fence.wide.inRound l) n P a w K Q:=by
 unfold Oper.wpIn
 refine ⟨fun _ _=>trivial,?_⟩
 rw [Fence.inRound_round,Oper.semAt_some l _ _ hd]
 unfold Oper.wp at h
 generalize (execOp a.eval o).run P w=r at h
 cases r with
 | ok x w'=>
  cases x with
  | enter f args=>exact ⟨(fun e=>by cases e),callsIn_round h⟩
  | row r args=>exact ⟨(fun e=>by cases e),rowsIn_round h⟩
  | round _ _ _ _ _=>exact h.elim
  | _=>exact h
 | halt x w'=>cases x<;>exact h
theorem anyIn_round {n l:Nat} {P:Program} {md:Region.Mode} {ops:Array Oper} {Q:Exit→Act→World→Prop} (hd:∀ o∈ops,∀ c,o.op≠.defer c) (hno:¬LetsOut Q) :
  ∀ (fuel:Nat) (listed:Array Bool) (a:Act) (w:World),wpAny P md ops Q fuel listed a w→wpAnyIn (Fence.wide.inRound l) n P md ops Q fuel listed a w
 | 0,_,_,_,h=>h
 | fuel+1,listed,a,w,h=>by
  refine ⟨h.1,fun i hi=>?_⟩
  have h1:=h.2 i hi
  unfold wpOp at h1
  unfold wpOpIn
  cases ho:ops[i]? with
  | none=>
   rw [ho] at h1
   exact anyIn_round hd hno fuel _ _ _ h1
  | some o=>
   rw [ho] at h1
   simp only at h1 ⊢
   have hm:o∈ops:=Array.mem_of_getElem? ho
   split
   ·rename_i hw
    rw [if_pos hw] at h1
    rcases h1 with h1 | h1
    ·exact Oper.wpIn_mono (fun a w h=>anyIn_round hd hno fuel _ a w h) (operIn_round (hd o hm) h1)
    ·exact absurd h1.2 hno
   ·rename_i hw
    rw [if_neg hw] at h1
    exact ⟨fun _ _=>trivial,anyIn_round hd hno fuel _ _ _ h1⟩
theorem regionIn_still {m l id:Nat} {P:Program} {Q:Exit→Act→World→Prop} {a:Act} {w:World} {os:List Oper} (n:Nat) (hm:P.follows .mixedOrders=true) (hB:Region.lexTailB .any os.toArray n=true) (hd:∀ o∈os,∀ c,o.op≠.defer c) (hno:¬LetsOut Q)
  (h:wpStill P os.toArray w.drew (fun a'=>wpList P os.toArray Q (os.drop n) a' w.drew) (os.take n) a):(Code.region id os.toArray true).wpIn (Fence.wide.inRound l) m P Q a w:=by
 unfold Region.lexTailB at hB
 simp only [Bool.and_eq_true,decide_eq_true_eq] at hB
 have e1:os.toArray.size=os.length:=List.size_toArray
 have hlen:n < os.length:=e1▸hB.1.1.1.2
 have e2:(os.take n).length=n:=by rw [List.length_take];omega
 have start:HeadInv .any os.toArray n (Array.replicate os.toArray.size false):={
  size:=by simp
  closed:=fun j oj _ hl=>by rw [getD_replicate_false] at hl;cases hl
  tail:=fun t _ ht=>by simp [Array.getD] at ht ⊢;exact ht }
 have hl:=hB.2
 rw [←e2] at hl
 have H:=wpAnyL_lex hB.1.1.1.1 hB.1.1.2 hB.1.2 hB.1.1.1.2 (os.take n) 0 _ a (fun j hj=>by rw [List.getElem?_take,if_pos (by omega)];simp) (by omega) start (by rw [e2] at hl ⊢;exact hl) h
 have fin:=wpAny_of_head (Q':=Q) (g:=(os.drop n).length) (fun ls a' ⟨hs,hq⟩=>wpAny_of_seq (os.drop n) n ls a' w.drew (fun j=>by rw [List.getElem?_drop];simp) (by rw [List.length_drop,←e1];exact hs) hq) _ _ _ H
 rw [e2,List.length_drop,show n+(os.length - n)=os.toArray.size by omega] at fin
 exact wpIn_region_any hm (anyIn_round (fun o ho=>hd o (by simpa using ho)) hno _ _ _ _ fin)
theorem listIn_round {n l:Nat} {P:Program} {ops:Array Oper} {o:Oper} {rest:List Oper} {Q:Exit→Act→World→Prop} {a:Act} {w:World} (hg:o.guard=none) (hd:∀ c,o.op≠.defer c)
  (h:o.wp P a w (wpListIn (Fence.wide.inRound l) n P ops Q rest) Q):wpListIn (Fence.wide.inRound l) n P ops Q (o::rest) a w:=by
 unfold wpListIn
 rw [if_pos (by simp [Region.wanted,hg])]
 exact operIn_round hd h
end Go.Proofs.YtndgadjeeinedaaGreatDoor
