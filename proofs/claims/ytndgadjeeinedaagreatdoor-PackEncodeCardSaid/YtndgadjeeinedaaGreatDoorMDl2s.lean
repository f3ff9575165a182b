/- Numbers of two bytes, the sizes, a delta's first step. -/
import Derived.Test.YtndgadjeeinedaaGreatDoorMByts
import Derived.Test.YtndgadjeeinedaaGreatDoorMOct8s
import Derived.Test.YtndgadjeeinedaaGreatDoorMErrs
import Derived.Deep.QuietTactic
import Derived.BigQuiet
import Derived.WalkSpells
import Derived.RegionTactic
import Derived.ChangeAlike
import Derived.RangeFuncOwn
namespace Go.Proofs.YtndgadjeeinedaaGreatDoor
open Go Go.RowKit
theorem i64_or (a b:Nat) (ha:a < 256) (hb:b < 256):bits .or .i64 ((a:Int) * 256) (b:Int)=((a * 256+b:Nat):Int):=by
 have e:a * 256 ||| b=a * 256+b:=by rw [Nat.mul_comm];exact (Nat.two_pow_add_eq_or_of_lt (i:=8) (by omega) a).symm
 have h1:bits .or .i64 ((a:Int) * 256) (b:Int)=IntKind.i64.wrap ((BitVec.ofInt 64 ((a * 256:Nat):Int) ||| BitVec.ofInt 64 (b:Int)).toNat:Int):=by rw [Int.natCast_mul];rfl
 rw [h1,BitVec.toNat_or,ofInt_u 64 (a * 256) (by omega),ofInt_u 64 b (by omega),e]
 exact IntWalk.i64_in _ (by omega)
theorem dnumber_any (A:Option Addr) (n c:Nat) (xs:List Nat) (w:World) (h:Rd w (.slice A n c) xs) (hb:Sha.Byte xs) (h2:2≤xs.length) :
  Calls Tryz.prog 110 #[.slice A n c] w fun e w'=>e=.returned (.int .i64 (Dl.two xs 0:Nat))∧∃ m,w'=w.drewN m:=by
 obtain ⟨A',c',hv,hc,hA⟩:=h
 injection hv with e1 e2 e3
 subst e1 e3
 obtain rfl:=e2
 obtain ⟨b,o,rfl,_,hx⟩:=hA (by omega)
 have x0:w.cell? ⟨b,o,none⟩=_:=hx 0 (by omega)
 have x1:=hx 1 (by omega)
 have i0:0 < xs.length:=by omega
 have j0:1 < xs.length:=by omega
 have p1:=hb 0
 have q1:=hb 1
 have HE:=Lib.hid (show bits .or .i64 ((xs.getD 0 0:Nat) * 256) ((xs.getD 1 0:Nat):Int)=(Dl.two xs 0:Nat) from i64_or _ _ p1 q1)
 obtain ⟨r,hr⟩:∃ r,r=Dl.two xs 0:=⟨_,rfl⟩
 rw [←hr] at HE ⊢
 clear hr hb
 generalize xs.getD 0 0=p at x0 p1 HE
 generalize xs.getD 1 0=q at x1 q1 HE
 generalize hn:xs.length=n at *
 clear hx hA
 go_enter Tryz.func110,Tryz.ntmps110
 go_wp2
 go_quiet (fail)
 go_wp2
 go_ret
 exact ⟨by rw [←HE.out];rfl,_,rfl⟩
theorem kp_below {W W1:World} (h:Below W.heap.size W W1):KeepsOthers W W1:=
 ⟨h.size,fun k _o hk _=>(h.block k (Array.getElem?_eq_some_iff.1 hk).1).trans hk⟩
theorem kp_own {a b c:World} {B size n:Nat} {T:TypeId} {v:Value} {xs:List Value} (h:KeepsOthers a b) (ho:b.ownsRow B T size v n xs) (k:b.grownBy c v.ownBlock):KeepsOthers a c:=
 h.trans (KeepsOthers.of_grownBy k fun j o ej hj=>by
  rcases ho.2 with ⟨rfl,_⟩ | ⟨g,cap,cur,rfl,_,hgb,_⟩
  ·simp [Value.ownBlock] at ej
  ·obtain rfl:g=j:=by simpa [Value.ownBlock] using ej
   rw [hgb] at hj;cases hj;rfl)
def Dl.Oth (w w':World):Prop:=(∀ (p:Nat) (cs:Array Value) (T:TypeId) (z:Nat×Nat),T≠5→w.heap[p]? = some (Obj.cells cs T z)→w'.heap[p]? = some (Obj.cells cs T z))∧KeepsOthers w w'
theorem Dl.Oth.refl (w:World):Dl.Oth w w:=⟨fun _ _ _ _ _ h=>h,kp_below (Below.refl _ w)⟩
theorem Dl.Oth.trans {a b c:World} (h:Dl.Oth a b) (k:Dl.Oth b c):Dl.Oth a c:=⟨fun p cs T z n e=>k.1 p cs T z n (h.1 p cs T z n e),h.2.trans k.2⟩
theorem Dl.Oth.alloc {a b:World} (h:Dl.Oth a b) (o:Obj):Dl.Oth a (b.alloc o):=⟨fun p cs T z n e=>by
 have h1:=h.1 p cs T z n e
 exact (Below.heap_alloc b o p (Array.getElem?_eq_some_iff.1 h1).1).trans h1,h.2.trans (kp_below ((Below.refl _ b).alloc (Nat.le_refl _) o))⟩
theorem Dl.Oth.own {a b c:World} {B size n:Nat} {v:Value} {xs:List Value} (h:Dl.Oth a b) (ho:b.ownsRow B 5 size v n xs) (k:b.grownBy c v.ownBlock):Dl.Oth a c:=⟨fun p cs T z hT e=>by
 have h1:=h.1 p cs T z hT e
 refine (k.block p (Array.getElem?_eq_some_iff.1 h1).1 ?_).trans h1
 intro hp
 rcases ho.2 with ⟨rfl,_⟩ | ⟨g,cap,cur,rfl,_,hh,_⟩
 ·cases hp
 ·cases hp
  rw [hh] at h1
  cases h1
  exact hT rfl,kp_own h.2 ho k⟩
set_option maxRecDepth 100000 in
theorem dputNumber_any (v0:Value) (ys0:List Nat) (B n:Nat) (wb w:World) (hB:wb.heap.size=B) (hP0:Pad B wb v0 ys0 w) (hn:n≤65535) (hz:ys0.length≤1099511627776) :
  Calls Tryz.prog 48 #[v0,.int .i64 (n:Int)] w fun e w'=>∃ v',e=.returned v'∧Pad B wb v' (ys0++[n / 256,n % 256]) w'∧Dl.Oth w w':=by
 have HP:=Lib.hid hP0
 have HB:=Lib.hid hB
 clear hB
 obtain ⟨A3,c3,rfl⟩:=hP0.len
 clear hP0
 obtain ⟨x,hx⟩:∃ x,x=n / 256:=⟨_,rfl⟩
 obtain ⟨y,hy⟩:∃ y,y=n % 256:=⟨_,rfl⟩
 rw [←hx,←hy]
 have HX:Hid ((n:Int) / 256=(x:Int)):=Lib.hid (by rw [hx];simp)
 have HY:Hid ((n:Int) % 256=(y:Int)):=Lib.hid (by rw [hy];simp)
 have x1:(x:Int) < 256:=by omega
 have y1:(y:Int) < 256:=by omega
 clear hx hy
 have HOA:Hid ((w.alloc (.cells (u8s [x,y]) 5)).ownsRow B 5 1 (.slice A3 ys0.length c3) ys0.length (cellsB ys0)):=Lib.hid (ownsRow_alloc HP.out.own _)
 have HB3:=Lib.hid (HP.out.bel.alloc (HB.out▸HP.out.bel.size) (.cells (u8s [x,y]) 5))
 have HRM:=Lib.hid (rd_of_lit w [x,y] 5 (by simp))
 have HZ2:=Lib.hid (show ys0.length+[x,y].length≤70368744177664 by simp;omega)
 have HO:=Lib.hid ((Dl.Oth.refl w).alloc (.cells (u8s [x,y]) 5))
 go_enter Tryz.func48,Tryz.ntmps48
 go_wp2_with (rw [HX.out,HY.out];refine wpList_appendB rfl (.tmp 5) (.tmp 11) rfl B _ ys0 rfl HOA.out (HB.out▸HB3.out.size) _ rfl [x,y] HRM.out HZ2.out ?_;intro v2 w2 ho2 hg2;have HP2:Hid (Pad B wb v2 (ys0++[x,y]) w2):=Lib.hid ⟨ho2,below_ownB HB.out HB3.out HOA.out hg2⟩;have HO2:=Lib.hid (HO.out.own HOA.out hg2);clear ho2 hg2)
 go_ret
 exact ⟨_,rfl,HP2.out,HO2.out⟩
theorem Rd.blk {w:World} {A:Option Addr} {n c:Nat} {xs:List Nat} (h:Rd w (.slice A n c) xs) (h0:0 < xs.length) :
  n=xs.length∧n≤c∧∃ b o,A=some ⟨b,o,none⟩∧b < w.heap.size∧∀ i,i < xs.length→w.cell? ⟨b,o+i,none⟩=some (.int .u8 ((xs.getD i 0:Nat):Int)):=by
 obtain ⟨A',c',hv,hc,hA⟩:=h
 injection hv with e1 e2 e3
 subst e1 e2 e3
 obtain ⟨b,o,e,hb,hx⟩:=hA h0
 exact ⟨rfl,hc,b,o,e,hb,hx⟩
theorem sl_lo (b o len cap l : Nat) (w : World) (h1 : l ≤ len) (h2 : l < cap) {lo : Int} (el : lo = l) :
    (Instr.slice 25 (.slice (some ⟨b, o, none⟩) len cap) (some (.int .i64 lo)) none none).run Tryz.prog w = .ok (.slice (some ⟨b, o + l, none⟩) (len - l) (cap - l)) w := by
  subst el
  cases hq : Tryz.prog.info? 5 with
  | none => have h : (Tryz.prog.info? 5).map (·.size) = some 1 := by kernel_rfl
            simp [hq] at h
  | some i =>
    have hs : i.size = 1 := by have h : (Tryz.prog.info? 5).map (·.size) = some 1 := by kernel_rfl
                               simpa [hq] using h
    have hn : ((l : Nat) : Int) ≤ len := by omega
    have hc : ¬ cap = l := by omega
    simp [Instr.slice, run_underlying Tryz.underlying25, Instr.sliceBounds, run_sliceBound, sizeOf, typeInfo, hq, hs, hn, hc, Addr.add_mid]
theorem sl_lohi (b o len cap l h : Nat) (w : World) (h1 : l ≤ h) (h2 : h ≤ cap) (h3 : l < cap) {lo hi : Int} (el : lo = l) (eh : hi = h) :
    (Instr.slice 25 (.slice (some ⟨b, o, none⟩) len cap) (some (.int .i64 lo)) (some (.int .i64 hi)) none).run Tryz.prog w = .ok (.slice (some ⟨b, o + l, none⟩) (h - l) (cap - l)) w := by
  subst el eh
  cases hq : Tryz.prog.info? 5 with
  | none => have h : (Tryz.prog.info? 5).map (·.size) = some 1 := by kernel_rfl
            simp [hq] at h
  | some i =>
    have hs : i.size = 1 := by have h : (Tryz.prog.info? 5).map (·.size) = some 1 := by kernel_rfl
                               simpa [hq] using h
    have hn : ((l : Nat) : Int) ≤ h := by omega
    have hm : ((h : Nat) : Int) ≤ cap := by omega
    have hc : ¬ cap = l := by omega
    simp [Instr.slice, run_underlying Tryz.underlying25, Instr.sliceBounds, run_sliceBound, sizeOf, typeInfo, hq, hs, hn, hm, hc, Addr.add_mid]
set_option maxRecDepth 100000 in
theorem sizes_short (A:Option Addr) (c:Nat) (d:List Nat) (aS:Addr) (w:World) (h:d.length < 4) (hS:w.cell? ⟨3,0,none⟩=some (ev aS)) :
  Calls Tryz.prog 95 #[.slice A d.length c] w fun e w'=>e=.returned (.tuple #[.int .i64 0,.int .i64 0,ev aS])∧∃ m,w'=w.drewN m:=by
 have h1:(d.length:Int) < 4:=by omega
 generalize d.length=n at *
 clear h
 go_enter Tryz.func95,Tryz.ntmps95
 go_wp2
 go_quiet (fail)
 go_wp2
 go_ret3
 exact ⟨rfl,_,rfl⟩
set_option maxRecDepth 100000 in
theorem sizes_any (A:Option Addr) (n c:Nat) (d:List Nat) (w:World) (h:Rd w (.slice A n c) d) (hb:Sha.Byte d) (h4:4≤d.length) :
  Calls Tryz.prog 95 #[.slice A n c] w fun e w'=>e=.returned (.tuple #[.int .i64 (Dl.two d 0:Nat),.int .i64 (Dl.two d 2:Nat),.nilIface])∧∃ m,w'=w.drewN m:=by
 obtain ⟨rfl,hc,b,o,rfl,hbw,hx⟩:=h.blk (by omega)
 have C1:∀ k,Calls Tryz.prog 110 #[.slice (some ⟨b,o,none⟩) d.length c] (w.drewN k) fun e w'=>e=.returned (.int .i64 (Dl.two d 0:Nat))∧∃ m,w'=(w.drewN k).drewN m:=fun k=>
  dnumber_any _ _ _ d _ (h.below (below_drewN (Below.refl _ w) k) (Nat.le_refl _)) hb (by omega)
 have C2:∀ k,Calls Tryz.prog 110 #[.slice (some ⟨b,o+2,none⟩) (d.length - 2) (c - 2)] (w.drewN k) fun e w'=>e=.returned (.int .i64 (Dl.two d 2:Nat))∧∃ m,w'=(w.drewN k).drewN m:=fun k=>by
  have h2:=(h.below (below_drewN (Below.refl _ w) k) (Nat.le_refl _)).cut (k:=2) (by omega)
  rw [if_neg (by omega)] at h2
  have e:Dl.two d 2=Dl.two (d.drop 2) 0:=by unfold Dl.two Dl.at0;rw [Sha.getD_drop,Sha.getD_drop]
  rw [e]
  exact dnumber_any _ _ _ (d.drop 2) _ h2 (fun i=>by rw [Sha.getD_drop];exact hb _) (by rw [List.length_drop];omega)
 have S1:∀ w',(Instr.slice 25 (.slice (some ⟨b,o,none⟩) d.length c) (some (.int .i64 2)) none none).run Tryz.prog w'=.ok (.slice (some ⟨b,o+2,none⟩) (d.length - 2) (c - 2)) w':=fun w'=>sl_lo b o _ _ 2 w' (by omega) (by omega) rfl
 have h1:¬(d.length:Int) < 4:=by omega
 obtain ⟨x,hx⟩:∃ x,x=Dl.two d 0:=⟨_,rfl⟩
 obtain ⟨y,hy⟩:∃ y,y=Dl.two d 2:=⟨_,rfl⟩
 rw [←hx] at C1 ⊢
 rw [←hy] at C2 ⊢
 generalize d.length=n at *
 clear hx hy hb h
 go_enter Tryz.func95,Tryz.ntmps95
 go_wp2
 go_quiet (first | (go_at_call 110;with_reducible exact Calls.quiet_of (C1 _)) | (go_at_call 110;with_reducible exact Calls.quiet_of (C2 _)))
 go_wp2
 go_ret3
 exact ⟨rfl,_,rfl⟩
def stepV (b o c:Nat):Dl.Ev→Value
 | .bad _=>.agg #[.int .i64 0,.slice none 0 0,.int .i64 0]
 | .copy n f=>.agg #[.int .i64 (n:Int),.slice none 0 0,.int .i64 (f:Int)]
 | .fresh n p=>.agg #[.int .i64 (n:Int),.slice (some ⟨b,o+p,none⟩) n (c - p),.int .i64 0]
def errV (aS aF:Addr):Dl.Ev→Value
 | .bad true=>ev aS
 | .bad false=>ev aF
 | _=>.nilIface
theorem andNot_128 (x:Nat) (h:x < 256):bits .andNot .u8 (x:Int) 128=((x % 128:Nat):Int):=by
 have:∀ k:Fin 256,bits .andNot .u8 ((k.val:Nat):Int) 128=((k.val % 128:Nat):Int):=by decide +kernel
 exact this ⟨x,h⟩
set_option maxRecDepth 100000 in
set_option maxHeartbeats 1000000 in
theorem first_form (d:List Nat) (p b o c:Nat) (aS aF:Addr) (w:World) (hp:p < d.length) (hx:w.cell? ⟨b,o+p,none⟩=some (.int .u8 ((Dl.at0 d p:Nat):Int))) (hb:Dl.at0 d p < 256)
  (hF:w.cell? ⟨5,0,none⟩=some (ev aF)) (h0:Dl.at0 d p % 128=0) :
  Calls Tryz.prog 112 #[.slice (some ⟨b,o+p,none⟩) (d.length - p) (c - p)] w fun e w'=>e=.returned (.tuple #[stepV b o c (Dl.evAt d p).1,.int .i64 ((Dl.evAt d p).2:Nat),errV aS aF (Dl.evAt d p).1])∧Below w.heap.size w w':=by
 have he:Dl.evAt d p=(.bad false,0):=by unfold Dl.evAt;rw [if_pos h0]
 rw [he]
 have hbw:=block_lt_of_cell hx
 have hFl:=block_lt_of_cell hF
 have b1:=andNot_128 _ hb
 rw [h0] at b1
 obtain ⟨n,hn⟩:∃ n,n=d.length - p:=⟨_,rfl⟩
 have hn0:0 < n:=by omega
 rw [←hn]
 generalize c - p=c2
 generalize o+p=o2 at *
 generalize Dl.at0 d p=x at *
 clear hn hp h0
 go_enter Tryz.func112,Tryz.ntmps112
 go_wp2
 go_region
 all_goals go_wp2
 exact bodyPost_ret (v:=.tuple #[.agg #[.int .i64 0,.slice none 0 0,.int .i64 0],.int .i64 0,ev aF]) (by simp [results,Tryz.results112,go_sem]) rfl ⟨rfl,below_drewN ((Below.refl _ w).alloc (Nat.le_refl _) _) 1⟩
set_option maxRecDepth 100000 in
set_option maxHeartbeats 1000000 in
theorem first_short1 (d:List Nat) (p b o c:Nat) (aS aF:Addr) (w:World) (hp:p < d.length) (hx:w.cell? ⟨b,o+p,none⟩=some (.int .u8 ((Dl.at0 d p:Nat):Int))) (hb:Dl.at0 d p < 256)
  (hS:w.cell? ⟨3,0,none⟩=some (ev aS)) (h0:Dl.at0 d p % 128≠0) (h1:Dl.at0 d p < 128) (h2:d.length < p+1+Dl.at0 d p) :
  Calls Tryz.prog 112 #[.slice (some ⟨b,o+p,none⟩) (d.length - p) (c - p)] w fun e w'=>e=.returned (.tuple #[stepV b o c (Dl.evAt d p).1,.int .i64 ((Dl.evAt d p).2:Nat),errV aS aF (Dl.evAt d p).1])∧Below w.heap.size w w':=by
 have he:Dl.evAt d p=(.bad true,0):=by unfold Dl.evAt;rw [if_neg h0,if_pos h1,if_pos h2]
 rw [he]
 have hbw:=block_lt_of_cell hx
 have hFl:=block_lt_of_cell hS
 have b1:=andNot_128 _ hb
 rw [show Dl.at0 d p % 128=Dl.at0 d p by omega] at b1
 obtain ⟨n,hn⟩:∃ n,n=d.length - p:=⟨_,rfl⟩
 have hn0:0 < n:=by omega
 rw [←hn]
 generalize c - p=c2
 generalize o+p=o2 at *
 generalize Dl.at0 d p=x at *
 have g0:((x:Int) == 0)=false:=by simp;omega
 have g1:¬(128:Int) < x:=by omega
 have g2:(n:Int) < 1+x:=by omega
 have g3:(x:Int) < 256:=by omega
 clear hn hp h0 h1 h2 hb
 go_enter Tryz.func112,Tryz.ntmps112
 go_wp2
 go_region
 all_goals go_wp2
 exact bodyPost_ret (v:=.tuple #[.agg #[.int .i64 0,.slice none 0 0,.int .i64 0],.int .i64 0,ev aS]) (by simp [results,Tryz.results112,go_sem]) rfl ⟨rfl,below_drewN ((Below.refl _ w).alloc (Nat.le_refl _) _) 1⟩
set_option maxRecDepth 100000 in
set_option maxHeartbeats 1000000 in
theorem first_short2 (d:List Nat) (p b o c:Nat) (aS aF:Addr) (w:World) (hp:p < d.length) (hx:w.cell? ⟨b,o+p,none⟩=some (.int .u8 ((Dl.at0 d p:Nat):Int))) (hb:Dl.at0 d p < 256)
  (hS:w.cell? ⟨3,0,none⟩=some (ev aS)) (h0:Dl.at0 d p % 128≠0) (h1:¬Dl.at0 d p < 128) (h2:d.length < p+3) :
  Calls Tryz.prog 112 #[.slice (some ⟨b,o+p,none⟩) (d.length - p) (c - p)] w fun e w'=>e=.returned (.tuple #[stepV b o c (Dl.evAt d p).1,.int .i64 ((Dl.evAt d p).2:Nat),errV aS aF (Dl.evAt d p).1])∧Below w.heap.size w w':=by
 have he:Dl.evAt d p=(.bad true,0):=by unfold Dl.evAt;rw [if_neg h0,if_neg h1,if_pos h2]
 rw [he]
 have hbw:=block_lt_of_cell hx
 have hFl:=block_lt_of_cell hS
 have b1:=andNot_128 _ hb
 obtain ⟨y,hy⟩:∃ y,y=Dl.at0 d p % 128:=⟨_,rfl⟩
 rw [←hy] at b1
 obtain ⟨n,hn⟩:∃ n,n=d.length - p:=⟨_,rfl⟩
 have hn0:0 < n:=by omega
 rw [←hn]
 generalize c - p=c2
 generalize o+p=o2 at *
 generalize Dl.at0 d p=x at *
 have g0:((y:Int) == 0)=false:=by simp;omega
 have g1:(128:Int) < x:=by omega
 have g2:(n:Int) < 3:=by omega
 have g3:(y:Int) < 256:=by omega
 clear hn hp h0 h1 h2 hb hy
 go_enter Tryz.func112,Tryz.ntmps112
 go_wp2
 go_region
 all_goals go_wp2
 exact bodyPost_ret (v:=.tuple #[.agg #[.int .i64 0,.slice none 0 0,.int .i64 0],.int .i64 0,ev aS]) (by simp [results,Tryz.results112,go_sem]) rfl ⟨rfl,below_drewN ((Below.refl _ w).alloc (Nat.le_refl _) _) 1⟩
set_option maxRecDepth 100000 in
set_option maxHeartbeats 1000000 in
theorem first_fresh (d:List Nat) (p b o c:Nat) (aS aF:Addr) (w:World) (hp:p < d.length) (hx:w.cell? ⟨b,o+p,none⟩=some (.int .u8 ((Dl.at0 d p:Nat):Int))) (hb:Dl.at0 d p < 256)
  (hc:d.length≤c) (h0:Dl.at0 d p % 128≠0) (h1:Dl.at0 d p < 128) (h2:¬d.length < p+1+Dl.at0 d p) :
  Calls Tryz.prog 112 #[.slice (some ⟨b,o+p,none⟩) (d.length - p) (c - p)] w fun e w'=>e=.returned (.tuple #[stepV b o c (Dl.evAt d p).1,.int .i64 ((Dl.evAt d p).2:Nat),errV aS aF (Dl.evAt d p).1])∧Below w.heap.size w w':=by
 have he:Dl.evAt d p=(.fresh (Dl.at0 d p) (p+1),1+Dl.at0 d p):=by unfold Dl.evAt;rw [if_neg h0,if_pos h1,if_neg h2]
 rw [he]
 have hbw:=block_lt_of_cell hx
 have b1:=andNot_128 _ hb
 rw [show Dl.at0 d p % 128=Dl.at0 d p by omega] at b1
 obtain ⟨n,hn⟩:∃ n,n=d.length - p:=⟨_,rfl⟩
 have hn0:0 < n:=by omega
 rw [←hn]
 clear he
 generalize Dl.at0 d p=x at *
 obtain ⟨c2,hc2⟩:∃ c2,c2=c - p:=⟨_,rfl⟩
 have HV:=Lib.hid (show stepV b o c (.fresh x (p+1))=.agg #[.int .i64 (x:Int),.slice (some ⟨b,(o+p)+1,none⟩) x (c2 - 1),.int .i64 0] by
  simp only [stepV];rw [hc2,show o+(p+1)=o+p+1 by omega,show c - (p+1)=c - p - 1 by omega])
 rw [←hc2]
 generalize o+p=o2 at *
 have S1:∀ w',(Instr.slice 25 (.slice (some ⟨b,o2,none⟩) n c2) (some (.int .i64 1)) (some (.int .i64 (1+(x:Int)))) none).run Tryz.prog w'=.ok (.slice (some ⟨b,o2+1,none⟩) x (c2 - 1)) w':=fun w'=>by
  have h:=sl_lohi b o2 n c2 1 (1+x) w' (by omega) (by omega) (by omega) (lo:=1) (hi:=1+(x:Int)) rfl (by omega)
  rwa [show 1+x - 1=x by omega] at h
 have g0:((x:Int) == 0)=false:=by simp;omega
 have g1:¬(128:Int) < x:=by omega
 have g2:¬(n:Int) < 1+x:=by omega
 have g3:(x:Int) < 256:=by omega
 clear hn hp h0 h1 h2 hb hc2 hc
 go_enter Tryz.func112,Tryz.ntmps112
 go_wp2
 exact bodyPost_ret (v:=.tuple #[.agg #[.int .i64 (x:Int),.slice (some ⟨b,o2+1,none⟩) x (c2 - 1),.int .i64 0],.int .i64 (1+(x:Int)),.nilIface]) (by simp [results,Tryz.results112,go_sem]) rfl ⟨by rw [HV.out];simp [errV],(Below.refl _ w).alloc (Nat.le_refl _) _⟩
set_option maxRecDepth 100000 in
set_option maxHeartbeats 1000000 in
theorem first_copy (d:List Nat) (p b o c:Nat) (aS aF:Addr) (w:World) (_hp:p < d.length) (hx:w.cell? ⟨b,o+p,none⟩=some (.int .u8 ((Dl.at0 d p:Nat):Int))) (hb:Dl.at0 d p < 256)
  (hc:d.length≤c) (hby:Sha.Byte d) (hcs:∀ i,i < d.length→w.cell? ⟨b,o+i,none⟩=some (.int .u8 ((d.getD i 0:Nat):Int))) (h0:Dl.at0 d p % 128≠0) (h1:¬Dl.at0 d p < 128) (h2:¬d.length < p+3) :
  Calls Tryz.prog 112 #[.slice (some ⟨b,o+p,none⟩) (d.length - p) (c - p)] w fun e w'=>e=.returned (.tuple #[stepV b o c (Dl.evAt d p).1,.int .i64 ((Dl.evAt d p).2:Nat),errV aS aF (Dl.evAt d p).1])∧Below w.heap.size w w':=by
 have he:Dl.evAt d p=(.copy (Dl.at0 d p - 128) (Dl.two d (p+1)),3):=by unfold Dl.evAt;rw [if_neg h0,if_neg h1,if_neg h2]
 rw [he]
 have hbw:=block_lt_of_cell hx
 have b1:=andNot_128 _ hb
 rw [show Dl.at0 d p % 128=Dl.at0 d p - 128 by omega] at b1
 have CN:∀ w',Below w.heap.size w w'→Calls Tryz.prog 110 #[.slice (some ⟨b,o+p+1,none⟩) (d.length - p - 1) (c - p - 1)] w' fun e w''=>e=.returned (.int .i64 (Dl.two d (p+1):Nat))∧∃ m,w''=w'.drewN m:=fun w' hw=>by
  have e:Dl.two d (p+1)=Dl.two (d.drop (p+1)) 0:=by unfold Dl.two Dl.at0;rw [Sha.getD_drop,Sha.getD_drop]
  have hr:Rd w' (.slice (some ⟨b,o+p+1,none⟩) (d.length - p - 1) (c - p - 1)) (d.drop (p+1)):=by
   refine ⟨_,c - p - 1,by rw [List.length_drop,Nat.sub_sub],by rw [List.length_drop];omega,fun _=>⟨b,o+p+1,rfl,Nat.lt_of_lt_of_le hbw hw.size,fun i hi=>?_⟩⟩
   rw [List.length_drop] at hi
   rw [Sha.getD_drop,show o+p+1+i=o+(p+1+i) by omega]
   exact (hw.cell (p:=⟨b,o+(p+1+i),none⟩) hbw).trans (hcs (p+1+i) (by omega))
  rw [e]
  exact dnumber_any _ _ _ (d.drop (p+1)) w' hr (fun i=>by rw [Sha.getD_drop];exact hby _) (by rw [List.length_drop];omega)
 obtain ⟨n,hn⟩:∃ n,n=d.length - p:=⟨_,rfl⟩
 have hn0:0 < n:=by omega
 rw [←hn] at CN ⊢
 obtain ⟨y,hy⟩:∃ y,y=Dl.at0 d p - 128:=⟨_,rfl⟩
 obtain ⟨f,hf⟩:∃ f,f=Dl.two d (p+1):=⟨_,rfl⟩
 rw [←hf] at CN ⊢
 rw [←hy] at b1 ⊢
 obtain ⟨c2,hc2⟩:∃ c2,c2=c - p:=⟨_,rfl⟩
 rw [←hc2] at CN ⊢
 generalize o+p=o2 at *
 have S1:∀ w',(Instr.slice 25 (.slice (some ⟨b,o2,none⟩) n c2) (some (.int .i64 1)) none none).run Tryz.prog w'=.ok (.slice (some ⟨b,o2+1,none⟩) (n - 1) (c2 - 1)) w':=fun w'=>sl_lo b o2 n c2 1 w' (by omega) (by omega) rfl
 generalize Dl.at0 d p=x at *
 have g0:((y:Int) == 0)=false:=by simp;omega
 have g1:(128:Int) < x:=by omega
 have g2:¬(n:Int) < 3:=by omega
 have g3:(y:Int) < 256:=by omega
 clear hn _hp h0 h1 h2 hb hy hf hc2 hc he hcs hby
 go_enter Tryz.func112,Tryz.ntmps112
 go_wp2_with (go_at_call 110;refine (CN _ ((Below.refl _ w).alloc (Nat.le_refl _) _)).mono ?_;rintro e w' ⟨rfl,m,rfl⟩)
 exact bodyPost_ret (v:=.tuple #[.agg #[.int .i64 (y:Int),.slice none 0 0,.int .i64 (f:Int)],.int .i64 3,.nilIface]) (by simp [results,Tryz.results112,go_sem]) rfl ⟨rfl,(((below_drewN ((Below.refl _ w).alloc (Nat.le_refl _) _) m).setCell (p:=⟨w.heap.size,0,none⟩) (Nat.le_refl _) _).setCell (p:=⟨w.heap.size,1,none⟩) (Nat.le_refl _) _).setCell (p:=⟨w.heap.size,2,none⟩) (Nat.le_refl _) _⟩
structure DIn (w:World) (d:List Nat) (b o c:Nat) (aS aF:Addr):Prop where
 len:d.length≤c
 byt:Sha.Byte d
 blk:b < w.heap.size
 cel:∀ i,i < d.length→w.cell? ⟨b,o+i,none⟩=some (.int .u8 ((d.getD i 0:Nat):Int))
 short:w.cell? ⟨3,0,none⟩=some (ev aS)
 form:w.cell? ⟨5,0,none⟩=some (ev aF)
theorem DIn.below {w w':World} {d:List Nat} {b o c:Nat} {aS aF:Addr} (h:DIn w d b o c aS aF) {B:Nat} (hb:Below B w w') (hB:w.heap.size≤B):DIn w' d b o c aS aF:=
 ⟨h.len,h.byt,Nat.lt_of_lt_of_le h.blk hb.size,fun i hi=>(hb.cell (p:=⟨b,o+i,none⟩) (Nat.lt_of_lt_of_le h.blk hB)).trans (h.cel i hi),
  (hb.cell (p:=⟨3,0,none⟩) (Nat.lt_of_lt_of_le (block_lt_of_cell h.short) hB)).trans h.short,(hb.cell (p:=⟨5,0,none⟩) (Nat.lt_of_lt_of_le (block_lt_of_cell h.form) hB)).trans h.form⟩
theorem first_any (d:List Nat) (p b o c:Nat) (aS aF:Addr) (w:World) (h:DIn w d b o c aS aF) (hp:p < d.length) :
  Calls Tryz.prog 112 #[.slice (some ⟨b,o+p,none⟩) (d.length - p) (c - p)] w fun e w'=>e=.returned (.tuple #[stepV b o c (Dl.evAt d p).1,.int .i64 ((Dl.evAt d p).2:Nat),errV aS aF (Dl.evAt d p).1])∧Below w.heap.size w w':=by
 by_cases h0:Dl.at0 d p % 128=0
 ·exact first_form d p b o c aS aF w hp (h.cel p hp) (h.byt p) h.form h0
 ·by_cases h1:Dl.at0 d p < 128
  ·by_cases h2:d.length < p+1+Dl.at0 d p
   ·exact first_short1 d p b o c aS aF w hp (h.cel p hp) (h.byt p) h.short h0 h1 h2
   ·exact first_fresh d p b o c aS aF w hp (h.cel p hp) (h.byt p) h.len h0 h1 h2
  ·by_cases h2:d.length < p+3
   ·exact first_short2 d p b o c aS aF w hp (h.cel p hp) (h.byt p) h.short h0 h1 h2
   ·exact first_copy d p b o c aS aF w hp (h.cel p hp) (h.byt p) h.len h.byt h.cel h0 h1 h2
end Go.Proofs.YtndgadjeeinedaaGreatDoor
