/- delta.Make: the delta from a base to a target. -/
import Derived.Test.YtndgadjeeinedaaGreatDoorMDl14s
import Derived.Test.YtndgadjeeinedaaGreatDoorMByts
import Derived.Laws.AppendOwn
import Derived.Deep.MidRow
import Derived.Test.YtndgadjeeinedaaGreatDoorMBases
import Derived.Test.YtndgadjeeinedaaGreatDoorMDl6s
import Derived.Lib.SlBytesConst
namespace Go.Proofs.YtndgadjeeinedaaGreatDoor
open Go Go.RowKit Go.Shelf
attribute [local go_sem] Oper.semAt_some
theorem copies_any (v1 v2:Value) (w:World) (hv1:∃ A n c,v1=.slice A n c) (hv2:∃ A n c,v2=.slice A n c) :
  Calls Tryz.prog 49 #[v1,v2] w fun e w'=>e=.returned (.func (.func 72) #[] #[.pointer (some ⟨w.heap.size+1,0,none⟩),.pointer (some ⟨w.heap.size,0,none⟩)])∧w'=(w.alloc (.cells #[v1] 25)).alloc (.cells #[v2] 25):=by
 obtain ⟨A,m,c,rfl⟩:=hv1
 obtain ⟨A2,m2,c2,rfl⟩:=hv2
 go_enter Tryz.func49,Tryz.ntmps49
 go_wp2
 go_ret
 exact ⟨rfl,rfl⟩
theorem Dl.u8_or (x:Nat) (h:x < 128):bits .or .u8 128 (x:Int)=((128+x:Nat):Int):=by
 have e:128 ||| x=128+x:=by have:=(Nat.two_pow_add_eq_or_of_lt (i:=7) h 1).symm;simpa using this
 have h1:bits .or .u8 128 (x:Int)=IntKind.u8.wrap ((BitVec.ofInt 8 ((128:Nat):Int) ||| BitVec.ofInt 8 (x:Int)).toNat:Int):=rfl
 rw [h1,BitVec.toNat_or,ofInt_u 8 128 (by omega),ofInt_u 8 x (by omega),e]
 unfold IntKind.wrap
 simp [IntKind.signed,IntKind.bits]
 omega
theorem Dl.u8_wrap (n:Nat) (h:n < 256):IntKind.u8.wrap (n:Int)=(n:Int):=by
 unfold IntKind.wrap
 simp [IntKind.signed,IntKind.bits]
 omega
def MkI (base target:List Nat) (B b6 b7 b3 bB bT:Nat) (bv tv:Value) (w:World) (pre:List (Nat×Nat×Nat)) (W:World):Prop:=
 ((∃ v,Boxed W b6 25 v∧W.ownsRow B 5 1 v (Dl.mkA target (Dl.front base target,0) pre).1.length (cellsB (Dl.mkA target (Dl.front base target,0) pre).1)∧True) ∧
  (Boxed W b7 3 (.int .i64 ((Dl.mkA target (Dl.front base target,0) pre).2:Nat))∧Boxed W b3 25 tv∧Boxed W bB 25 bv∧Boxed W bT 25 tv))∧Below B w W
theorem MkI.own (base target:List Nat) (B b6 b7 b3 bB bT B0:Nat) (bv tv:Value) (w:World) (h1:B≤w.heap.size) (h2:B≤B0):OwnFrom B0 (MkI base target B b6 b7 b3 bB bT bv tv w):=
 OwnFrom.and (OwnFrom.and (Own.from (holdsRow_own B b6 25 5 1 (fun pre=>(Dl.mkA target (Dl.front base target,0) pre).1.length) (fun pre=>cellsB (Dl.mkA target (Dl.front base target,0) pre).1) (fun _ _=>True)) B0)
  (OwnFrom.and (fun _ _X _Y _row hs hg hr=>Blk.keptFrom (cs:=#[.int .i64 _]) hs hg (fun r e=>(hr r e).2)) (OwnFrom.and (boxed_from B0 _ _ _) (OwnFrom.and (boxed_from B0 _ _ _) (boxed_from B0 _ _ _))))) (ownFrom_below h1 h2)
theorem Dl.fr_len (text:List Nat):(Dl.fr text).length≤2 * text.length:=by
 rw [Dl.fr_eq,Dl.frp_len text _ 0 (Nat.le_refl _)]
 have:=Dl.chk_len text.length 0
 omega
theorem Dl.mkA_len {base target:List Nat}:∀ {l rest:List (Nat×Nat×Nat)} {told:Nat} {b:List Nat},Dl.okL base target told (l++rest)→(Dl.mkA target (b,told) l).1.length≤b.length+2 * ((Dl.mkA target (b,told) l).2 - told)∧told≤(Dl.mkA target (b,told) l).2
 | [],_,_,_,_=>⟨by simp [Dl.mkA],Nat.le_refl _⟩
 | (p,n,f)::l,rest,told,b,h=>by
  obtain ⟨h1,h2,h3,h4,h5,h6,h7⟩:=h
  obtain ⟨a1,a2⟩:=Dl.mkA_len (l:=l) (rest:=rest) (told:=p+n) (b:=b++Dl.fr ((target.drop told).take (p - told))++[128+n]++[f / 256,f % 256]) h7
  have hf:=Dl.fr_len ((target.drop told).take (p - told))
  have hl:((target.drop told).take (p - told)).length=p - told:=by rw [List.length_take,List.length_drop];omega
  rw [hl] at hf
  simp only [List.length_append,List.length_cons,List.length_nil] at a1
  refine ⟨Nat.le_trans a1 ?_,Nat.le_trans (by omega) a2⟩
  have e:(Dl.mkA target (b,told) ((p,n,f)::l)).2=(Dl.mkA target (b++Dl.fr ((target.drop told).take (p - told))++[128+n]++[f / 256,f % 256],p+n) l).2:=rfl
  rw [e]
  omega
def Dl.Ob (Bb:Nat) (W W':World):Prop:=Near Bb W W'∧KeepsOthers W W'
theorem Dl.Ob.trans {Bb:Nat} {a b c:World} (h:Dl.Ob Bb a b) (k:Dl.Ob Bb b c):Dl.Ob Bb a c:=⟨h.1.trans k.1,h.2.trans k.2⟩
theorem Dl.Ob.of {Bb:Nat} {a b:World} (h:Dl.Oth a b):Dl.Ob Bb a b:=⟨fun p cs T z hT _ e=>h.1 p cs T z hT e,h.2⟩
theorem Dl.Ob.set (Bb:Nat) (a:World) (v:Value):Dl.Ob Bb a (a.setCell ⟨Bb,0,none⟩ v):=⟨fun p _cs _T _z _ hp e=>(Below.heap_setCell a ⟨Bb,0,none⟩ v p hp).trans e,KeepsOthers.setCell _ _ _⟩
theorem Dl.Ob.box {Bb k:Nat} {a b:World} {T:TypeId} {v:Value} (h:Dl.Ob Bb a b) (hb:Boxed a k T v) (hT:T≠5) (hk:k≠Bb):Boxed b k T v:=h.1 k _ _ _ hT hk hb
theorem oth_put {B Bb:Nat} {wb W w5:World} {v v':Value} {ys:List Nat} (hO:Dl.Oth W w5) (hb:Boxed W Bb 25 v) (hP:Pad B wb v' ys w5) (hB:B≤Bb) :
  Boxed w5 Bb 25 v∧Boxed (w5.setCell ⟨Bb,0,none⟩ v') Bb 25 v'∧Pad B wb v' ys (w5.setCell ⟨Bb,0,none⟩ v')∧Dl.Ob Bb W (w5.setCell ⟨Bb,0,none⟩ v'):=by
 have h5:Boxed w5 Bb 25 v:=hO.1 _ _ _ _ (by decide) hb
 exact ⟨h5,h5.set _,⟨hP.own.kept (grownBy_setCell' w5 Bb v') (.inr (h5.not_row (by decide) hP.own).symm),hP.bel.setCell (p:=⟨Bb,0,none⟩) hB _⟩,(Dl.Ob.of hO).trans (Dl.Ob.set _ _ _)⟩
theorem below_mid {B:Nat} {a b c:World} (h1:Below B a b) (h2:Below B a c) (hs:b.heap.size≤c.heap.size):Below B b c:=
 ⟨h2.os.trans h1.os.symm,h2.tape.trans h1.tape.symm,h2.output.trans h1.output.symm,hs,fun k hk=>(h2.block k hk).trans (h1.block k hk).symm⟩
theorem sl_rest (A:Option Addr) (n c:Nat) (xs:List Nat) (w:World) (h:Rd w (.slice A n c) xs) (k:Nat) (hk:k≤n) :
  ∃ A' c',(∀ w',(Instr.slice 25 (.slice A n c) (some (.int .i64 (k:Int))) none none).run Tryz.prog w'=.ok (.slice A' (n - k) c') w')∧Rd w (.slice A' (n - k) c') (xs.drop k):=by
 have en:n=xs.length:=by obtain ⟨_,_,hv,_⟩:=h;injection hv
 by_cases hlt:k < n
 ·obtain ⟨rfl,hc,b,o,rfl,hb,hx⟩:=h.blk (by omega)
  have h2:=h.cut (k:=k) (by omega)
  rw [if_neg (by omega),Option.map_some,Addr.add_mid] at h2
  exact ⟨some ⟨b,o+k,none⟩,c - k,fun w'=>sl_lo b o _ c k w' hk (by omega) rfl,h2⟩
 ·obtain ⟨A',h1⟩:=sl_any A n c k hk (lo:=(k:Int)) rfl
  refine ⟨A',c - k,h1,?_⟩
  rw [List.drop_eq_nil_of_le (by omega),show n - k=0 by omega]
  exact ⟨A',c - k,rfl,Nat.zero_le _,fun h=>absurd h (by simp)⟩
theorem dsl_mid (A:Option Addr) (n c:Nat) (xs:List Nat) (w:World) (h:Rd w (.slice A n c) xs) (k p:Nat) (hk:k≤p) (hp:p < n) :
  ∃ A' c',(∀ w',(Instr.slice 25 (.slice A n c) (some (.int .i64 (k:Int))) (some (.int .i64 (p:Int))) none).run Tryz.prog w'=.ok (.slice A' (p - k) c') w')∧Rd w (.slice A' (p - k) c') ((xs.drop k).take (p - k)):=by
 have en:n=xs.length:=by obtain ⟨_,_,hv,_⟩:=h;injection hv
 obtain ⟨rfl,hc,b,o,rfl,hb,hx⟩:=h.blk (by omega)
 have h2:=h.cut (k:=k) (by omega)
 rw [if_neg (by omega),Option.map_some,Addr.add_mid] at h2
 exact ⟨some ⟨b,o+k,none⟩,c - k,fun w'=>sl_lohi b o _ c k p w' hk (by omega) (by omega) rfl rfl,h2.cutHi (by rw [List.length_drop];omega)⟩
set_option maxRecDepth 100000 in
set_option maxHeartbeats 2000000 in
theorem dmake_any (bv tv:Value) (base target:List Nat) (w:World) (hB:Rd w bv base) (hT:Rd w tv target) (bb:Sha.Byte base) (bt:Sha.Byte target) (lb:base.length≤300) (lt:target.length≤300) (hm:∃ m,w.cell? ⟨23,0,none⟩=some (.int .i64 m)) :
  Calls Tryz.prog 24 #[bv,tv] w fun e w'=>∃ v,e=.returned (.tuple #[v,.nilIface])∧Pad w.heap.size w v (Dl.mk base target) w':=by
 have HB:=Lib.hid hB
 have HT:=Lib.hid hT
 obtain ⟨A,cb,rfl,_,_⟩:=hB
 obtain ⟨A2,ct,rfl,_,_⟩:=hT
 have PN1:Calls Tryz.prog 48 #[.slice none 0 0,.int .i64 (base.length:Int)] (w.alloc (.cells #[.slice A2 target.length ct] 25)) _:=
  dputNumber_any (.slice none 0 0) [] w.heap.size base.length w _ rfl ⟨World.ownsRow_nil _ _ _ _,(Below.refl _ w).alloc (Nat.le_refl _) _⟩ (by omega) (by simp)
 have PN2:=fun v ys w' (h:Pad w.heap.size w v ys w') (hz:ys.length≤1000)=>dputNumber_any v ys w.heap.size target.length w w' rfl h (by omega) (by omega)
 obtain ⟨nb,hnb⟩:∃ nb,nb=base.length:=⟨_,rfl⟩
 obtain ⟨nt,hnt⟩:∃ nt,nt=target.length:=⟨_,rfl⟩
 rw [←hnb] at PN1 lb ⊢
 rw [←hnt] at PN1 PN2 lt ⊢
 have HNB:=Lib.hid hnb
 have HNT:=Lib.hid hnt
 have g1:decide ((300:Int) < max (nb:Int) (nt:Int))=false:=by simp;omega
 have g2:¬(300:Int) < max (nb:Int) (nt:Int):=by omega
 have g3:max (nb:Int) (nt:Int)≤300:=by omega
 clear hnb hnt
 refine (callsIn_wide (n:=4)).1 ?_
 refine callsIn_of_wp_marks Tryz.func24 rfl trivial ?_ rfl
 simp only [Tryz.ntmps24,List.size_toArray,List.length_cons,List.length_nil,Nat.reduceAdd,Nat.reduceSub,Array.replicate_succ,Array.replicate_zero,List.push_toArray,List.append_toArray,List.nil_append,List.cons_append]
 gi_wp2_with (first
  | (refine ⟨trivial,?_⟩;gi_at_call 48;refine (callsIn_wide.2 PN1).mono ?_;rintro e w2 ⟨v2,rfl,hP2,hO2⟩;obtain ⟨A3,c3,rfl⟩:=hP2.len;have HP2:Hid (Pad w.heap.size w (.slice A3 2 c3) [nb / 256,nb % 256] w2):=Lib.hid hP2;have hsz2:w.heap.size < w2.heap.size:=Nat.lt_of_lt_of_le (by simp) hO2.2.size;have b3:Boxed w2 w.heap.size 25 (.slice A2 nt ct):=hO2.1 _ _ _ _ (by decide) (Boxed.new w 25 (.slice A2 nt ct));have HB3:=Lib.hid b3;have c3b:=(b3.alloc (.cells #[.slice A3 2 c3] 25)).cell;have HB6:=Lib.hid (Boxed.new w2 25 (.slice A3 2 c3));have PN3:=PN2 (.slice A3 2 c3) [nb / 256,nb % 256] (w2.alloc (.cells #[.slice A3 2 c3] 25)) ⟨ownsRow_alloc HP2.out.own _,HP2.out.bel.alloc HP2.out.bel.size _⟩ (by simp);clear hP2 hO2 b3 PN1))
 refine ⟨trivial,?_⟩
 gi_at_call 48
 refine (callsIn_wide.2 PN3).mono ?_
 rintro e w4 ⟨v4,rfl,hP4,hO4⟩
 obtain ⟨A4,c4,rfl⟩:=hP4.len
 have HP4:Hid (Pad w.heap.size w (.slice A4 4 c4) ([nb / 256,nb % 256]++[nt / 256,nt % 256]) w4):=Lib.hid hP4
 have hsz4:w2.heap.size < w4.heap.size:=Nat.lt_of_lt_of_le (by simp) hO4.2.size
 have b3:Boxed w4 w.heap.size 25 (.slice A2 nt ct):=hO4.1 _ _ _ _ (by decide) (HB3.out.alloc _)
 have b6:Boxed w4 w2.heap.size 25 (.slice A3 2 c3):=hO4.1 _ _ _ _ (by decide) HB6.out
 have c6:=b6.cell
 have f6:=b6.frozen
 have HB3':=Lib.hid b3
 have HB6':=Lib.hid b6
 have hne:w2.heap.size≠w.heap.size:=by omega
 have c3d:=b3.cell
 clear hP4 hO4 b3 b6 c3b PN3 PN2
 have c3e:((w4.setCell ⟨w2.heap.size,0,none⟩ (.slice A4 4 c4)).alloc (.cells #[.int .i64 0] 3)).cell? ⟨w.heap.size,0,none⟩=some (.slice A2 nt ct):=((bxPast HB3'.out (by omega) _).alloc _).cell
 gi_wp2_with (refine ⟨trivial,?_⟩;gi_at_call 49;refine (callsIn_wide.2 (copies_any _ _ _ ⟨_,_,_,rfl⟩ ⟨_,_,_,rfl⟩)).mono ?_;rintro e w' ⟨rfl,rfl⟩)
 have n6:Boxed ((((w4.setCell ⟨w2.heap.size,0,none⟩ (.slice A4 4 c4)).alloc (.cells #[.int .i64 0] 3)).alloc (.cells #[.slice A nb cb] 25)).alloc (.cells #[.slice A2 nt ct] 25)) w2.heap.size 25 (.slice A4 4 c4):=(((Boxed.set _ HB6'.out).alloc _).alloc _).alloc _
 have n3:=(((bxPast HB3'.out (Ne.symm hne) (.slice A4 4 c4)).alloc (.cells #[.int .i64 0] 3)).alloc (.cells #[.slice A nb cb] 25)).alloc (.cells #[.slice A2 nt ct] 25)
 have n7:=((Boxed.new (w4.setCell ⟨w2.heap.size,0,none⟩ (.slice A4 4 c4)) 3 (.int .i64 0)).alloc (.cells #[.slice A nb cb] 25)).alloc (.cells #[.slice A2 nt ct] 25)
 have nB:=(Boxed.new ((w4.setCell ⟨w2.heap.size,0,none⟩ (.slice A4 4 c4)).alloc (.cells #[.int .i64 0] 3)) 25 (.slice A nb cb)).alloc (.cells #[.slice A2 nt ct] 25)
 have nT:=Boxed.new (((w4.setCell ⟨w2.heap.size,0,none⟩ (.slice A4 4 c4)).alloc (.cells #[.int .i64 0] 3)).alloc (.cells #[.slice A nb cb] 25)) 25 (.slice A2 nt ct)
 have how:=ownsRow_alloc (ownsRow_alloc (ownsRow_alloc (HP4.out.own.kept (grownBy_setCell' w4 w2.heap.size (.slice A4 4 c4)) (.inr (HB6'.out.not_row (by decide) HP4.out.own).symm)) (.cells #[.int .i64 0] 3)) (.cells #[.slice A nb cb] 25)) (.cells #[.slice A2 nt ct] 25)
 have hbl:Below w.heap.size w ((((w4.setCell ⟨w2.heap.size,0,none⟩ (.slice A4 4 c4)).alloc (.cells #[.int .i64 0] 3)).alloc (.cells #[.slice A nb cb] 25)).alloc (.cells #[.slice A2 nt ct] 25)):=(((HP4.out.bel.setCell (p:=⟨w2.heap.size,0,none⟩) (by show w.heap.size≤w2.heap.size;omega) _).alloc (by simp;omega) _).alloc (by simp;omega) _).alloc (by simp;omega) _
 have hsz:((((w4.setCell ⟨w2.heap.size,0,none⟩ (.slice A4 4 c4)).alloc (.cells #[.int .i64 0] 3)).alloc (.cells #[.slice A nb cb] 25)).alloc (.cells #[.slice A2 nt ct] 25)).heap.size=w4.heap.size+3:=by simp
 simp only [World.size_alloc,World.size_setCell] at n7 nB nT
 generalize ((((w4.setCell ⟨w2.heap.size,0,none⟩ (.slice A4 4 c4)).alloc (.cells #[.int .i64 0] 3)).alloc (.cells #[.slice A nb cb] 25)).alloc (.cells #[.slice A2 nt ct] 25))=W0 at *
 have HX:Hid (w.heap.size=w.heap.size∧Below w.heap.size w W0∧Rd w (.slice A nb cb) base∧Rd w (.slice A2 nt ct) target∧∃ m,w.cell? ⟨23,0,none⟩=some (.int .i64 m)):=Lib.hid ⟨rfl,hbl,by rw [HNB.out];exact HB.out,by rw [HNT.out];exact HT.out,hm⟩
 have hCI:CIn W0 (w4.heap.size+1) (w4.heap.size+1+1) (.slice A nb cb) (.slice A2 nt ct) base target:=by
  obtain ⟨_,_,r1,r2,m,h5⟩:=HX.out
  exact ⟨nB,nT,r1.below hbl (Nat.le_refl _),r2.below hbl (Nat.le_refl _),m,(hbl.cell (p:=⟨23,0,none⟩) (block_lt_of_cell h5)).trans h5⟩
 have RUN:=copies1_runs 3 (w4.heap.size+1) (w4.heap.size+1+1) w.heap.size (.slice A nb cb) (.slice A2 nt ct) base target W0 w hCI bb bt (by rw [←HNB.out];exact lb) (by rw [←HNT.out];exact lt) HX.out
 have HOW:Hid (W0.ownsRow w.heap.size 5 1 (.slice A4 4 c4) (Dl.front base target).length (cellsB (Dl.front base target))):=Lib.hid (by unfold Dl.front;rw [←HNB.out,←HNT.out];exact how)
 have HBL:=Lib.hid hbl
 clear how hCI hbl c3e c3d c6 f6 HB6 HB3
 refine range_runs (Kp:=KpC w.heap.size (w4.heap.size+1) (w4.heap.size+1+1)) (lb:=#[.pointer (some ⟨w4.heap.size+1+1,0,none⟩),.pointer (some ⟨w4.heap.size+1,0,none⟩)]) rfl (enters_of Tryz.func72 (by kernel_rfl) rfl) RUN (Below.refl _ _) (fun h k=>h.trans k)
  (KpC.put (by omega) (by omega) (by omega)) (fun _=>rfl)
  (MkI base target w.heap.size w2.heap.size w4.heap.size w.heap.size (w4.heap.size+1) (w4.heap.size+1+1) (.slice A nb cb) (.slice A2 nt ct) w) (MkI.own _ _ _ _ _ _ _ _ _ _ _ _ (Nat.le_refl _) (by omega))
  ⟨⟨⟨_,n6,HOW.out,trivial⟩,n7,n3,nB,nT⟩,HBL.out⟩
  (fun x a' W=>∃ Bx,w.heap.size≤Bx∧Blk W Bx 111 #[.int .i64 (x.2.1:Int),.slice none 0 0,.int .i64 (x.2.2:Int)]∧a'={ tmps:=#[.slice A nb cb,.slice A2 nt ct,undef,.pointer (some ⟨w.heap.size,0,none⟩),.slice none 0 0,.nilIface,.pointer (some ⟨w2.heap.size,0,none⟩),.pointer (some ⟨w4.heap.size,0,none⟩),.int .i64 (x.1:Int),.pointer (some ⟨Bx,0,none⟩),.slice A nb cb,.int .i64 (nb:Int),.slice A2 nt ct,.int .i64 (nt:Int),.int .i64 (max (nb:Int) (nt:Int)),.bool false,undef,.slice A nb cb,.int .i64 (nb:Int),.slice A3 2 c3,.slice A3 2 c3,.slice A2 nt ct,.int .i64 (nt:Int),.slice A4 4 c4,.slice A nb cb,.slice A2 nt ct,.func (.func 72) #[] #[.pointer (some ⟨w4.heap.size+1+1,0,none⟩),.pointer (some ⟨w4.heap.size+1,0,none⟩)],.int .i64 (x.1:Int),.agg #[.int .i64 (x.2.1:Int),.slice none 0 0,.int .i64 (x.2.2:Int)],undef,undef,undef,undef,undef,undef,undef,undef,undef,undef,undef,undef,undef,undef,undef,undef,undef,undef,undef,undef,undef,undef,undef,undef,undef,undef],defers:=[] })
  (fun x a' _ X Y row ⟨Bx,h1,h2,h3⟩ hg hr=>⟨Bx,h1,Blk.keptFrom h2 hg (fun r e=>(hr r e).2),h3⟩)
  ?assign ?body ?done
 case assign=>
  intro l pre x rest W K hx hi hK
  have hsW:w4.heap.size+1+1 < W.heap.size:=hi.1.2.2.2.2.lt
  dsimp only [cpV]
  gi_wp2
  refine hK _ _ ((KeepsOthers.alloc _ _).from _) (KpC.below ((Below.refl _ W).alloc (Nat.le_refl _) _) (by omega) (by omega) (by omega)) (MkI.own _ _ _ _ _ _ _ _ W.heap.size _ _ _ (Nat.le_refl _) (by omega) pre W _ none hi (World.grownBy_alloc W _ none) (fun r e=>by cases e)) ⟨W.heap.size,by omega,Blk.new _ _ _,rfl⟩
 case body=>
  rintro l pre ⟨p,n,f⟩ rest a' W hx hI ⟨Bx,hBx,bX,rfl⟩
  obtain ⟨⟨⟨v,b6,hown,_⟩,b7,b3,bB,bT⟩,hBW⟩:=hI
  have hok:=Dl.okL_cps base target _ 0 0 (Nat.le_refl _) (Nat.le_refl _) (Nat.zero_le _)
  rw [hx] at hok
  obtain ⟨k1,k2,k3,k4,k5⟩:=Dl.okL_mid (b:=Dl.front base target) hok
  have klen:=(Dl.mkA_len (b:=Dl.front base target) hok).1
  have hsn:=Dl.mkA_snoc target pre (Dl.front base target,0) p n f
  obtain ⟨told,htold⟩:∃ t,t=(Dl.mkA target (Dl.front base target,0) pre).2:=⟨_,rfl⟩
  obtain ⟨ys,hys⟩:∃ t,t=(Dl.mkA target (Dl.front base target,0) pre).1:=⟨_,rfl⟩
  rw [←htold,←hys] at hsn klen
  rw [←htold] at b7 k1
  rw [←hys] at hown
  rw [show (Dl.front base target).length=4 from rfl] at klen
  rw [←HNT.out] at k2
  rw [←HNB.out] at k5
  clear hx hok htold hys
  obtain ⟨Av,cv,rfl⟩:=Pad.len (⟨hown,hBW⟩:Pad w.heap.size w v ys W)
  obtain ⟨At,c',S1,RT⟩:=dsl_mid A2 nt ct target w HX.out.2.2.2.1 told p k1 (by omega)
  have PF:Calls Tryz.prog 50 #[.slice Av ys.length cv,.slice At (p - told) c'] W.drew _:=putFresh_any _ _ ys ((target.drop told).take (p - told)) w.heap.size w W.drew rfl ⟨hown,below_drewN hBW 1⟩ RT (by rw [List.length_take];omega) (by omega)
  have HPY:Hid (ys.length≤10000):=Lib.hid (by omega)
  obtain ⟨ny,hny⟩:∃ ny,ny=ys.length:=⟨_,rfl⟩
  rw [←hny] at PF b6
  obtain ⟨y5,hy5⟩:∃ y5,y5=ys++Dl.fr ((target.drop told).take (p - told)):=⟨_,rfl⟩
  rw [←hy5] at PF hsn
  have HL5:Hid (y5.length≤20000):=Lib.hid (by
   have hf:=Dl.fr_len ((target.drop told).take (p - told))
   rw [List.length_take] at hf
   rw [hy5,List.length_append]
   omega)
  have HSN:=Lib.hid hsn
  have HNY:=Lib.hid hny
  have c6:=b6.cell
  have c7:=b7.cell
  have c3:=b3.cell
  have HOWN:=Lib.hid hown
  have H6:=Lib.hid b6
  have H7:=Lib.hid b7
  have H3:=Lib.hid b3
  have HHB:=Lib.hid bB
  have HHT:=Lib.hid bT
  have HBX:=Lib.hid bX
  have HBW:=Lib.hid hBW
  have hm:Tryz.prog.follows .mixedOrders=true:=by kernel_rfl
  have w1:wrap64 ((p:Int)+(n:Int))=(p:Int)+(n:Int):=IntWalk.wrap64_in _ (by omega)
  clear hsn hy5 hny b6 b7 b3 bB bT bX hBW hown RT klen RUN HX HT HB n6 n3 n7 nB nT
  dsimp only
  gi_wp2
  refine regionIn_still 5 hm (by kernel_rfl) (by intro o ho c;simp at ho;rcases ho with rfl | rfl | rfl | rfl | rfl | rfl | rfl<;>simp) (by rintro ⟨a,w,h⟩;exact absurd h.1 (by intro e;cases e)) ?_
  change wpStill _ _ W.drew (fun a'=>wpList _ _ _ _ a' W.drew) _ _
  dsimp only [List.take,List.drop]
  repeat still_step
  refine wpStill_nil ?_
  change wpList _ _ _ _ _ W.drew
  go_wp2_with (go_at_call 50;refine PF.mono ?_;rintro e w5 ⟨v5,rfl,hP5,hO5⟩;obtain ⟨A5,q5,rfl⟩:=hP5.len;have hB6:=oth_put hO5 (show Boxed W.drew w2.heap.size 25 (.slice Av ny cv) from H6.out) hP5 (by omega);obtain ⟨n5,hn5⟩:∃ n5,n5=y5.length:=⟨_,rfl⟩;rw [←hn5] at hB6 ⊢;have HN5:=Lib.hid hn5;have d6:=hB6.1.cell;have e6:=hB6.1.frozen;have HQ5:=Lib.hid hB6.2;clear hP5 hO5 hB6 PF hn5)
  obtain ⟨W6,hW6⟩:∃ W6,W6=w5.setCell ⟨w2.heap.size,0,none⟩ (.slice A5 n5 q5):=⟨_,rfl⟩
  rw [←hW6] at HQ5 ⊢
  have hbx:Bx≠w2.heap.size:=fun e=>by
   have h1:W.heap[w2.heap.size]? = _:=e▸HBX.out
   rw [show W.heap[w2.heap.size]? = _ from H6.out] at h1
   injection h1 with h1;injection h1 with _ h1;revert h1;decide
  have x6:Blk W6 Bx 111 #[.int .i64 (n:Int),.slice none 0 0,.int .i64 (f:Int)]:=HQ5.out.2.2.1 _ _ _ _ (by decide) hbx HBX.out
  have x60:W6.cell? ⟨Bx,0,none⟩=some (.int .i64 (n:Int)):=x6.cell 0
  have c66:W6.cell? ⟨w2.heap.size,0,none⟩=some (.slice A5 n5 q5):=HQ5.out.1.cell
  have hS6:w.heap.size≤W6.heap.size:=HQ5.out.2.1.bel.size
  obtain ⟨mm,hmm⟩:∃ mm,mm=128+n:=⟨_,rfl⟩
  have hU:bits .or .u8 128 (n:Int)=(mm:Int):=by rw [hmm];exact Dl.u8_or n (by omega)
  have HMM:=Lib.hid hmm
  have mm1:mm < 256:=by omega
  have HSN2:Hid (Dl.mkA target (Dl.front base target,0) (pre++[(p,n,f)])=(y5++[mm]++[f / 256,f % 256],p+n)):=Lib.hid (by rw [HMM.out];exact HSN.out)
  clear hmm HSN
  have hU2:IntKind.u8.wrap (n:Int)=(n:Int):=Dl.u8_wrap n (by omega)
  have HRM:=Lib.hid (rd_of_lit W6 [mm] 5 (by simp))
  have HOA:Hid ((W6.alloc (.cells (u8s [mm]) 5)).ownsRow w.heap.size 5 1 (.slice A5 n5 q5) y5.length (cellsB y5)):=Lib.hid (ownsRow_alloc HQ5.out.2.1.own _)
  have HSA:=Lib.hid (show w.heap.size≤(W6.alloc (.cells (u8s [mm]) 5)).heap.size by simp;omega)
  have HZ1:Hid (y5.length+[mm].length≤70368744177664):=Lib.hid (Nat.le_trans (Nat.add_le_add_right HL5.out 1) (by decide))
  have HBE6:=Lib.hid ((Below.refl W6.heap.size W6).alloc (Nat.le_refl _) (.cells (u8s [mm]) 5))
  have HX6:=Lib.hid x6
  have h26:w.heap.size≤w2.heap.size:=by omega
  clear hW6 d6 e6 c6 c3 S1 x6
  clear w5
  gi_wp2_with (gi_at_builtin;refine listIn_round (by rfl) (by intro c;simp) (Dl.appendB (.tmp 35) (.tmp 40) (by rfl) w.heap.size _ y5 (by rfl) HOA.out HSA.out _ (by rfl) [mm] HRM.out (by simp) HZ1.out ?_);intro v1 w7 ho1 hg1;obtain ⟨g1,k1',rfl⟩:=ownsRow_some ho1 (by simp);have PB:=put_box HBE6.out hS6 h26 HQ5.out.1 HQ5.out.2.1.own ho1 hg1;have c1:=PB.1.cell;have f1:=PB.1.frozen;obtain ⟨n7',hn7⟩:∃ n7',n7'=(y5++[mm]).length:=⟨_,rfl⟩;rw [←hn7] at PB ⊢;have HN7:=Lib.hid hn7;have HPB:=Lib.hid PB.2;have c76:(w7.setCell ⟨w2.heap.size,0,none⟩ (.slice (some ⟨g1,0,none⟩) n7' k1')).cell? ⟨w2.heap.size,0,none⟩=_:=PB.2.1.cell;have x72:(w7.setCell ⟨w2.heap.size,0,none⟩ (.slice (some ⟨g1,0,none⟩) n7' k1')).cell? ⟨Bx,2,none⟩=some (.int .i64 (f:Int)):=Blk.cell (cs:=#[.int .i64 (n:Int),.slice none 0 0,.int .i64 (f:Int)]) (PB.2.2.2.2.2 _ _ _ _ (by decide) hbx HX6.out) 2;clear PB ho1 hg1 hn7)
  obtain ⟨W8,hW8⟩:∃ W8,W8=w7.setCell ⟨w2.heap.size,0,none⟩ (.slice (some ⟨g1,0,none⟩) n7' k1'):=⟨_,rfl⟩
  rw [←hW8] at HPB c76 x72 ⊢
  have hp8:Pad w.heap.size w (.slice (some ⟨g1,0,none⟩) n7' k1') (y5++[mm]) W8:=⟨by rw [←HN7.out];exact HPB.out.2.1,HQ5.out.2.1.bel.trans HPB.out.2.2.2.1⟩
  have hl8:(y5++[mm]).length≤1099511627776:=Nat.le_trans (by rw [List.length_append];exact Nat.add_le_add_right HL5.out 1) (by decide)
  have PNf:=dputNumber_any _ _ _ f w W8 rfl hp8 (by omega) hl8
  have O6:=Lib.hid (show Dl.Ob w2.heap.size W.drew W8 from HQ5.out.2.2.trans ⟨HPB.out.2.2.2.2,HPB.out.2.2.1⟩)
  have B68:=Lib.hid HPB.out.1
  have x8:Blk W8 Bx 111 #[.int .i64 (n:Int),.slice none 0 0,.int .i64 (f:Int)]:=O6.out.1 _ _ _ _ (by decide) hbx HBX.out
  have HX8:=Lib.hid x8
  clear hW8 hp8 hl8 x8 c1 f1 c66 hU hU2 HRM HOA HSA HZ1 HBE6 HX6 x60 HPB HN7
  clear w7
  refine ⟨trivial,?_⟩
  gi_at_call 48
  refine (CallsIn.inRound l (callsIn_wide.2 PNf)).mono ?_
  rintro e w9 ⟨v9,rfl,hP9,hO9⟩
  obtain ⟨A9,q9,rfl⟩:=hP9.len
  have hB9:=oth_put hO9 B68.out hP9 h26
  obtain ⟨n9,hn9⟩:∃ n9,n9=(y5++[mm]++[f / 256,f % 256]).length:=⟨_,rfl⟩
  rw [←hn9] at hB9 ⊢
  have HN9:=Lib.hid hn9
  have d6:=hB9.1.cell
  have e6:=hB9.1.frozen
  have O9:=Lib.hid (O6.out.trans hB9.2.2.2)
  have HQ9:=Lib.hid hB9.2
  have b79:=O9.out.box (show Boxed W.drew w4.heap.size 3 (.int .i64 (told:Int)) from H7.out) (by decide) (by omega)
  have c79:=b79.cell
  have f79:=b79.frozen
  have H79:=Lib.hid b79
  have x9:Blk (w9.setCell ⟨w2.heap.size,0,none⟩ (.slice A9 n9 q9)) Bx 111 #[.int .i64 (n:Int),.slice none 0 0,.int .i64 (f:Int)]:=O9.out.1 _ _ _ _ (by decide) hbx HBX.out
  have x90:(w9.setCell ⟨w2.heap.size,0,none⟩ (.slice A9 n9 q9)).cell? ⟨Bx,0,none⟩=some (.int .i64 (n:Int)):=x9.cell 0
  clear hP9 hO9 hB9 hn9 PNf b79 x9 x72 c76
  gi_wp2
  have ho9:=HQ9.out.2.1.own
  have hb6:Boxed (w9.setCell ⟨w2.heap.size,0,none⟩ (.slice A9 n9 q9)) w2.heap.size 25 (.slice A9 n9 q9):=HQ9.out.1
  have m3:=O9.out.box (show Boxed W.drew w.heap.size 25 (.slice A2 nt ct) from H3.out) (by decide) (by omega)
  have mB:=O9.out.box (show Boxed W.drew (w4.heap.size+1) 25 (.slice A nb cb) from HHB.out) (by decide) (by omega)
  have mT:=O9.out.box (show Boxed W.drew (w4.heap.size+1+1) 25 (.slice A2 nt ct) from HHT.out) (by decide) (by omega)
  have kO:KeepsOthers W (w9.setCell ⟨w2.heap.size,0,none⟩ (.slice A9 n9 q9)):=⟨O9.out.2.size,fun k o hk hc=>O9.out.2.same k o hk hc⟩
  have hw4:w.heap.size≤w4.heap.size:=by omega
  have bel:=HQ9.out.2.1.bel.setCell (p:=⟨w4.heap.size,0,none⟩) hw4 (.int .i64 ((p:Int)+(n:Int)))
  have hT2:(w9.setCell ⟨w2.heap.size,0,none⟩ (.slice A9 n9 q9)).ownsRow w.heap.size 5 1 (.slice A9 n9 q9) n9 (cellsB (y5++[mm]++[f / 256,f % 256])):=by have h:=ho9;rw [←HN9.out] at h;exact h
  have nB1:w4.heap.size+1≠w4.heap.size:=by omega
  have nT1:w4.heap.size+1+1≠w4.heap.size:=by omega
  have n36:w.heap.size≠w4.heap.size:=by omega
  have n26:w2.heap.size≠w4.heap.size:=by omega
  refine ⟨rfl,(kO.trans (KeepsOthers.setCell _ _ _)).from _,⟨below_mid HBW.out bel (Nat.le_trans kO.size (KeepsOthers.setCell _ _ _).size),fun k hk=>?_,fun k cs z hk=>?_⟩,⟨⟨⟨.slice A9 n9 q9,bxPast hb6 n26 _,?_,trivial⟩,?_,bxPast m3 n36 _,bxPast mB nB1 _,bxPast mT nT1 _⟩,bel⟩⟩
  ·rcases hk with rfl | rfl
   ·exact (show _=_ from bxPast mB nB1 (.int .i64 ((p:Int)+(n:Int)))).trans (show W.heap[w4.heap.size+1]? = _ from HHB.out).symm
   ·exact (show _=_ from bxPast mT nT1 (.int .i64 ((p:Int)+(n:Int)))).trans (show W.heap[w4.heap.size+1+1]? = _ from HHT.out).symm
  ·have nk:k≠w2.heap.size:=fun e=>by
    rw [e,show W.heap[w2.heap.size]? = _ from H6.out] at hk
    injection hk with h1;injection h1 with _ h1;revert h1;decide
   have nk4:k≠w4.heap.size:=fun e=>by
    rw [e,show W.heap[w4.heap.size]? = _ from H7.out] at hk
    injection hk with h1;injection h1 with _ h1;revert h1;decide
   exact (Below.heap_setCell _ ⟨w4.heap.size,0,none⟩ _ k nk4).trans (O9.out.1 k cs _ z (by decide) nk hk)
  ·rw [HSN2.out,←HN9.out]
   exact hT2.kept (grownBy_setCell' _ w4.heap.size _) (.inr (H79.out.not_row (by decide) hT2).symm)
  ·rw [HSN2.out]
   exact Boxed.set (v:=.int .i64 (told:Int)) (.int .i64 ((p:Int)+(n:Int))) H79.out
 case done=>
  rintro D W hD ⟨⟨⟨v,b6,hown,_⟩,b7,b3,bB,bT⟩,hBW⟩ hK
  have hok:=Dl.okL_cps base target _ 0 0 (Nat.le_refl _) (Nat.le_refl _) (Nat.zero_le _)
  have k1:=Dl.okL_end (b:=Dl.front base target) hok
  have klen:=(Dl.mkA_len (b:=Dl.front base target) (rest:=[]) (by rw [List.append_nil];exact hok)).1
  have hmk:=Dl.mkA_mkS target (Dl.cps base target 0) (Dl.front base target) 0
  obtain ⟨told,htold⟩:∃ t,t=(Dl.mkA target (Dl.front base target,0) (Dl.cps base target 0)).2:=⟨_,rfl⟩
  obtain ⟨ys,hys⟩:∃ t,t=(Dl.mkA target (Dl.front base target,0) (Dl.cps base target 0)).1:=⟨_,rfl⟩
  rw [←htold,←hys] at hmk klen
  rw [←htold] at b7 k1
  rw [←hys] at hown
  have HMK:Hid (ys++Dl.fr (target.drop told)=Dl.mk base target):=Lib.hid hmk
  rw [show (Dl.front base target).length=4 from rfl] at klen
  rw [←HNT.out] at k1
  clear hmk hok htold hys
  obtain ⟨Av,cv,rfl⟩:=Pad.len (⟨hown,hBW⟩:Pad w.heap.size w v ys W)
  obtain ⟨At,c',S1,RT⟩:=sl_rest A2 nt ct target w HX.out.2.2.2.1 told k1
  have PF:=fun (w':World) (hw:Pad w.heap.size w (.slice Av ys.length cv) ys w')=>putFresh_any (.slice Av ys.length cv) (.slice At (nt - told) c') ys (target.drop told) w.heap.size w w' rfl hw RT (by rw [List.length_drop,←HNT.out];omega) (by omega)
  rw [HMK.out] at PF
  obtain ⟨ny,hny⟩:∃ ny,ny=ys.length:=⟨_,rfl⟩
  have HPW:Hid (Pad w.heap.size w (.slice Av ny cv) ys W.drew):=Lib.hid (by rw [hny];exact ⟨hown,below_drewN hBW 1⟩)
  rw [←hny] at PF b6
  have PF1:=PF W.drew HPW.out
  have c6:∀ w',Dl.Oth W w'→w'.cell? ⟨w2.heap.size,0,none⟩=some (.slice Av ny cv):=fun w' h=>Boxed.cell (h.1 _ _ _ _ (by decide) b6)
  have c7:∀ w',Dl.Oth W w'→w'.cell? ⟨w4.heap.size,0,none⟩=some (.int .i64 (told:Int)):=fun w' h=>Boxed.cell (h.1 _ _ _ _ (by decide) b7)
  have c3:∀ w',Dl.Oth W w'→w'.cell? ⟨w.heap.size,0,none⟩=some (.slice A2 nt ct):=fun w' h=>Boxed.cell (h.1 _ _ _ _ (by decide) b3)
  have hOd:Dl.Oth W W.drew:=⟨fun _ _ _ _ _ e=>e,Nat.le_refl _,fun _ _ h _=>h⟩
  have hK2:∀ w',Dl.Oth W w'→w'.heap[D]? = some (.deferred (some [])):=fun w' h=>h.2.same D _ hK rfl
  have hDs:w.heap.size≤D:=by omega
  have HFR:Hid (∀ (A:Option Addr) (n c:Nat) (wr:World),(wr.ownsRow w.heap.size 5 1 (.slice A n c) (Dl.mk base target).length (cellsB (Dl.mk base target))∧Below w.heap.size w wr)→wr.heap[D]? = some (.deferred (some []))→Pad w.heap.size w (.slice A n c) (Dl.mk base target) (wr.putObj D (.deferred none))):=Lib.hid fun A n c wr h hk=>⟨ownsRow_putObj h.1 _ hk rfl,h.2.trans (belowK_b (w:=w) (Nat.le_refl _) wr D _ _ hDs hk rfl rfl)⟩
  have hm:Tryz.prog.follows .mixedOrders=true:=by kernel_rfl
  clear hny b6 b7 b3 bB bT hBW hown RT klen RUN HX HT HB n6 n3 n7 nB nT PF hK
  gi_wp2
  refine wpIn_wide.2 ?_
  go_still_tail 4,hm
  change wpList _ _ _ _ _ W.drew
  have c6d:=c6 W.drew hOd
  go_wp2_with (go_at_call 50;refine PF1.mono ?_;rintro e w5 ⟨v5,rfl,hP5,hO5⟩;obtain ⟨A5,q5,rfl⟩:=hP5.len;have hO6:Dl.Oth W w5:=hOd.trans hO5;obtain ⟨n5,hn5⟩:∃ n5,n5=(Dl.mk base target).length:=⟨_,rfl⟩;rw [←hn5] at hP5 ⊢;have HP5:=Lib.hid hP5;have HN5:=Lib.hid hn5;have hK5:=hK2 w5 hO6;clear hP5 hO5 hn5)
  gi_wp2
  refine ⟨by simp,.inl ⟨_,_,rfl,run_takeDeferred hK5,?_⟩⟩
  refine ⟨_,results_tmp2 rfl _ _ _,_,rfl,?_⟩
  rw [HN5.out]
  exact HFR.out _ _ _ _ (by have h:=HP5.out;rw [HN5.out] at h;exact ⟨h.own,h.bel⟩) hK5
end Go.Proofs.YtndgadjeeinedaaGreatDoor
/- The walks of cartagenum.Bytes and Kept: a copy with marked room behind, and whether list and room stand as they stood. -/
namespace Go.Proofs.YtndgadjeeinedaaGreatDoor
open Go Go.RowKit
end Go.Proofs.YtndgadjeeinedaaGreatDoor
/- A goal set aside: the walk stands still at it. -/
namespace Go.Proofs.YtndgadjeeinedaaGreatDoor
def Paused (p:Prop):Prop:=p
theorem pause {p:Prop} (h:Paused p):p:=h
end Go.Proofs.YtndgadjeeinedaaGreatDoor
/- The example of layer 7; that what is made are bytes. -/
namespace Go.Proofs.YtndgadjeeinedaaGreatDoor
open Go Go.RowKit Go.Shelf
def MX (w:World):Prop:=∃ m,w.cell? ⟨23,0,none⟩=some (.int .i64 m)
theorem MX.below {w w':World} (h:MX w) {B:Nat} (hb:Below B w w') (hB:w.heap.size≤B):MX w':=by
 obtain ⟨m,hm⟩:=h
 exact ⟨m,(hb.cell (p:=⟨23,0,none⟩) (Nat.lt_of_lt_of_le (block_lt_of_cell hm) hB)).trans hm⟩
theorem MX.of_shape {W:World} (h:W.ShapedOpen Tryz.prog):MX W:=Tryz.laysM185.s1_3 W h
namespace Dl
theorem byte_of_mem {xs:List Nat} (h:∀ x∈xs,x < 256):Sha.Byte xs:=fun i=>by
 by_cases hi:i < xs.length
 ·rw [List.getD_eq_getElem?_getD,List.getElem?_eq_getElem hi];exact h _ (List.getElem_mem hi)
 ·rw [List.getD_eq_getElem?_getD,List.getElem?_eq_none (by omega)];decide
theorem mem_frs {text:List Nat} (ht:∀ x∈text,x < 256):∀ (l:List (Nat×Nat)),(∀ x∈l,x.2≤127)→∀ y∈frs text l,y < 256
 | [],_,y,h=>by simp [frs] at h
 | x::l,hl,y,h=>by
  unfold frs at h
  rw [List.flatMap_cons,List.mem_append,List.mem_cons] at h
  rcases h with (h | h) | h
  ·have:=hl x (by simp);omega
  ·exact ht y (List.mem_of_mem_drop (List.mem_of_mem_take h))
  ·exact mem_frs ht l (fun z hz=>hl z (by simp [hz])) y h
theorem mem_fr {text:List Nat} (ht:∀ x∈text,x < 256):∀ y∈fr text,y < 256:=mem_frs ht _ fun x hx=>(chF_in _ _ x (show x∈chF text.length _ 0 from hx)).2.1
theorem mem_mkS {base target:List Nat} (hb:base.length≤65535) (ht:∀ x∈target,x < 256):∀ (l:List (Nat×Nat×Nat)) (told:Nat),okL base target told l→∀ y∈mkS target told l,y < 256
 | [],told,_,y,h=>mem_fr (fun x hx=>ht x (List.mem_of_mem_drop hx)) y h
 | (p,n,f)::l,told,⟨h1,h2,h3,h4,h5,h6,h7⟩,y,h=>by
  rw [mkS,List.mem_append,List.mem_cons,List.mem_cons,List.mem_cons] at h
  rcases h with h | h | h | h | h
  ·exact mem_fr (fun x hx=>ht x (List.mem_of_mem_drop (List.mem_of_mem_take hx))) y h
  ·omega
  ·omega
  ·omega
  ·exact mem_mkS hb ht l _ h7 y h
theorem mem_mk {base target:List Nat} (hb:base.length≤300) (hl:target.length≤300) (ht:Sha.Byte target):Sha.Byte (mk base target):=byte_of_mem fun y h=>by
 unfold mk front at h
 simp only [List.cons_append,List.nil_append,List.mem_cons] at h
 rcases h with h | h | h | h | h
 ·omega
 ·omega
 ·omega
 ·omega
 ·exact mem_mkS (base:=base) (by omega) (mem_byte ht) _ 0 (okL_cps base target _ 0 0 (Nat.le_refl _) (Nat.le_refl _) (Nat.zero_le _)) y h
end Dl
end Go.Proofs.YtndgadjeeinedaaGreatDoor
