/- A pack read item by item (depths). -/
import Derived.Maps.RangeWalk
import Derived.Test.YtndgadjeeinedaaGreatDoorMPk12s
namespace Go.Proofs.YtndgadjeeinedaaGreatDoor
open Go Go.RowKit
theorem askN_any (id:List Nat) (hid:Id32 id) (A:Option Addr) (n c d:Nat) (w:World) :
  Calls Tryz.prog 22 #[.agg (itemC id (.slice A n c) d).toArray] w fun e w'=>e=.returned (.int .i64 (d:Int))∧Below w.heap.size w w':=by
 have hB:=Blk.new w 44 (itemC id (.slice A n c) d).toArray
 have h1:(w.alloc (.cells (itemC id (.slice A n c) d).toArray 44)).cell? ⟨w.heap.size,32,none⟩=some (.slice A n c):=(hB.cell 32).trans (itemC_at id hid _ d).1
 have h2:(w.alloc (.cells (itemC id (.slice A n c) d).toArray 44)).cell? ⟨w.heap.size,33,none⟩=some (.int .i64 (d:Int)):=(hB.cell 33).trans (itemC_at id hid _ d).2
 have hb:Hid (Below w.heap.size w (w.alloc (.cells (itemC id (.slice A n c) d).toArray 44))):=Lib.hid ((Below.refl _ _).alloc (Nat.le_refl _) _)
 clear hB
 go_enter Tryz.func22,Tryz.ntmps22
 go_wp2
 go_ret
 exact ⟨rfl,hb.out⟩
theorem elN_info:(Tryz.prog.info? 3).map (fun i=>(i.zero,i.size,i.bytes))=some (some (.int .i64 0),1,8):=by kernel_rfl
structure EXN (w0 w2 wr:World) (i r g mb bB bK ab B:Nat) (kn:List Pk.It) (ys:List Nat) (n:Nat) (v:Value) (k:Nat) (out:List Pk.It) (rest:List Nat):Prop where
 rds:RdS w0 wr i r g mb bB bK out kn
 at_:InAt w0 wr i r rest
 own:wr.ownsRow B 3 1 v k (out.map (fun p=>Value.int .i64 (p.depth:Int)))
 off:∀ x,v.ownBlock=some x→∀ p∈out,OffB p.val x
 len:out.length=k
 kpt:Kpt (fun x=>x=r) w2 wr
 ask:Blk wr ab 66 #[.func (.func 22) #[] #[]]
 byt:Sha.Byte rest
 go:Pk.goR (kn.map Pk.It.item) n [] ys=Pk.goR (kn.map Pk.It.item) (n - k) (out.map Pk.It.item) rest
 dep:∀ p∈out,p.depth≤5
 low:g < B∧ab≠r∧ab < w2.heap.size∧r < w2.heap.size∧w2.heap.size≤mb∧w2.heap.size≤bB
 big:B≤wr.heap.size
theorem EXN.below {w0 w2 wr w':World} {i r g mb bB bK ab B:Nat} {kn:List Pk.It} {ys:List Nat} {n:Nat} {v:Value} {k:Nat} {out:List Pk.It} {rest:List Nat} (h:EXN w0 w2 wr i r g mb bB bK ab B kn ys n v k out rest) (hb:Below wr.heap.size wr w'):EXN w0 w2 w' i r g mb bB bK ab B kn ys n v k out rest:=
 ⟨h.rds.below hb,h.at_.below hb,h.own.kept (only_of_below hb none) (by cases hv:v.ownBlock with | none=>exact Or.inl rfl | some g=>exact Or.inr (by simp)),h.off,h.len,h.kpt.trans (Kpt.of_below hb),h.ask.below hb h.ask.lt,h.byt,h.go,h.dep,h.low,Nat.le_trans h.big hb.size⟩
theorem own_blkN {w:World} {B k:Nat} {v:Value} {cs:List Value} (h:w.ownsRow B 3 1 v k cs) {x:Nat} (hx:v.ownBlock=some x):B≤x∧∃ cu,Blk w x 3 cu:=by
 rcases h.2 with ⟨hv,_⟩ | ⟨g,cap,cur,hv,hb,hh,_⟩
 ·rw [hv] at hx;simp [Value.ownBlock] at hx
 ·rw [hv] at hx
  obtain rfl:g=x:=by simpa [Value.ownBlock] using hx
  exact ⟨hb,cur,hh⟩
theorem EXN.step {w0 w2 wr w5 w7 w8:World} {i r g mb bB bK ab B:Nat} {kn:List Pk.It} {ys:List Nat} {n:Nat} {v:Value} {k:Nat} {out:List Pk.It} {rest:List Nat} (h:EXN w0 w2 wr i r g mb bB bK ab B kn ys n v k out rest) (hk:k < n) (hkb:∀ p∈kn,Sha.Byte p.text) {p:Pk.It} {q:Pk.Item×List Nat} (hst:Pk.step (out.map Pk.It.item) (kn.map Pk.It.item) rest=.ok q) (hpi:p.item=q.1)
  (hR:RdS w0 w5 i r g mb bB bK (out++[p]) kn) (hI:InAt w0 w5 i r q.2) (hK:Kpt (fun x=>x=r∨x=bB∨x=mb) wr w5) (hnew:∀ A n c,p.val=.slice A n c→NewAt wr.heap.size A n) (hb:Below w5.heap.size w5 w7) {g' cap:Nat} (ho:w8.ownsRow B 3 1 (.slice (some ⟨g',0,none⟩) (k+1) cap) (k+1) (out.map (fun p=>Value.int .i64 (p.depth:Int))++[.int .i64 (p.depth:Int)])) (hg:w7.grownBy w8 v.ownBlock) (hl:v.ownBlock=some g'∨g'=w7.heap.size) :
  EXN w0 w2 w8 i r g mb bB bK ab B kn ys n (.slice (some ⟨g',0,none⟩) (k+1) cap) (k+1) (out++[p]) q.2:=by
 obtain ⟨h1,h2⟩:=Pk.step_ok hst
 have hlow:=h.low
 have hord:=h.rds.ord
 have hR7:=hR.below hb
 have hI7:=hI.below hb
 have hK7:Kpt (fun x=>x=r∨x=bB∨x=mb) wr w7:=hK.trans (Kpt.of_below hb)
 have hlen:=h.rds.g_.lt
 have hold:∀ x,v.ownBlock=some x→B≤x∧x < wr.heap.size∧∃ cu,Blk w7 x 3 cu:=fun x hx=>by
  obtain ⟨e1,cu,e2⟩:=own_blkN h.own hx
  exact ⟨e1,e2.lt,cu,hK7.blk e2 (by omega)⟩
 have hOff:∀ x,v.ownBlock=some x→∀ q∈out++[p],OffB q.val x:=fun x hx q hq=>by
  rcases List.mem_append.1 hq with hq | hq
  ·exact h.off x hx q hq
  ·rw [List.mem_singleton.1 hq]
   obtain ⟨⟨A,c,hv,_⟩,_⟩:=hR.outs p (by simp)
   rw [hv]
   exact off_of_new (hnew _ _ _ hv) (hold x hx).2.1
 have hk8:Kpt (fun x=>v.ownBlock=some x) w7 w8:=⟨hg.os,hg.tape,hg.output,hg.size,fun b hb hn=>hg.block b hb (fun e=>hn e.symm)⟩
 have hR8:RdS w0 w8 i r g mb bB bK (out++[p]) kn:=by
  cases hv:v.ownBlock with
  | none=>rw [hv] at hg;exact hR7.below ⟨hg.os,hg.tape,hg.output,hg.size,fun b hb=>hg.block b hb (by simp)⟩
  | some x=>
   obtain ⟨e1,e2,cu,e3⟩:=hold x hv
   rw [hv] at hg
   exact hR7.far hg e3 (by omega) (hOff x hv)
 have hI8:InAt w0 w8 i r q.2:=hI7.kpt hk8 (fun e=>by have:=(hold _ e).1;omega) (fun e=>by have:=(hold _ e).1;omega) (fun x hx=>by have h3:=(hold x hx).1;have h4:=hI7.bel.2;omega)
 refine ⟨hR8,hI8,by rw [List.map_append];exact ho,fun x hx=>?_,by rw [List.length_append,h.len];rfl,?_,?_,?_,?_,?_,hlow,Nat.le_trans h.big (Nat.le_trans hK7.size hg.size)⟩
 ·obtain rfl:g'=x:=by simpa [Value.ownBlock] using hx
  rcases hl with hl | hl
  ·exact hOff g' hl
  ·exact fun q hq=>off_of_rd (hR7.outs q hq).1 (by omega)
 ·refine Kpt.old (Kpt.old h.kpt hK7 (fun x hx hl=>?_)) hk8 (fun x hx hl=>?_)
  ·rcases hx with hx | hx | hx
   ·exact hx
   ·omega
   ·omega
  ·have h3:=(hold x hx).1
   have h4:=h.kpt.size
   have h5:=h.rds.g_.lt
   omega
 ·exact hk8.blk (hK7.blk h.ask (by omega)) (fun e=>by have:=(hold _ e).1;omega)
 ·refine told_byte h.byt (fun p hp=>?_) (fun p hp=>?_) h1
  ·obtain ⟨p',hp',rfl⟩:=List.mem_map.1 hp
   exact (h.rds.outs p' hp').2
  ·obtain ⟨p',hp',rfl⟩:=List.mem_map.1 hp
   exact hkb p' hp'
 ·rw [h.go,show n - k=(n - (k+1))+1 by omega,Pk.goR,hst,List.map_append]
  simp only
  rw [←hpi]
  rfl
 ·intro p' hp'
  rcases List.mem_append.1 hp' with hp' | hp'
  ·exact h.dep p' hp'
  ·rw [List.mem_singleton.1 hp']
   have h3:=(Pk.told_len h1).2
   rw [←hpi] at h3
   exact h3
structure LstN (w:World) (r:Nat) (v:Value) (out:List Pk.It):Prop where
 own:∃ B,r < B∧w.ownsRow B 3 1 v out.length (out.map (fun p=>Value.int .i64 (p.depth:Int)))
 rd:∀ p∈out,RdB w r p.val p.text∧Sha.Byte p.text
theorem LstN.only {w w':World} {r:Nat} {v:Value} {out:List Pk.It} (h:LstN w r v out) (hg:w.grownBy w' (some r)):LstN w' r v out:=by
 obtain ⟨⟨B,hB,ho⟩,hr⟩:=h
 exact ⟨⟨B,hB,ho.kept hg (own_far ho hB)⟩,fun p hp=>⟨(hr p hp).1.only hg,(hr p hp).2⟩⟩
def EachN (w0 w2:World) (i r:Nat) (kn:List Pk.It) (a:Nat→Addr) (xs:List Nat) (e:Ending) (w':World):Prop:=
 match Pk.readR (kn.map Pk.It.item) xs with
 | .bad c=>e=.panicked [{ v:=stopV r,recovered:=false }]∧Dead w' r (ecode a c)∧Kpt (fun x=>x=r) w2 w'
 | .ok q=>∃ v out,out.map Pk.It.item=q.1∧e=.returned v∧InAt w0 w' i r q.2∧Kpt (fun x=>x=r) w2 w'∧LstN w' r v out
set_option maxRecDepth 100000 in
set_option maxHeartbeats 8000000 in
theorem eachN_any {w0 w:World} {i r kb ab:Nat} {A:Option Addr} {c:Nat} {kn:List Pk.It} (a:Nat→Addr) (xs:List Nat) (hb:Sha.Byte xs) (hi:InAt w0 w i r xs) (hii:i < w.heap.size) (hkb:Blk w kb 22 #[.slice A kn.length c]) (hab:Blk w ab 66 #[.func (.func 22) #[] #[]]) (hne:kb≠r∧ab≠r) (hk:Known w0 A c kn) (ht:Tabs w0) (hS:KSents w0 a) :
  Calls Tryz.prog 45 #[.pointer (some ⟨i,0,none⟩),.pointer (some ⟨kb,0,none⟩),.pointer (some ⟨ab,0,none⟩)] w (EachN w0 w i r kn a xs):=by
 obtain ⟨w4,hw4⟩:∃ w4,w4=rdrBox w i A kn.length c:=⟨_,rfl⟩
 have b4:Below w.heap.size w w4:=hw4▸rdr_below w i A kn.length c
 have s4:w4.heap.size=w.heap.size+4:=by rw [hw4];exact rdr_size ..
 have HR4:Hid (RdS w0 w4 i r (w.heap.size+3) w.heap.size (w.heap.size+2) (w.heap.size+1) [] kn):=Lib.hid (hw4▸rdr_start hi hii hk)
 have HI4:=Lib.hid (hi.below b4)
 have HA4:=Lib.hid (hab.below b4 hab.lt)
 have HB4:=Lib.hid b4
 have HS4:=Lib.hid s4
 have HLT:Hid (r < w.heap.size∧ab < w.heap.size∧ab≠r∧w0.heap.size≤r):=Lib.hid ⟨hi.lt,hab.lt,hne.2,hi.bel.2⟩
 have HT:=Lib.hid ht
 have HS:=Lib.hid hS
 have HKB:Hid (∀ p∈kn,Sha.Byte p.text):=Lib.hid (fun p hp=>(hk.rd p hp).2.1)
 have HKD:Hid (∀ p∈kn,p.depth=0):=Lib.hid (fun p hp=>(hk.rd p hp).2.2.1)
 have p0:(w.alloc (.map #[] 0)).cell? ⟨kb,0,none⟩=some (.slice A kn.length c):=(hkb.alloc _).cell 0
 have p5:w4.cell? ⟨w.heap.size+3,0,none⟩=some (.pointer (some ⟨i,0,none⟩)):=HR4.out.g_.cell 0
 have mm:=map_made w
 have CFD:=finder_any A kn.length c (w.alloc (.map #[] 0))
 have HW5:Hid (Blk ((((w.alloc (.map #[] 0)).alloc (.cells #[.slice A kn.length c] 22)).alloc (.cells #[.map none] 39)).alloc (.cells #[.pointer none,.map none,.nilFunc] 92)) (w.heap.size+1+1+1) 92 #[.pointer none,.map none,.nilFunc]):=Lib.hid (by
  have h:=Blk.new (((w.alloc (.map #[] 0)).alloc (.cells #[.slice A kn.length c] 22)).alloc (.cells #[.map none] 39)) 92 #[.pointer none,.map none,.nilFunc]
  rwa [show (((w.alloc (.map #[] 0)).alloc (.cells #[.slice A kn.length c] 22)).alloc (.cells #[.map none] 39)).heap.size=w.heap.size+1+1+1 by simp] at h)
 have E5:Hid (((((w.alloc (.map #[] 0)).alloc (.cells #[.slice A kn.length c] 22)).alloc (.cells #[.map none] 39)).alloc (.cells #[.pointer none,.map none,.nilFunc] 92)).setRow (w.heap.size+1+1+1) #[.pointer (some ⟨i,0,none⟩),.map (some w.heap.size),.func (.func 61) #[] #[.pointer (some ⟨w.heap.size+1+1,0,none⟩),.pointer (some ⟨w.heap.size+1,0,none⟩)]]=w4):=Lib.hid (by
  have h:=World.setRow_alloc_new (((w.alloc (.map #[] 0)).alloc (.cells #[.slice A kn.length c] 22)).alloc (.cells #[.map none] 39)) #[.pointer none,.map none,.nilFunc] #[.pointer (some ⟨i,0,none⟩),.map (some w.heap.size),.func (.func 61) #[] #[.pointer (some ⟨w.heap.size+1+1,0,none⟩),.pointer (some ⟨w.heap.size+1,0,none⟩)]] 92
  rw [show (((w.alloc (.map #[] 0)).alloc (.cells #[.slice A kn.length c] 22)).alloc (.cells #[.map none] 39)).heap.size=w.heap.size+1+1+1 by simp] at h
  rw [h,hw4])
 rw [show (w.alloc (.map #[] 0)).heap.size=w.heap.size+1 by simp] at CFD
 have hrb:∀ c,Pk.readR (kn.map Pk.It.item) xs=.bad c→∀ e w',Fails w4 r (ecode a c) e w'→EachN w0 w i r kn a xs e w':=fun c hc e w' hF=>by
  unfold EachN
  rw [hc]
  exact ⟨hF.1,hF.2.1,(Kpt.of_below HB4.out).trans (Kpt.of_grown hF.2.2 rfl)⟩
 have HRB:=Lib.hid hrb
 clear b4 s4 hw4 hi hab hkb hk ht hS hne hrb hii
 obtain _ | ⟨n,ys⟩:=xs
 ·have CN:=ibyte_short i r (a 1) w0 w4 HI4.out (HS.out 1 (by omega)).var
  go_enter Tryz.func45,Tryz.ntmps45
  go_wp2_with (go_at_call 40;refine pause ?_)
  unfold Paused
  refine CFD.mono ?_
  rintro e w5 ⟨rfl,rfl⟩
  go_wp2_with (with_reducible (show wpList _ _ _ (Oper.mk _ (Op.store 92 _ _) _ _ _ _::_) _ _);refine pause ?_)
  unfold Paused
  change wpList _ _ _ _ _ ((((w.alloc (.map #[] 0)).alloc (.cells #[.slice A kn.length c] 22)).alloc (.cells #[.map none] 39)).alloc (.cells #[.pointer none,.map none,.nilFunc] 92))
  refine wpList_store_row (by rfl) 92 (.tmp 5) (.tmp 12) (by rfl) (w.heap.size+1+1+1) #[.pointer (some ⟨i,0,none⟩),.map (some w.heap.size),.func (.func 61) #[] #[.pointer (some ⟨w.heap.size+1+1,0,none⟩),.pointer (some ⟨w.heap.size+1,0,none⟩)]] (by rfl) (by rfl) 92 #[.pointer none,.map none,.nilFunc] HW5.out (by kernel_rfl) (by rfl) (by simp [Value.oneCell']) ?_
  rw [E5.out]
  go_wp2_with (go_at_call 41;refine CN.mono ?_;rintro e w6 hF;have HE:=HRB.out 2 rfl _ _ hF;obtain ⟨rfl,_,_⟩:=hF)
  exact ⟨rfl,HE⟩
 have HBY:Hid (Sha.Byte ys):=Lib.hid (fun i=>by simpa using hb (i+1))
 have CN:=ibyte_ok i r n ys w0 w4 HI4.out (oc_bytes hb)
 by_cases hn:64 < n
 ·have hF:=HRB.out 22 (by rw [Pk.readR_cons,if_pos hn])
  have HRB2:Hid (∀ e w',Fails w4 r (ecode a 22) e w'→EachN w0 w i r kn a (n::ys) e w'):=Lib.hid hF
  have g1:(64:Int) < (n:Int):=by omega
  clear hF hn hb
  go_enter Tryz.func45,Tryz.ntmps45
  go_wp2_with (go_at_call 40;refine pause ?_)
  unfold Paused
  refine CFD.mono ?_
  rintro e w5 ⟨rfl,rfl⟩
  go_wp2_with (with_reducible (show wpList _ _ _ (Oper.mk _ (Op.store 92 _ _) _ _ _ _::_) _ _);refine pause ?_)
  unfold Paused
  change wpList _ _ _ _ _ ((((w.alloc (.map #[] 0)).alloc (.cells #[.slice A kn.length c] 22)).alloc (.cells #[.map none] 39)).alloc (.cells #[.pointer none,.map none,.nilFunc] 92))
  refine wpList_store_row (by rfl) 92 (.tmp 5) (.tmp 12) (by rfl) (w.heap.size+1+1+1) #[.pointer (some ⟨i,0,none⟩),.map (some w.heap.size),.func (.func 61) #[] #[.pointer (some ⟨w.heap.size+1+1,0,none⟩),.pointer (some ⟨w.heap.size+1,0,none⟩)]] (by rfl) (by rfl) 92 #[.pointer none,.map none,.nilFunc] HW5.out (by kernel_rfl) (by rfl) (by simp [Value.oneCell']) ?_
  rw [E5.out]
  go_wp2_with (go_at_call 41;refine pause ?_)
  unfold Paused
  refine CN.mono ?_
  rintro e w6 ⟨rfl,hi6,hg6⟩
  have HG6:=Lib.hid hg6
  have p6:w6.cell? ⟨w.heap.size+3,0,none⟩=some (.pointer (some ⟨i,0,none⟩)):=(HR4.out.read HI4.out hg6).g_.cell 0
  have p7:w6.cell? ⟨0,0,none⟩=some (ev (a 21)):=(hi6.bel.1.cell (block_lt_of_cell (HS.out 21 (by omega)).var)).trans (HS.out 21 (by omega)).var
  obtain ⟨vr,hvr,_⟩:=hi6
  have CE:=fail_any i r vr (a 21) w6 hvr
  clear hvr hg6 CN p5
  go_wp2_with (go_at_call 42;refine CE.mono ?_;rintro e w9 hF;have HE:=HRB2.out e w9 ⟨hF.1,hF.2.1,only_trans HG6.out hF.2.2⟩;obtain ⟨rfl,_,_⟩:=hF)
  exact ⟨rfl,HE⟩
 have HRD:Hid (Pk.readR (kn.map Pk.It.item) (n::ys)=Pk.goR (kn.map Pk.It.item) n [] ys):=Lib.hid (by rw [Pk.readR_cons,if_neg hn])
 have HN:Hid (n≤64):=Lib.hid (by omega)
 have g1:¬(64:Int) < (n:Int):=by omega
 clear hn hb
 go_enter Tryz.func45,Tryz.ntmps45
 go_wp2_with (go_at_call 40;refine pause ?_)
 unfold Paused
 refine CFD.mono ?_
 rintro e w5 ⟨rfl,rfl⟩
 go_wp2_with (with_reducible (show wpList _ _ _ (Oper.mk _ (Op.store 92 _ _) _ _ _ _::_) _ _);refine pause ?_)
 unfold Paused
 change wpList _ _ _ _ _ ((((w.alloc (.map #[] 0)).alloc (.cells #[.slice A kn.length c] 22)).alloc (.cells #[.map none] 39)).alloc (.cells #[.pointer none,.map none,.nilFunc] 92))
 refine wpList_store_row (by rfl) 92 (.tmp 5) (.tmp 12) (by rfl) (w.heap.size+1+1+1) #[.pointer (some ⟨i,0,none⟩),.map (some w.heap.size),.func (.func 61) #[] #[.pointer (some ⟨w.heap.size+1+1,0,none⟩),.pointer (some ⟨w.heap.size+1,0,none⟩)]] (by rfl) (by rfl) 92 #[.pointer none,.map none,.nilFunc] HW5.out (by kernel_rfl) (by rfl) (by simp [Value.oneCell']) ?_
 rw [E5.out]
 go_wp2_with (go_at_call 41;refine pause ?_)
 unfold Paused
 refine CN.mono ?_
 rintro e w6 ⟨rfl,hi6,hg6⟩
 have HE6:Hid (EXN w0 w w6 i r (w.heap.size+3) w.heap.size (w.heap.size+2) (w.heap.size+1) ab w4.heap.size kn ys n (.slice none 0 0) 0 [] ys):=Lib.hid (by
  have h4:=HS4.out
  have h5:=HLT.out
  exact ⟨HR4.out.read HI4.out hg6,hi6,World.ownsRow_nil _ _ _ _,fun x hx=>(by simp [Value.ownBlock] at hx),rfl,(Kpt.of_below HB4.out).trans (Kpt.of_grown hg6 rfl),HA4.out.grown hg6 (fun e=>by injection e with e;omega),HBY.out,by rw [Nat.sub_zero];rfl,fun p hp=>(by cases hp),by omega,hg6.size⟩)
 clear hi6 hg6 CN p5 p0 mm CFD
 go_wp2
 go_loopw [7,23] (fun v j wr=>∃ k:Nat,k≤n∧j=.int .i64 k∧∃ out rest,Hid (EXN w0 w wr i r (w.heap.size+3) w.heap.size (w.heap.size+2) (w.heap.size+1) ab w4.heap.size kn ys n v k out rest)) (fun _ j _=>n - (intOf j).toNat)
 case atStart=>exact ⟨0,Nat.zero_le _,rfl,[],ys,HE6⟩
 case round=>
  obtain ⟨k,hk,rfl,out,rest,HE⟩:=hrel
  by_cases hlt:k < n
  ·have HEd:=Lib.hid (HE.out.below (below_drewN (Below.refl _ wr) 1))
   have CX:=next_any a rest HEd.out.byt (by have h1:=HEd.out.len;have h2:=HN.out;omega) (fun {id} p hp=>bse_depth HEd.out.dep HKD.out p hp) HEd.out.rds HEd.out.at_ HT.out HS.out
   unfold NextPost at CX
   have pa:wr.drew.cell? ⟨ab,0,none⟩=some (.func (.func 22) #[] #[]):=HEd.out.ask.cell 0
   have i1:((k:Nat):Int) < n:=by omega
   have i2:((k:Nat):Int) < 64:=by have:=HN.out;omega
   have hm:Tryz.prog.follows .mixedOrders=true:=by kernel_rfl
   have HLTK:=Lib.hid hlt
   cases hst:Pk.step (out.map Pk.It.item) (kn.map Pk.It.item) rest with
   | bad c=>
    rw [hst] at CX
    simp only at CX
    have HB:Hid (∀ e w',Ends wr.drew r (w.heap.size+2) (ecode a c) e w'→EachN w0 w i r kn a (n::ys) e w'):=Lib.hid (fun e w' hF=>by
     have hgo:=HEd.out.go
     rw [show n - k=(n - k - 1)+1 by omega,Pk.goR,hst] at hgo
     unfold EachN
     rw [HRD.out,hgo]
     exact ⟨hF.1,hF.2.1,Kpt.old HEd.out.kpt hF.2.2 (fun x hx hl=>by rcases hx with hx | hx;exact hx;have:=HEd.out.low;omega)⟩)
    clear hst hlt HE
    go_wp2
    refine wp_region_held (S:=fun w'=>w'.cell? ⟨ab,0,none⟩=some (.func (.func 22) #[] #[])) hm ?_
    change wpAnyH _ _ _ _ _ _ _ _ wr.drew
    refine wpAnyH_take (i:=0) (v:=?_) rfl (by kernel_rfl) (by kernel_rfl) (by kernel_rfl) (fun _ _ _ h=>h) (Or.inl ⟨by rfl,?_⟩) pa ?_
    rotate_left
    ·intro w' hw;go_simp;with_reducible rfl
    try go_frame
    refine wpAnyH_take (i:=1) (v:=?_) rfl (by kernel_rfl) (by kernel_rfl) (by kernel_rfl) (fun _ _ _ h=>h) (Or.inl ⟨by rfl,?_⟩) pa ?_
    rotate_left
    ·intro w' hw
     have hw':w'.cell? ⟨ab,0,none⟩=some (.func (.func 22) #[] #[]):=hw
     go_simp;with_reducible rfl
    try go_frame
    refine all_one (i:=2) (by kernel_rfl) rfl (by rfl) (fun K hK=>?_)
    go_simp
    refine CX.mono ?_
    rintro e w9 hF
    have HE9:=HB.out e w9 hF
    obtain ⟨rfl,_,_⟩:=hF
    exact ⟨rfl,HE9⟩
   | ok q=>
    rw [hst] at CX
    simp only at CX
    have HST:=Lib.hid hst
    clear hst hlt HE
    go_wp2
    refine wp_region_held (S:=fun w'=>w'.cell? ⟨ab,0,none⟩=some (.func (.func 22) #[] #[])) hm ?_
    change wpAnyH _ _ _ _ _ _ _ _ wr.drew
    refine wpAnyH_take (i:=0) (v:=?_) rfl (by kernel_rfl) (by kernel_rfl) (by kernel_rfl) (fun _ _ _ h=>h) (Or.inl ⟨by rfl,?_⟩) pa ?_
    rotate_left
    ·intro w' hw;go_simp;with_reducible rfl
    try go_frame
    refine wpAnyH_take (i:=1) (v:=?_) rfl (by kernel_rfl) (by kernel_rfl) (by kernel_rfl) (fun _ _ _ h=>h) (Or.inl ⟨by rfl,?_⟩) pa ?_
    rotate_left
    ·intro w' hw
     have hw':w'.cell? ⟨ab,0,none⟩=some (.func (.func 22) #[] #[]):=hw
     go_simp;with_reducible rfl
    try go_frame
    refine all_one (i:=2) (by kernel_rfl) rfl (by rfl) (fun K hK=>?_)
    go_simp
    refine CX.mono ?_
    rintro e w5 ⟨p,hpi,rfl,hR5,hI5,hk5,hnew⟩
    have ha5:Blk w5 ab 66 #[.func (.func 22) #[] #[]]:=hk5.blk HEd.out.ask (by have h1:=HEd.out.low;omega)
    refine hK _ _ (ha5.cell 0) ?_
    try go_frame
    obtain ⟨⟨A1,c1,hpv,_⟩,_⟩:=hR5.outs p (by simp)
    have CK:Calls Tryz.prog 22 #[p.v] w5 fun e w'=>e=.returned (.int .i64 (p.depth:Int))∧Below w5.heap.size w5 w':=by
     unfold Pk.It.v
     rw [hpv]
     exact askN_any _ (sum_id _) A1 _ c1 _ w5
    have HV1:Hid ((.int .i64 (p.depth:Int):Value).oneCell'=true):=Lib.hid (by first | rfl | (rw [hpv];rfl))
    have HPI:=Lib.hid hpi
    have HR5:=Lib.hid hR5
    have HI5:=Lib.hid hI5
    have HK5:=Lib.hid hk5
    have HNW:=Lib.hid hnew
    have HA5:=Lib.hid ha5
    have HVC:Hid ((.int .i64 (p.depth:Int):Value).cells=[(.int .i64 (p.depth:Int):Value)].toArray):=Lib.hid (by first | rfl | (rw [hpv];rfl))
    obtain ⟨vl,hvl⟩:∃ vl:Value,vl=(.int .i64 (p.depth:Int)):=⟨_,rfl⟩
    have HVL:=Lib.hid hvl
    rw [←hvl] at CK HV1 HVC
    clear hpi hR5 hI5 hk5 hnew ha5 hpv hvl CX pa
    refine all_one (i:=3) (by kernel_rfl) rfl (by rfl) (fun K hK=>?_)
    go_simp
    refine CK.mono ?_
    rintro e w6 ⟨rfl,hb6⟩
    refine hK _ _ ((HA5.out.below hb6 HA5.out.lt).cell 0) ?_
    try go_frame
    obtain ⟨ei,hei,hez,hes,heb⟩:=info_parts elN_info
    have HEI:=Lib.hid (And.intro hei (And.intro hez (And.intro hes heb)))
    clear hei hez hes heb
    refine all_one (i:=4) (by kernel_rfl) rfl (by rfl) (fun K hK=>?_)
    refine wp_buildSliceK 35 3 1 _ (by rfl) #[vl] ei _ Tryz.underlying35 HEI.out.1 HEI.out.2.1 (by rw [HEI.out.2.2.1];decide) (by rw [HEI.out.2.2.1];decide) [(0,vl)] (by kernel_rfl) (by rw [HEI.out.2.2.1];exact fill_cell _ vl HVC.out) ?_
    have b7:Below w6.heap.size w6 (w6.alloc (.cells #[vl] 3)):=(Below.refl _ _).alloc (Nat.le_refl _) _
    have hb7:=below_next hb6 b7
    refine hK _ _ ((HA5.out.below hb7 HA5.out.lt).cell 0) ?_
    try go_frame
    have HX7:Hid (Blk (w6.alloc (.cells #[vl] 3)) w6.heap.size 3 #[vl]):=Lib.hid (Blk.new w6 _ _)
    have HB7:=Lib.hid hb7
    generalize w6.alloc (.cells #[vl] 3)=w7 at HX7 HB7 ⊢
    clear b7 hb7 hb6 CK
    have HO7:Hid (w7.ownsRow w4.heap.size 3 1 u7 k (out.map (fun p=>Value.int .i64 (p.depth:Int)))):=Lib.hid (own_kpt (own_kpt HEd.out.own ⟨HK5.out.os,HK5.out.tape,HK5.out.output,HK5.out.size,fun b hb hn=>HK5.out.block b hb (fun e=>hn (by have h1:=HEd.out.low;have h2:=HEd.out.rds.ord;have h3:=HS4.out;omega))⟩) (Kpt.of_below (S:=fun b=>b < w4.heap.size) HB7.out))
    have HCL:Hid (∀ (j:Nat) u,[vl][j]? = some u→w7.cell? ((⟨w6.heap.size,0,none⟩:Addr).add j)=some u):=Lib.hid (fun j u hj=>by rw [Addr.add_mid,Nat.zero_add,HX7.out.cell j];simpa using hj)
    generalize w6.heap.size=g9 at HCL HX7 ⊢
    refine all_one (i:=5) (by kernel_rfl) rfl (by rfl) (fun K hK=>?_)
    refine wp_append_lies w7 (.tmp 25) (.tmp 29) 35 (by rfl) w4.heap.size 3 ei _ 1 _ Tryz.underlying35 HEI.out.1 HEI.out.2.1 HEI.out.2.2.1 HEI.out.2.2.2 (by rfl) (by decide) u7 k _ (by rfl) HO7.out ⟨g9,0,none⟩ 1 1 [vl] (by rfl) (by rfl) HCL.out (by intro u hu;rw [List.mem_singleton.1 hu];exact HV1.out) (by decide) (by unfold maxLen;omega) (by omega) (Nat.le_trans HEd.out.big (Nat.le_trans HK5.out.size HB7.out.size)) w7.heap.size rfl ?_
    intro g' cap w8 ho8 hg8 hl8 _
    have HX8:Hid (EXN w0 w w8 i r (w.heap.size+3) w.heap.size (w.heap.size+2) (w.heap.size+1) ab w4.heap.size kn ys n (.slice (some ⟨g',0,none⟩) (k+1) cap) (k+1) (out++[p]) q.2):=Lib.hid (HEd.out.step HLTK.out HKB.out HST.out HPI.out HR5.out HI5.out HK5.out HNW.out HB7.out (by rw [←HVL.out];exact ho8) hg8 hl8)
    clear ho8 hg8 hl8
    refine hK _ _ (HX8.out.ask.cell 0) ?_
    try go_frame
    refine all_one (i:=6) (by kernel_rfl) rfl (by rfl) (fun K hK=>?_)
    go_simp
    refine hK _ _ (HX8.out.ask.cell 0) ?_
    try go_frame
    refine wpAnyH_done (by kernel_rfl) ?_ _
    go_wp2
    go_roundw
    case rel=>exact ⟨k+1,by omega,by go_num,out++[p],q.2,HX8⟩
    case measure=>simp [intOf];omega
  ·obtain rfl:k=n:=by omega
   have ik:¬((k:Nat):Int) < k:=by omega
   have HF:Hid (EachN w0 w i r kn a (k::ys) (.returned u7) wr):=Lib.hid (by
    unfold EachN
    have hg:=HE.out.go
    rw [Nat.sub_self] at hg
    rw [HRD.out,hg]
    exact ⟨u7,out,rfl,rfl,HE.out.at_,HE.out.kpt,⟨⟨w4.heap.size,by have h1:=HS4.out;have h2:=HLT.out;omega,by have h:=HE.out.own;rw [←HE.out.len] at h;exact h⟩,fun p hp=>⟨rdB_of (HE.out.rds.outs p hp).1 (noU_in HE.out.at_),(HE.out.rds.outs p hp).2⟩⟩⟩)
   clear HE
   go_wp2
   go_ret
   exact HF.out
end Go.Proofs.YtndgadjeeinedaaGreatDoor
