/- An item's base: one that is known, or none. -/
import Derived.Maps.RangeWalk
import Derived.Test.YtndgadjeeinedaaGreatDoorMPk8
set_option maxRecDepth 100000
namespace Go.Proofs.YtndgadjeeinedaaGreatDoor
open Go Go.RowKit
theorem ByS.put {w w':World} {bB x t:Nat} {cs:Array Value} {kn:List Pk.It} (h:ByS w bB kn) (hg:w.grownBy w' (some x)) (hx:Blk w x t cs) (hne:bB≠x):ByS w' bB kn:=by
 rcases h with h | ⟨m,n,h1,h2,h3⟩
 ·exact Or.inl (h.grown hg (fun e=>hne (by injection e)))
 ·refine Or.inr ⟨m,n,h1.grown hg (fun e=>hne (by injection e)),h2,h3.kept hg (fun e=>?_)⟩
  injection e with e
  obtain ⟨es,ck,hm⟩:=h3.is
  rw [e,show w.heap[x]? = _ from hx] at hm
  cases hm
theorem ByS.next {w w':World} {bB:Nat} {kn:List Pk.It} (h:ByS w bB kn) (hb:Below w.heap.size w w'):ByS w' bB kn:=h.kpt (Kpt.of_below (S:=fun _=>False) hb) (fun _ _ h=>h)
set_option maxHeartbeats 4000000 in
theorem base_known {w0 w:World} {i r g mb bB bK:Nat} {out kn:List Pk.It} {xs:List Nat} (id:List Nat) (h:RdS w0 w i r g mb bB bK out kn) (hi:InAt w0 w i r xs) (ht:Tabs w0) (hid:Id32 id) (hf:Pk.fnd out id=none) (p:Pk.It) (hfk:Pk.fnd kn id=some p) :
  Calls Tryz.prog 81 #[.pointer (some ⟨g,0,none⟩),.agg (u8s id)] w fun e w'=>e=.returned p.v∧ByS w' bB kn∧Kpt (fun x=>x=bB) w w':=by
 have hpo:=KnS.vals h.kn_ p (Pk.fnd_mem hfk).1
 obtain ⟨cp,hcp⟩:∃ cp,cp=(itemC (Sha.sum p.text) p.val p.depth).toArray:=⟨_,rfl⟩
 have hpv:p.v=.agg cp:=by rw [hcp];rfl
 have HC4:Hid (cp.size=34):=Lib.hid (by rw [hcp,List.size_toArray,itemC_len (sum_id _)])
 have HC5:Hid (cp.all (·.oneCell')=true):=Lib.hid (by rw [hcp];exact itemC_one hpo _)
 rw [hpv]
 have HPV:=Lib.hid hpv
 have HFK:=Lib.hid hfk
 have HOR:=Lib.hid h.ord
 have HLT:Hid (bB < w.heap.size):=Lib.hid (by have h1:=h.g_.lt;have h2:=h.ord;omega)
 have HLO:Hid (w0.heap.size≤bB):=Lib.hid (by have h1:=hi.bel.2;have h2:=h.ord;omega)
 have HIN:=Lib.hid hi
 have HT:=Lib.hid ht
 obtain ⟨w2,hw2⟩:∃ w2,w2=(w.alloc (.cells (u8s id) 42)).alloc (.cells (itemC zid nilV 0).toArray 44):=⟨_,rfl⟩
 have b2:Below w.heap.size w w2:=hw2▸((Below.refl _ _).alloc (Nat.le_refl _) _).alloc (by simp) _
 have HI:Hid (Blk w2 w.heap.size 42 (u8s id)):=Lib.hid (hw2▸(Blk.new w _ _).alloc _)
 have HZ:Hid (Blk w2 (w.heap.size+1) 44 (itemC zid nilV 0).toArray):=Lib.hid (by rw [hw2];have h:=Blk.new (w.alloc (.cells (u8s id) 42)) 44 (itemC zid nilV 0).toArray;rwa [World.size_alloc] at h)
 have hm:Tryz.prog.follows .mixedOrders=true:=by kernel_rfl
 have hR2:=h.below b2
 have p1:∀ w',Below w2.heap.size w2 w'→w'.cell? ⟨g,1,none⟩=some (.map (some mb)):=fun w' hw=>(hR2.g_.below hw hR2.g_.lt).cell 1
 have HR2:=Lib.hid hR2
 have HL:=Lib.hid hid
 have HB2:=Lib.hid b2
 have q0:∀ w',Below w2.heap.size w2 w'→(Instr.lookup 40 (.map (some mb)) (.agg (u8s id)) true).run Tryz.prog w'=.ok (.tuple #[zItem,.bool false]) w':=fun w' hw=>by
  have h:=(hR2.map.below hw).look_ok Tryz.underlying40 (zeroItem _) hid
  rw [show (Pk.fnd out id).map Pk.It.v=none by rw [hf];rfl] at h
  exact h
 clear hpo hpv hcp hf hfk hi ht
 have e2:=hw2.symm
 have h20:Below w2.heap.size w2 w2.drew:=below_drewN (Below.refl _ w2) 1
 clear b2 hid hw2 hR2 h
 go_enter Tryz.func81,Tryz.ntmps81
 go_wp2
 refine wp_region_held (S:=fun w'=>Below w2.heap.size w2 w') hm ?_
 change wpAnyH _ _ _ _ _ _ _ _ ((w.alloc (.cells (u8s id) 42)).alloc (.cells (itemC zid nilV 0).toArray 44)).drew
 rw [e2]
 refine wpAnyH_take (i:=0) (v:=?_) rfl (by kernel_rfl) (by kernel_rfl) (by kernel_rfl) (fun _ _ _ h=>h) (Or.inl ⟨by rfl,?_⟩) h20 ?_
 rotate_left
 ·intro w' hw;go_simp;with_reducible rfl
 try go_frame
 refine wpAnyH_take (i:=1) (v:=?_) rfl (by kernel_rfl) (by kernel_rfl) (by kernel_rfl) (fun _ _ _ h=>h) (Or.inl ⟨by rfl,?_⟩) h20 ?_
 rotate_left
 ·intro w' hw;go_simp;with_reducible rfl
 try go_frame
 refine wpAnyH_take (i:=2) (v:=?_) rfl (by kernel_rfl) (by kernel_rfl) (by kernel_rfl) (fun _ _ _ h=>h) (Or.inl ⟨by rfl,?_⟩) h20 ?_
 rotate_left
 ·intro w' hw;go_simp;with_reducible rfl
 try go_frame
 refine wpAnyH_take (i:=3) (v:=?_) rfl (by kernel_rfl) (by kernel_rfl) (by kernel_rfl) (fun _ _ _ h=>h) (Or.inl ⟨by rfl,?_⟩) h20 ?_
 rotate_left
 ·intro w' hw;go_simp;with_reducible rfl
 try go_frame
 refine wpAnyH_take (i:=4) (v:=.agg (u8s id)) rfl (by kernel_rfl) (by kernel_rfl) (by kernel_rfl) (fun _ _ _ h=>h) (takes_row 42 (.tmp 3) rfl (by rfl) w.heap.size rfl 42 (u8s id) _ (fun w' hw=>HI.out.below hw HI.out.lt) Tryz.underlying42 rfl (by rw [u8s_size,HL.out.1];exact oid_load)) h20 ?_
 try go_frame
 refine wpAnyH_take (i:=5) (v:=?_) rfl (by kernel_rfl) (by kernel_rfl) (by kernel_rfl) (fun _ _ _ h=>h) (Or.inl ⟨by rfl,?_⟩) h20 ?_
 rotate_left
 ·intro w' hw;go_simp;with_reducible rfl
 try go_frame
 refine wpAnyH_take (i:=6) (v:=?_) rfl (by kernel_rfl) (by kernel_rfl) (by kernel_rfl) (fun _ _ _ h=>h) (Or.inl ⟨by rfl,?_⟩) h20 ?_
 rotate_left
 ·intro w' hw;go_simp;with_reducible rfl
 try go_frame
 refine wpAnyH_take (i:=7) (v:=?_) rfl (by kernel_rfl) (by kernel_rfl) (by kernel_rfl) (fun _ _ _ h=>h) (Or.inl ⟨by rfl,?_⟩) h20 ?_
 rotate_left
 ·intro w' hw;go_simp;with_reducible rfl
 try go_frame
 refine wpAnyH_take (i:=8) (v:=?_) rfl (by kernel_rfl) (by kernel_rfl) (by kernel_rfl) (fun _ _ _ h=>h) (Or.inl ⟨by rfl,?_⟩) h20 ?_
 rotate_left
 ·intro w' hw;go_simp;with_reducible rfl
 try go_frame
 refine all_one (i:=9) (by kernel_rfl) rfl (by rfl) (fun K hK=>?_)
 go_simp
 refine hK _ _ (h20.alloc (Nat.le_refl _) _) ?_
 try go_frame
 refine all_one (i:=10) (by kernel_rfl) rfl (by rfl) (fun K hK=>?_)
 refine wp_store_row 44 (.tmp 5) (.tmp 16) (by rfl) w2.heap.size (itemC zid nilV 0).toArray (by rfl) (by rfl) 44 (itemC zid nilV 0).toArray (Blk.new w2.drew _ _) (by rw [zItem_size];exact item_size) (by rfl) (itemC_one rfl 0) ?_
 have b3:Below w2.heap.size w2 ((w2.drew.alloc (.cells (itemC zid nilV 0).toArray 44)).setRow w2.heap.size (itemC zid nilV 0).toArray):=below_row (h20.alloc (Nat.le_refl _) _) (Nat.le_refl _) _
 refine hK _ _ b3 ?_
 try simp only [Act.put,List.getElem_toArray,List.getElem_cons_zero,List.getElem_cons_succ]
 have HX3:Hid (Blk ((w2.drew.alloc (.cells (itemC zid nilV 0).toArray 44)).setRow w2.heap.size (itemC zid nilV 0).toArray) w2.heap.size 44 (itemC zid nilV 0).toArray):=Lib.hid ((Blk.new w2.drew _ _).row _)
 have b3:Below w2.heap.size w2 ((w2.drew.alloc (.cells (itemC zid nilV 0).toArray 44)).setRow w2.heap.size (itemC zid nilV 0).toArray):=below_row (h20.alloc (Nat.le_refl _) _) (Nat.le_refl _) _
 change wpAnyH _ _ _ _ _ _ _ _ ((w2.drew.alloc (.cells (itemC zid nilV 0).toArray 44)).setRow w2.heap.size (itemC zid nilV 0).toArray)
 generalize (w2.drew.alloc (.cells (itemC zid nilV 0).toArray 44)).setRow w2.heap.size (itemC zid nilV 0).toArray=w3 at HX3 b3 ⊢
 refine all_one (i:=11) (by kernel_rfl) rfl (by rfl) (fun K hK=>?_)
 go_simp
 refine hK _ _ b3 ?_
 try go_frame
 refine wpAnyH_done (by kernel_rfl) ?_ _
 have HZ3:=Lib.hid (HZ.out.below b3 HZ.out.lt)
 have HB3:=Lib.hid (below_next HB2.out b3)
 have HB23:=Lib.hid b3
 clear b3 q0 p1 h20
 have HR3:=Lib.hid (HR2.out.below HB23.out)
 have HI3:=Lib.hid (HI.out.below HB23.out HI.out.lt)
 have HZ3:=Lib.hid (HZ.out.below HB23.out HZ.out.lt)
 have p2:∀ w',Kpt (fun x=>x=bB) w3 w'→w'.cell? ⟨g,2,none⟩=some (.func (.func 61) #[] #[.pointer (some ⟨bB,0,none⟩),.pointer (some ⟨bK,0,none⟩)]):=fun w' hk=>(hk.blk HR3.out.g_ (by have:=HR3.out.ord;omega)).cell 2
 have HNI:Hid (w.heap.size≠bB):=Lib.hid (by have h1:=HLT.out;omega)
 have HWW:Hid (Below w.heap.size w w3):=Lib.hid (below_next HB2.out HB23.out)
 have h30:Kpt (fun x=>x=bB) w3 w3.drew:=Kpt.of_below (below_drewN (Below.refl _ w3) 1)
 have CF:=fun wb (hb:Below w3.heap.size w3 wb)=>find1_any bB bK kn id w0 wb (HR3.out.by_.next hb) (HR3.out.kn_.kpt (Kpt.of_below (S:=fun x=>x=bB) hb) (by have:=HR3.out.ord;omega)) (below_then (below_then HIN.out.bel.1 HWW.out) hb) HLO.out (by have:=HR3.out.ord;omega) HL.out HT.out
 simp only [HFK.out,Option.map_some,Option.getD_some,Option.isSome_some,HPV.out] at CF
 have s4:w.heap.size+1 < w3.heap.size:=HZ3.out.lt
 clear HX3
 go_wp2
 refine wp_region_held (S:=fun w'=>Kpt (fun x=>x=bB) w3 w') hm ?_
 change wpAnyH _ _ _ _ _ _ _ _ w3.drew
 refine wpAnyH_take (i:=0) (v:=?_) rfl (by kernel_rfl) (by kernel_rfl) (by kernel_rfl) (fun _ _ _ h=>h) (Or.inl ⟨by rfl,?_⟩) h30 ?_
 rotate_left
 ·intro w' hw;go_simp;with_reducible rfl
 try go_frame
 refine wpAnyH_take (i:=1) (v:=?_) rfl (by kernel_rfl) (by kernel_rfl) (by kernel_rfl) (fun _ _ _ h=>h) (Or.inl ⟨by rfl,?_⟩) h30 ?_
 rotate_left
 ·intro w' hw;go_simp;with_reducible rfl
 try go_frame
 refine wpAnyH_take (i:=2) (v:=?_) rfl (by kernel_rfl) (by kernel_rfl) (by kernel_rfl) (fun _ _ _ h=>h) (Or.inl ⟨by rfl,?_⟩) h30 ?_
 rotate_left
 ·intro w' hw;go_simp;with_reducible rfl
 try go_frame
 refine wpAnyH_take (i:=3) (v:=?_) rfl (by kernel_rfl) (by kernel_rfl) (by kernel_rfl) (fun _ _ _ h=>h) (Or.inl ⟨by rfl,?_⟩) h30 ?_
 rotate_left
 ·intro w' hw;go_simp;with_reducible rfl
 try go_frame
 refine wpAnyH_take (i:=4) (v:=.agg (u8s id)) rfl (by kernel_rfl) (by kernel_rfl) (by kernel_rfl) (fun _ _ _ h=>h) (takes_row 42 (.tmp 3) rfl (by rfl) w.heap.size rfl 42 (u8s id) _ (fun w' hw=>hw.blk HI3.out HNI.out) Tryz.underlying42 rfl (by rw [u8s_size,HL.out.1];exact oid_load)) h30 ?_
 try go_frame
 refine all_two (i:=5) (j:=9) (by kernel_rfl) rfl rfl (by rfl) (by rfl) (fun K hK=>?_) (fun K hK=>?_)
 ·go_simp
  refine (CF w3.drew (below_drewN (Below.refl _ w3) 1)).mono ?_
  rintro e w5a ⟨rfl,hy5,hk5⟩
  have h35:Kpt (fun x=>x=bB) w3 w5a:=h30.trans hk5
  refine hK _ _ h35 ?_
  try go_frame
  refine wpAnyH_take (i:=6) (v:=?_) rfl (by kernel_rfl) (by kernel_rfl) (by kernel_rfl) (fun _ _ _ h=>h) (Or.inl ⟨by rfl,?_⟩) h35 ?_
  rotate_left
  ·intro w' hw;go_simp;with_reducible rfl
  try go_frame
  refine wpAnyH_take (i:=7) (v:=?_) rfl (by kernel_rfl) (by kernel_rfl) (by kernel_rfl) (fun _ _ _ h=>h) (Or.inl ⟨by rfl,?_⟩) h35 ?_
  rotate_left
  ·intro w' hw;go_simp;with_reducible rfl
  try go_frame
  refine wpAnyH_take (i:=8) (v:=?_) rfl (by kernel_rfl) (by kernel_rfl) (by kernel_rfl) (fun _ _ _ h=>h) (Or.inl ⟨by rfl,?_⟩) h35 ?_
  rotate_left
  ·intro w' hw;go_simp;with_reducible rfl
  try go_frame
  refine all_one (i:=9) (by kernel_rfl) rfl (by rfl) (fun K hK=>?_)
  go_simp
  refine hK _ _ (h35.trans (Kpt.of_below ((Below.refl _ _).alloc (Nat.le_refl _) _))) ?_
  try go_frame
  change wpAnyH _ _ _ _ _ _ _ _ (w5a.alloc (.cells (itemC zid nilV 0).toArray 44))
  have HZ7:Hid (Blk (w5a.alloc (.cells (itemC zid nilV 0).toArray 44)) w5a.heap.size 44 (itemC zid nilV 0).toArray):=Lib.hid (Blk.new w5a _ _)
  have HG7:Hid (w3.heap.size≤w5a.heap.size):=Lib.hid h35.size
  have b6:Below w5a.heap.size w5a (w5a.alloc (.cells (itemC zid nilV 0).toArray 44)):=(Below.refl _ _).alloc (Nat.le_refl _) _
  replace hy5:=hy5.next b6
  replace h35:=h35.trans (Kpt.of_below (S:=fun x=>x=bB) b6)
  clear hk5
  generalize w5a.alloc (.cells (itemC zid nilV 0).toArray 44)=w5 at HZ7 hy5 h35 ⊢
  clear b6
  generalize w5a.heap.size=g7 at HZ7 HG7 ⊢
  clear w5a
  refine all_one (i:=10) (by kernel_rfl) rfl (by rfl) (fun K hK=>?_)
  refine wp_store_row 44 (.tmp 7) (.tmp 27) (by rfl) g7 cp (by rfl) (by rfl) 44 (itemC zid nilV 0).toArray HZ7.out (by rw [HC4.out];exact item_size) (by rw [HC4.out];rfl) HC5.out ?_
  refine hK _ _ (Kpt.old h35 (Kpt.of_grown (S:=fun x=>x=g7) (only_setRow (World.grownBy.refl w5 _) (Or.inl rfl) _) rfl) (fun x hx hl=>by have:=HG7.out;omega)) ?_
  try simp only [Act.put,List.getElem_toArray,List.getElem_cons_zero,List.getElem_cons_succ]
  have HX6:Hid (Blk (w5.setRow g7 cp) g7 44 cp):=Lib.hid (HZ7.out.row _)
  have hg6:w5.grownBy (w5.setRow g7 cp) (some g7):=only_setRow (World.grownBy.refl w5 _) (Or.inl rfl) _
  have HY6:=Lib.hid (hy5.put hg6 HZ7.out (by have h1:=HLT.out;have h2:=HG7.out;omega))
  have h36:Kpt (fun x=>x=bB) w3 (w5.setRow g7 cp):=Kpt.old h35 (Kpt.of_grown (S:=fun x=>x=g7) hg6 rfl) (fun x hx hl=>by have:=HG7.out;omega)
  clear hg6 hy5
  generalize w5.setRow g7 cp=w6 at HX6 HY6 h36 ⊢
  clear h35
  refine all_one (i:=11) (by kernel_rfl) rfl (by rfl) (fun K hK=>?_)
  go_simp
  refine hK _ _ h36 ?_
  try go_frame
  refine wpAnyH_done (by kernel_rfl) ?_ _
  have HK6:=Lib.hid ((Kpt.of_below (S:=fun x=>x=bB) HWW.out).trans h36)
  have HZ6:=Lib.hid (h36.blk HZ3.out (by have h1:=HLT.out;omega))
  have HR6:=Lib.hid (HR3.out.found HY6.out h36)
  have HI6:=Lib.hid ((HIN.out.below HWW.out).kpt h36 (by have:=HOR.out;omega) (by have:=HOR.out;omega) (fun x hx=>by have:=HLO.out;omega))
  clear h36 h30 CF p2
  go_wp2_with (with_reducible (show wpList _ _ _ (Oper.mk _ (Op.load 44 _) _ _ _ _::_) _ _);refine pause ?_)
  unfold Paused
  refine wpList_row_w (by rfl) 44 (.tmp 7) (by rfl) g7 (by rfl) 44 cp _ HX6.out Tryz.underlying44 (by rfl) (by rw [HC4.out];exact item_size) ?_
  go_wp2_with (with_reducible (show wpList _ _ _ (Oper.mk _ (Op.store 44 _ _) _ _ _ _::_) _ _);refine pause ?_)
  unfold Paused
  refine wpList_store_row (by rfl) 44 (.tmp 4) (.tmp 37) (by rfl) (w.heap.size+1) cp (by rfl) (by rfl) 44 (itemC zid nilV 0).toArray HZ6.out (by rw [HC4.out];exact item_size) (by rw [HC4.out];rfl) HC5.out ?_
  have HX7:=Lib.hid (HZ6.out.row cp)
  have hg7:w6.grownBy (w6.setRow (w.heap.size+1) cp) (some (w.heap.size+1)):=only_setRow (World.grownBy.refl w6 _) (Or.inl rfl) _
  have HK7:Hid (Kpt (fun x=>x=bB) w (w6.setRow (w.heap.size+1) cp)):=Lib.hid (Kpt.old HK6.out (Kpt.of_grown (S:=fun x=>x=w.heap.size+1) hg7 rfl) (fun x hx hl=>by omega))
  have HY7:=Lib.hid (HY6.out.put hg7 HZ6.out (by have h1:=HLT.out;omega))
  clear hg7
  generalize w6.setRow (w.heap.size+1) cp=w7 at HX7 HK7 HY7 ⊢
  simp only [Act.put]
  go_wp2
  exact bodyPost_ret (v:=.agg cp) (resultsP (t:=4) rfl (by rfl) HX7.out HC4.out) rfl ⟨rfl,HY7.out,HK7.out⟩
 ·go_simp
  have b6:Below w3.heap.size w3 (w3.drew.alloc (.cells (itemC zid nilV 0).toArray 44)):=(below_drewN (Below.refl _ w3) 1).alloc (Nat.le_refl _) _
  have HZb:Hid (Blk (w3.drew.alloc (.cells (itemC zid nilV 0).toArray 44)) w3.heap.size 44 (itemC zid nilV 0).toArray):=Lib.hid (Blk.new w3.drew _ _)
  refine hK _ _ (Kpt.of_below b6) ?_
  try go_frame
  change wpAnyH _ _ _ _ _ _ _ _ (w3.drew.alloc (.cells (itemC zid nilV 0).toArray 44))
  replace CF:=CF _ b6
  generalize w3.drew.alloc (.cells (itemC zid nilV 0).toArray 44)=wb at b6 HZb CF ⊢
  refine all_one (i:=5) (by kernel_rfl) rfl (by rfl) (fun K hK=>?_)
  go_simp
  refine CF.mono ?_
  rintro e w5 ⟨rfl,hy5,hk5⟩
  have h35:Kpt (fun x=>x=bB) w3 w5:=(Kpt.of_below b6).trans hk5
  refine hK _ _ h35 ?_
  try go_frame
  refine wpAnyH_take (i:=6) (v:=?_) rfl (by kernel_rfl) (by kernel_rfl) (by kernel_rfl) (fun _ _ _ h=>h) (Or.inl ⟨by rfl,?_⟩) h35 ?_
  rotate_left
  ·intro w' hw;go_simp;with_reducible rfl
  try go_frame
  refine wpAnyH_take (i:=7) (v:=?_) rfl (by kernel_rfl) (by kernel_rfl) (by kernel_rfl) (fun _ _ _ h=>h) (Or.inl ⟨by rfl,?_⟩) h35 ?_
  rotate_left
  ·intro w' hw;go_simp;with_reducible rfl
  try go_frame
  refine wpAnyH_take (i:=8) (v:=?_) rfl (by kernel_rfl) (by kernel_rfl) (by kernel_rfl) (fun _ _ _ h=>h) (Or.inl ⟨by rfl,?_⟩) h35 ?_
  rotate_left
  ·intro w' hw;go_simp;with_reducible rfl
  try go_frame
  have HZ7:Hid (Blk w5 w3.heap.size 44 (itemC zid nilV 0).toArray):=Lib.hid (hk5.blk HZb.out (by have:=HLT.out;omega))
  obtain ⟨g7,hg7⟩:∃ x,x=w3.heap.size:=⟨_,rfl⟩
  rw [←hg7] at HZ7 ⊢
  have HG7:Hid (w3.heap.size≤g7):=Lib.hid (by omega)
  clear hk5 HZb b6 CF hg7
  refine all_one (i:=10) (by kernel_rfl) rfl (by rfl) (fun K hK=>?_)
  refine wp_store_row 44 (.tmp 7) (.tmp 27) (by rfl) g7 cp (by rfl) (by rfl) 44 (itemC zid nilV 0).toArray HZ7.out (by rw [HC4.out];exact item_size) (by rw [HC4.out];rfl) HC5.out ?_
  refine hK _ _ (Kpt.old h35 (Kpt.of_grown (S:=fun x=>x=g7) (only_setRow (World.grownBy.refl w5 _) (Or.inl rfl) _) rfl) (fun x hx hl=>by have:=HG7.out;omega)) ?_
  try simp only [Act.put,List.getElem_toArray,List.getElem_cons_zero,List.getElem_cons_succ]
  have HX6:Hid (Blk (w5.setRow g7 cp) g7 44 cp):=Lib.hid (HZ7.out.row _)
  have hg6:w5.grownBy (w5.setRow g7 cp) (some g7):=only_setRow (World.grownBy.refl w5 _) (Or.inl rfl) _
  have HY6:=Lib.hid (hy5.put hg6 HZ7.out (by have h1:=HLT.out;have h2:=HG7.out;omega))
  have h36:Kpt (fun x=>x=bB) w3 (w5.setRow g7 cp):=Kpt.old h35 (Kpt.of_grown (S:=fun x=>x=g7) hg6 rfl) (fun x hx hl=>by have:=HG7.out;omega)
  clear hg6 hy5
  generalize w5.setRow g7 cp=w6 at HX6 HY6 h36 ⊢
  clear h35
  refine all_one (i:=11) (by kernel_rfl) rfl (by rfl) (fun K hK=>?_)
  go_simp
  refine hK _ _ h36 ?_
  try go_frame
  refine wpAnyH_done (by kernel_rfl) ?_ _
  have HK6:=Lib.hid ((Kpt.of_below (S:=fun x=>x=bB) HWW.out).trans h36)
  have HZ6:=Lib.hid (h36.blk HZ3.out (by have h1:=HLT.out;omega))
  have HR6:=Lib.hid (HR3.out.found HY6.out h36)
  have HI6:=Lib.hid ((HIN.out.below HWW.out).kpt h36 (by have:=HOR.out;omega) (by have:=HOR.out;omega) (fun x hx=>by have:=HLO.out;omega))
  clear h36 h30 p2
  go_wp2_with (with_reducible (show wpList _ _ _ (Oper.mk _ (Op.load 44 _) _ _ _ _::_) _ _);refine pause ?_)
  unfold Paused
  refine wpList_row_w (by rfl) 44 (.tmp 7) (by rfl) g7 (by rfl) 44 cp _ HX6.out Tryz.underlying44 (by rfl) (by rw [HC4.out];exact item_size) ?_
  go_wp2_with (with_reducible (show wpList _ _ _ (Oper.mk _ (Op.store 44 _ _) _ _ _ _::_) _ _);refine pause ?_)
  unfold Paused
  refine wpList_store_row (by rfl) 44 (.tmp 4) (.tmp 37) (by rfl) (w.heap.size+1) cp (by rfl) (by rfl) 44 (itemC zid nilV 0).toArray HZ6.out (by rw [HC4.out];exact item_size) (by rw [HC4.out];rfl) HC5.out ?_
  have HX7:=Lib.hid (HZ6.out.row cp)
  have hg7:w6.grownBy (w6.setRow (w.heap.size+1) cp) (some (w.heap.size+1)):=only_setRow (World.grownBy.refl w6 _) (Or.inl rfl) _
  have HK7:Hid (Kpt (fun x=>x=bB) w (w6.setRow (w.heap.size+1) cp)):=Lib.hid (Kpt.old HK6.out (Kpt.of_grown (S:=fun x=>x=w.heap.size+1) hg7 rfl) (fun x hx hl=>by omega))
  have HY7:=Lib.hid (HY6.out.put hg7 HZ6.out (by have h1:=HLT.out;omega))
  clear hg7
  generalize w6.setRow (w.heap.size+1) cp=w7 at HX7 HK7 HY7 ⊢
  simp only [Act.put]
  go_wp2
  exact bodyPost_ret (v:=.agg cp) (resultsP (t:=4) rfl (by rfl) HX7.out HC4.out) rfl ⟨rfl,HY7.out,HK7.out⟩
set_option maxHeartbeats 4000000 in
theorem base_none {w0 w:World} {i r g mb bB bK:Nat} {out kn:List Pk.It} {xs:List Nat} (id:List Nat) (h:RdS w0 w i r g mb bB bK out kn) (hi:InAt w0 w i r xs) (ht:Tabs w0) (hid:Id32 id) (hf:Pk.fnd out id=none) (hfk:Pk.fnd kn id=none) (aM:Addr) (hM:w0.cell? ⟨10,0,none⟩=some (ev aM)) :
  Calls Tryz.prog 81 #[.pointer (some ⟨g,0,none⟩),.agg (u8s id)] w fun e w'=>Ends w r bB (ev aM) e w':=by
 have HFK:=Lib.hid hfk
 have HM:=Lib.hid hM
 have HOR:=Lib.hid h.ord
 have HLT:Hid (bB < w.heap.size):=Lib.hid (by have h1:=h.g_.lt;have h2:=h.ord;omega)
 have HLO:Hid (w0.heap.size≤bB):=Lib.hid (by have h1:=hi.bel.2;have h2:=h.ord;omega)
 have HIN:=Lib.hid hi
 have HT:=Lib.hid ht
 obtain ⟨w2,hw2⟩:∃ w2,w2=(w.alloc (.cells (u8s id) 42)).alloc (.cells (itemC zid nilV 0).toArray 44):=⟨_,rfl⟩
 have b2:Below w.heap.size w w2:=hw2▸((Below.refl _ _).alloc (Nat.le_refl _) _).alloc (by simp) _
 have HI:Hid (Blk w2 w.heap.size 42 (u8s id)):=Lib.hid (hw2▸(Blk.new w _ _).alloc _)
 have HZ:Hid (Blk w2 (w.heap.size+1) 44 (itemC zid nilV 0).toArray):=Lib.hid (by rw [hw2];have h:=Blk.new (w.alloc (.cells (u8s id) 42)) 44 (itemC zid nilV 0).toArray;rwa [World.size_alloc] at h)
 have hm:Tryz.prog.follows .mixedOrders=true:=by kernel_rfl
 have hR2:=h.below b2
 have p1:∀ w',Below w2.heap.size w2 w'→w'.cell? ⟨g,1,none⟩=some (.map (some mb)):=fun w' hw=>(hR2.g_.below hw hR2.g_.lt).cell 1
 have HR2:=Lib.hid hR2
 have HL:=Lib.hid hid
 have HB2:=Lib.hid b2
 have q0:∀ w',Below w2.heap.size w2 w'→(Instr.lookup 40 (.map (some mb)) (.agg (u8s id)) true).run Tryz.prog w'=.ok (.tuple #[zItem,.bool false]) w':=fun w' hw=>by
  have h:=(hR2.map.below hw).look_ok Tryz.underlying40 (zeroItem _) hid
  rw [show (Pk.fnd out id).map Pk.It.v=none by rw [hf];rfl] at h
  exact h
 clear hf hfk hi ht hM
 have e2:=hw2.symm
 have h20:Below w2.heap.size w2 w2.drew:=below_drewN (Below.refl _ w2) 1
 clear b2 hid hw2 hR2 h
 go_enter Tryz.func81,Tryz.ntmps81
 go_wp2
 refine wp_region_held (S:=fun w'=>Below w2.heap.size w2 w') hm ?_
 change wpAnyH _ _ _ _ _ _ _ _ ((w.alloc (.cells (u8s id) 42)).alloc (.cells (itemC zid nilV 0).toArray 44)).drew
 rw [e2]
 refine wpAnyH_take (i:=0) (v:=?_) rfl (by kernel_rfl) (by kernel_rfl) (by kernel_rfl) (fun _ _ _ h=>h) (Or.inl ⟨by rfl,?_⟩) h20 ?_
 rotate_left
 ·intro w' hw;go_simp;with_reducible rfl
 try go_frame
 refine wpAnyH_take (i:=1) (v:=?_) rfl (by kernel_rfl) (by kernel_rfl) (by kernel_rfl) (fun _ _ _ h=>h) (Or.inl ⟨by rfl,?_⟩) h20 ?_
 rotate_left
 ·intro w' hw;go_simp;with_reducible rfl
 try go_frame
 refine wpAnyH_take (i:=2) (v:=?_) rfl (by kernel_rfl) (by kernel_rfl) (by kernel_rfl) (fun _ _ _ h=>h) (Or.inl ⟨by rfl,?_⟩) h20 ?_
 rotate_left
 ·intro w' hw;go_simp;with_reducible rfl
 try go_frame
 refine wpAnyH_take (i:=3) (v:=?_) rfl (by kernel_rfl) (by kernel_rfl) (by kernel_rfl) (fun _ _ _ h=>h) (Or.inl ⟨by rfl,?_⟩) h20 ?_
 rotate_left
 ·intro w' hw;go_simp;with_reducible rfl
 try go_frame
 refine wpAnyH_take (i:=4) (v:=.agg (u8s id)) rfl (by kernel_rfl) (by kernel_rfl) (by kernel_rfl) (fun _ _ _ h=>h) (takes_row 42 (.tmp 3) rfl (by rfl) w.heap.size rfl 42 (u8s id) _ (fun w' hw=>HI.out.below hw HI.out.lt) Tryz.underlying42 rfl (by rw [u8s_size,HL.out.1];exact oid_load)) h20 ?_
 try go_frame
 refine wpAnyH_take (i:=5) (v:=?_) rfl (by kernel_rfl) (by kernel_rfl) (by kernel_rfl) (fun _ _ _ h=>h) (Or.inl ⟨by rfl,?_⟩) h20 ?_
 rotate_left
 ·intro w' hw;go_simp;with_reducible rfl
 try go_frame
 refine wpAnyH_take (i:=6) (v:=?_) rfl (by kernel_rfl) (by kernel_rfl) (by kernel_rfl) (fun _ _ _ h=>h) (Or.inl ⟨by rfl,?_⟩) h20 ?_
 rotate_left
 ·intro w' hw;go_simp;with_reducible rfl
 try go_frame
 refine wpAnyH_take (i:=7) (v:=?_) rfl (by kernel_rfl) (by kernel_rfl) (by kernel_rfl) (fun _ _ _ h=>h) (Or.inl ⟨by rfl,?_⟩) h20 ?_
 rotate_left
 ·intro w' hw;go_simp;with_reducible rfl
 try go_frame
 refine wpAnyH_take (i:=8) (v:=?_) rfl (by kernel_rfl) (by kernel_rfl) (by kernel_rfl) (fun _ _ _ h=>h) (Or.inl ⟨by rfl,?_⟩) h20 ?_
 rotate_left
 ·intro w' hw;go_simp;with_reducible rfl
 try go_frame
 refine all_one (i:=9) (by kernel_rfl) rfl (by rfl) (fun K hK=>?_)
 go_simp
 refine hK _ _ (h20.alloc (Nat.le_refl _) _) ?_
 try go_frame
 refine all_one (i:=10) (by kernel_rfl) rfl (by rfl) (fun K hK=>?_)
 refine wp_store_row 44 (.tmp 5) (.tmp 16) (by rfl) w2.heap.size (itemC zid nilV 0).toArray (by rfl) (by rfl) 44 (itemC zid nilV 0).toArray (Blk.new w2.drew _ _) (by rw [zItem_size];exact item_size) (by rfl) (itemC_one rfl 0) ?_
 have b3:Below w2.heap.size w2 ((w2.drew.alloc (.cells (itemC zid nilV 0).toArray 44)).setRow w2.heap.size (itemC zid nilV 0).toArray):=below_row (h20.alloc (Nat.le_refl _) _) (Nat.le_refl _) _
 refine hK _ _ b3 ?_
 try simp only [Act.put,List.getElem_toArray,List.getElem_cons_zero,List.getElem_cons_succ]
 have HX3:Hid (Blk ((w2.drew.alloc (.cells (itemC zid nilV 0).toArray 44)).setRow w2.heap.size (itemC zid nilV 0).toArray) w2.heap.size 44 (itemC zid nilV 0).toArray):=Lib.hid ((Blk.new w2.drew _ _).row _)
 have b3:Below w2.heap.size w2 ((w2.drew.alloc (.cells (itemC zid nilV 0).toArray 44)).setRow w2.heap.size (itemC zid nilV 0).toArray):=below_row (h20.alloc (Nat.le_refl _) _) (Nat.le_refl _) _
 change wpAnyH _ _ _ _ _ _ _ _ ((w2.drew.alloc (.cells (itemC zid nilV 0).toArray 44)).setRow w2.heap.size (itemC zid nilV 0).toArray)
 generalize (w2.drew.alloc (.cells (itemC zid nilV 0).toArray 44)).setRow w2.heap.size (itemC zid nilV 0).toArray=w3 at HX3 b3 ⊢
 refine all_one (i:=11) (by kernel_rfl) rfl (by rfl) (fun K hK=>?_)
 go_simp
 refine hK _ _ b3 ?_
 try go_frame
 refine wpAnyH_done (by kernel_rfl) ?_ _
 have HZ3:=Lib.hid (HZ.out.below b3 HZ.out.lt)
 have HB3:=Lib.hid (below_next HB2.out b3)
 have HB23:=Lib.hid b3
 clear b3 q0 p1 h20
 have HR3:=Lib.hid (HR2.out.below HB23.out)
 have HI3:=Lib.hid (HI.out.below HB23.out HI.out.lt)
 have HZ3:=Lib.hid (HZ.out.below HB23.out HZ.out.lt)
 have p2:∀ w',Kpt (fun x=>x=bB) w3 w'→w'.cell? ⟨g,2,none⟩=some (.func (.func 61) #[] #[.pointer (some ⟨bB,0,none⟩),.pointer (some ⟨bK,0,none⟩)]):=fun w' hk=>(hk.blk HR3.out.g_ (by have:=HR3.out.ord;omega)).cell 2
 have HNI:Hid (w.heap.size≠bB):=Lib.hid (by have h1:=HLT.out;omega)
 have HWW:Hid (Below w.heap.size w w3):=Lib.hid (below_next HB2.out HB23.out)
 have h30:Kpt (fun x=>x=bB) w3 w3.drew:=Kpt.of_below (below_drewN (Below.refl _ w3) 1)
 have CF:=fun wb (hb:Below w3.heap.size w3 wb)=>find1_any bB bK kn id w0 wb (HR3.out.by_.next hb) (HR3.out.kn_.kpt (Kpt.of_below (S:=fun x=>x=bB) hb) (by have:=HR3.out.ord;omega)) (below_then (below_then HIN.out.bel.1 HWW.out) hb) HLO.out (by have:=HR3.out.ord;omega) HL.out HT.out
 simp only [HFK.out,Option.map_none,Option.getD_none,Option.isSome_none] at CF
 have s4:w.heap.size+1 < w3.heap.size:=HZ3.out.lt
 clear HX3
 go_wp2
 refine wp_region_held (S:=fun w'=>Kpt (fun x=>x=bB) w3 w') hm ?_
 change wpAnyH _ _ _ _ _ _ _ _ w3.drew
 refine wpAnyH_take (i:=0) (v:=?_) rfl (by kernel_rfl) (by kernel_rfl) (by kernel_rfl) (fun _ _ _ h=>h) (Or.inl ⟨by rfl,?_⟩) h30 ?_
 rotate_left
 ·intro w' hw;go_simp;with_reducible rfl
 try go_frame
 refine wpAnyH_take (i:=1) (v:=?_) rfl (by kernel_rfl) (by kernel_rfl) (by kernel_rfl) (fun _ _ _ h=>h) (Or.inl ⟨by rfl,?_⟩) h30 ?_
 rotate_left
 ·intro w' hw;go_simp;with_reducible rfl
 try go_frame
 refine wpAnyH_take (i:=2) (v:=?_) rfl (by kernel_rfl) (by kernel_rfl) (by kernel_rfl) (fun _ _ _ h=>h) (Or.inl ⟨by rfl,?_⟩) h30 ?_
 rotate_left
 ·intro w' hw;go_simp;with_reducible rfl
 try go_frame
 refine wpAnyH_take (i:=3) (v:=?_) rfl (by kernel_rfl) (by kernel_rfl) (by kernel_rfl) (fun _ _ _ h=>h) (Or.inl ⟨by rfl,?_⟩) h30 ?_
 rotate_left
 ·intro w' hw;go_simp;with_reducible rfl
 try go_frame
 refine wpAnyH_take (i:=4) (v:=.agg (u8s id)) rfl (by kernel_rfl) (by kernel_rfl) (by kernel_rfl) (fun _ _ _ h=>h) (takes_row 42 (.tmp 3) rfl (by rfl) w.heap.size rfl 42 (u8s id) _ (fun w' hw=>hw.blk HI3.out HNI.out) Tryz.underlying42 rfl (by rw [u8s_size,HL.out.1];exact oid_load)) h30 ?_
 try go_frame
 refine all_two (i:=5) (j:=9) (by kernel_rfl) rfl rfl (by rfl) (by rfl) (fun K hK=>?_) (fun K hK=>?_)
 ·go_simp
  refine (CF w3.drew (below_drewN (Below.refl _ w3) 1)).mono ?_
  rintro e w5a ⟨rfl,hy5,hk5⟩
  have h35:Kpt (fun x=>x=bB) w3 w5a:=h30.trans hk5
  refine hK _ _ h35 ?_
  try go_frame
  refine wpAnyH_take (i:=6) (v:=?_) rfl (by kernel_rfl) (by kernel_rfl) (by kernel_rfl) (fun _ _ _ h=>h) (Or.inl ⟨by rfl,?_⟩) h35 ?_
  rotate_left
  ·intro w' hw;go_simp;with_reducible rfl
  try go_frame
  refine wpAnyH_take (i:=7) (v:=?_) rfl (by kernel_rfl) (by kernel_rfl) (by kernel_rfl) (fun _ _ _ h=>h) (Or.inl ⟨by rfl,?_⟩) h35 ?_
  rotate_left
  ·intro w' hw;go_simp;with_reducible rfl
  try go_frame
  refine wpAnyH_take (i:=8) (v:=?_) rfl (by kernel_rfl) (by kernel_rfl) (by kernel_rfl) (fun _ _ _ h=>h) (Or.inl ⟨by rfl,?_⟩) h35 ?_
  rotate_left
  ·intro w' hw;go_simp;with_reducible rfl
  try go_frame
  refine all_one (i:=9) (by kernel_rfl) rfl (by rfl) (fun K hK=>?_)
  go_simp
  refine hK _ _ (h35.trans (Kpt.of_below ((Below.refl _ _).alloc (Nat.le_refl _) _))) ?_
  try go_frame
  change wpAnyH _ _ _ _ _ _ _ _ (w5a.alloc (.cells (itemC zid nilV 0).toArray 44))
  have HZ7:Hid (Blk (w5a.alloc (.cells (itemC zid nilV 0).toArray 44)) w5a.heap.size 44 (itemC zid nilV 0).toArray):=Lib.hid (Blk.new w5a _ _)
  have HG7:Hid (w3.heap.size≤w5a.heap.size):=Lib.hid h35.size
  have b6:Below w5a.heap.size w5a (w5a.alloc (.cells (itemC zid nilV 0).toArray 44)):=(Below.refl _ _).alloc (Nat.le_refl _) _
  replace hy5:=hy5.next b6
  replace h35:=h35.trans (Kpt.of_below (S:=fun x=>x=bB) b6)
  clear hk5
  generalize w5a.alloc (.cells (itemC zid nilV 0).toArray 44)=w5 at HZ7 hy5 h35 ⊢
  clear b6
  generalize w5a.heap.size=g7 at HZ7 HG7 ⊢
  clear w5a
  refine all_one (i:=10) (by kernel_rfl) rfl (by rfl) (fun K hK=>?_)
  refine wp_store_row 44 (.tmp 7) (.tmp 27) (by rfl) g7 (itemC zid nilV 0).toArray (by rfl) (by rfl) 44 (itemC zid nilV 0).toArray HZ7.out (by rw [zItem_size];exact item_size) (by rfl) (itemC_one rfl 0) ?_
  refine hK _ _ (Kpt.old h35 (Kpt.of_grown (S:=fun x=>x=g7) (only_setRow (World.grownBy.refl w5 _) (Or.inl rfl) _) rfl) (fun x hx hl=>by have:=HG7.out;omega)) ?_
  try simp only [Act.put,List.getElem_toArray,List.getElem_cons_zero,List.getElem_cons_succ]
  have HX6:Hid (Blk (w5.setRow g7 (itemC zid nilV 0).toArray) g7 44 (itemC zid nilV 0).toArray):=Lib.hid (HZ7.out.row _)
  have hg6:w5.grownBy (w5.setRow g7 (itemC zid nilV 0).toArray) (some g7):=only_setRow (World.grownBy.refl w5 _) (Or.inl rfl) _
  have HY6:=Lib.hid (hy5.put hg6 HZ7.out (by have h1:=HLT.out;have h2:=HG7.out;omega))
  have h36:Kpt (fun x=>x=bB) w3 (w5.setRow g7 (itemC zid nilV 0).toArray):=Kpt.old h35 (Kpt.of_grown (S:=fun x=>x=g7) hg6 rfl) (fun x hx hl=>by have:=HG7.out;omega)
  clear hg6 hy5
  generalize w5.setRow g7 (itemC zid nilV 0).toArray=w6 at HX6 HY6 h36 ⊢
  clear h35
  refine all_one (i:=11) (by kernel_rfl) rfl (by rfl) (fun K hK=>?_)
  go_simp
  refine hK _ _ h36 ?_
  try go_frame
  refine wpAnyH_done (by kernel_rfl) ?_ _
  have HK6:=Lib.hid ((Kpt.of_below (S:=fun x=>x=bB) HWW.out).trans h36)
  have HZ6:=Lib.hid (h36.blk HZ3.out (by have h1:=HLT.out;omega))
  have HR6:=Lib.hid (HR3.out.found HY6.out h36)
  have HI6:=Lib.hid ((HIN.out.below HWW.out).kpt h36 (by have:=HOR.out;omega) (by have:=HOR.out;omega) (fun x hx=>by have:=HLO.out;omega))
  clear h36 h30 CF p2
  have p3:w6.cell? ⟨g,0,none⟩=some (.pointer (some ⟨i,0,none⟩)):=HR6.out.g_.cell 0
  have p4:w6.cell? ⟨10,0,none⟩=some (ev aM):=(HI6.out.bel.1.cell (block_lt_of_cell HM.out)).trans HM.out
  obtain ⟨vr,hvr,_⟩:=HI6.out
  have CE:=fail_any i r vr aM w6.drew ⟨hvr.i_.drew,hvr.r_.drew,hvr.ne⟩
  clear hvr HX6
  go_wp2
  refine wp_region_held (S:=fun w'=>w'=w6.drew) hm ?_
  change wpAnyH _ _ _ _ _ _ _ _ w6.drew
  refine wpAnyH_take (i:=0) (v:=?_) rfl (by kernel_rfl) (by kernel_rfl) (by kernel_rfl) (fun _ _ _ h=>h) (Or.inl ⟨by rfl,?_⟩) rfl ?_
  rotate_left
  ·rintro w' rfl;go_simp;with_reducible rfl
  try go_frame
  refine wpAnyH_take (i:=1) (v:=?_) rfl (by kernel_rfl) (by kernel_rfl) (by kernel_rfl) (fun _ _ _ h=>h) (Or.inl ⟨by rfl,?_⟩) rfl ?_
  rotate_left
  ·rintro w' rfl;go_simp;with_reducible rfl
  try go_frame
  refine wpAnyH_take (i:=2) (v:=?_) rfl (by kernel_rfl) (by kernel_rfl) (by kernel_rfl) (fun _ _ _ h=>h) (Or.inl ⟨by rfl,?_⟩) rfl ?_
  rotate_left
  ·rintro w' rfl;go_simp;with_reducible rfl
  try go_frame
  refine wpAnyH_take (i:=3) (v:=?_) rfl (by kernel_rfl) (by kernel_rfl) (by kernel_rfl) (fun _ _ _ h=>h) (Or.inl ⟨by rfl,?_⟩) rfl ?_
  rotate_left
  ·rintro w' rfl;go_simp;with_reducible rfl
  try go_frame
  refine wpAnyH_take (i:=4) (v:=?_) rfl (by kernel_rfl) (by kernel_rfl) (by kernel_rfl) (fun _ _ _ h=>h) (Or.inl ⟨by rfl,?_⟩) rfl ?_
  rotate_left
  ·rintro w' rfl;go_simp;with_reducible rfl
  try go_frame
  refine all_one (i:=5) (by kernel_rfl) rfl (by rfl) (fun K hK=>?_)
  go_simp
  refine CE.mono ?_
  rintro e w9 hF
  have HE:=Ends.of (bB:=bB) hF ((kpt_b HK6.out).trans (Kpt.of_below (below_drewN (Below.refl _ w6) 1)))
  obtain ⟨rfl,hd,hg⟩:=hF
  exact ⟨rfl,HE⟩
 ·go_simp
  have b6:Below w3.heap.size w3 (w3.drew.alloc (.cells (itemC zid nilV 0).toArray 44)):=(below_drewN (Below.refl _ w3) 1).alloc (Nat.le_refl _) _
  have HZb:Hid (Blk (w3.drew.alloc (.cells (itemC zid nilV 0).toArray 44)) w3.heap.size 44 (itemC zid nilV 0).toArray):=Lib.hid (Blk.new w3.drew _ _)
  refine hK _ _ (Kpt.of_below b6) ?_
  try go_frame
  change wpAnyH _ _ _ _ _ _ _ _ (w3.drew.alloc (.cells (itemC zid nilV 0).toArray 44))
  replace CF:=CF _ b6
  generalize w3.drew.alloc (.cells (itemC zid nilV 0).toArray 44)=wb at b6 HZb CF ⊢
  refine all_one (i:=5) (by kernel_rfl) rfl (by rfl) (fun K hK=>?_)
  go_simp
  refine CF.mono ?_
  rintro e w5 ⟨rfl,hy5,hk5⟩
  have h35:Kpt (fun x=>x=bB) w3 w5:=(Kpt.of_below b6).trans hk5
  refine hK _ _ h35 ?_
  try go_frame
  refine wpAnyH_take (i:=6) (v:=?_) rfl (by kernel_rfl) (by kernel_rfl) (by kernel_rfl) (fun _ _ _ h=>h) (Or.inl ⟨by rfl,?_⟩) h35 ?_
  rotate_left
  ·intro w' hw;go_simp;with_reducible rfl
  try go_frame
  refine wpAnyH_take (i:=7) (v:=?_) rfl (by kernel_rfl) (by kernel_rfl) (by kernel_rfl) (fun _ _ _ h=>h) (Or.inl ⟨by rfl,?_⟩) h35 ?_
  rotate_left
  ·intro w' hw;go_simp;with_reducible rfl
  try go_frame
  refine wpAnyH_take (i:=8) (v:=?_) rfl (by kernel_rfl) (by kernel_rfl) (by kernel_rfl) (fun _ _ _ h=>h) (Or.inl ⟨by rfl,?_⟩) h35 ?_
  rotate_left
  ·intro w' hw;go_simp;with_reducible rfl
  try go_frame
  have HZ7:Hid (Blk w5 w3.heap.size 44 (itemC zid nilV 0).toArray):=Lib.hid (hk5.blk HZb.out (by have:=HLT.out;omega))
  obtain ⟨g7,hg7⟩:∃ x,x=w3.heap.size:=⟨_,rfl⟩
  rw [←hg7] at HZ7 ⊢
  have HG7:Hid (w3.heap.size≤g7):=Lib.hid (by omega)
  clear hk5 HZb b6 CF hg7
  refine all_one (i:=10) (by kernel_rfl) rfl (by rfl) (fun K hK=>?_)
  refine wp_store_row 44 (.tmp 7) (.tmp 27) (by rfl) g7 (itemC zid nilV 0).toArray (by rfl) (by rfl) 44 (itemC zid nilV 0).toArray HZ7.out (by rw [zItem_size];exact item_size) (by rfl) (itemC_one rfl 0) ?_
  refine hK _ _ (Kpt.old h35 (Kpt.of_grown (S:=fun x=>x=g7) (only_setRow (World.grownBy.refl w5 _) (Or.inl rfl) _) rfl) (fun x hx hl=>by have:=HG7.out;omega)) ?_
  try simp only [Act.put,List.getElem_toArray,List.getElem_cons_zero,List.getElem_cons_succ]
  have HX6:Hid (Blk (w5.setRow g7 (itemC zid nilV 0).toArray) g7 44 (itemC zid nilV 0).toArray):=Lib.hid (HZ7.out.row _)
  have hg6:w5.grownBy (w5.setRow g7 (itemC zid nilV 0).toArray) (some g7):=only_setRow (World.grownBy.refl w5 _) (Or.inl rfl) _
  have HY6:=Lib.hid (hy5.put hg6 HZ7.out (by have h1:=HLT.out;have h2:=HG7.out;omega))
  have h36:Kpt (fun x=>x=bB) w3 (w5.setRow g7 (itemC zid nilV 0).toArray):=Kpt.old h35 (Kpt.of_grown (S:=fun x=>x=g7) hg6 rfl) (fun x hx hl=>by have:=HG7.out;omega)
  clear hg6 hy5
  generalize w5.setRow g7 (itemC zid nilV 0).toArray=w6 at HX6 HY6 h36 ⊢
  clear h35
  refine all_one (i:=11) (by kernel_rfl) rfl (by rfl) (fun K hK=>?_)
  go_simp
  refine hK _ _ h36 ?_
  try go_frame
  refine wpAnyH_done (by kernel_rfl) ?_ _
  have HK6:=Lib.hid ((Kpt.of_below (S:=fun x=>x=bB) HWW.out).trans h36)
  have HZ6:=Lib.hid (h36.blk HZ3.out (by have h1:=HLT.out;omega))
  have HR6:=Lib.hid (HR3.out.found HY6.out h36)
  have HI6:=Lib.hid ((HIN.out.below HWW.out).kpt h36 (by have:=HOR.out;omega) (by have:=HOR.out;omega) (fun x hx=>by have:=HLO.out;omega))
  clear h36 h30 p2
  have p3:w6.cell? ⟨g,0,none⟩=some (.pointer (some ⟨i,0,none⟩)):=HR6.out.g_.cell 0
  have p4:w6.cell? ⟨10,0,none⟩=some (ev aM):=(HI6.out.bel.1.cell (block_lt_of_cell HM.out)).trans HM.out
  obtain ⟨vr,hvr,_⟩:=HI6.out
  have CE:=fail_any i r vr aM w6.drew ⟨hvr.i_.drew,hvr.r_.drew,hvr.ne⟩
  clear hvr HX6
  go_wp2
  refine wp_region_held (S:=fun w'=>w'=w6.drew) hm ?_
  change wpAnyH _ _ _ _ _ _ _ _ w6.drew
  refine wpAnyH_take (i:=0) (v:=?_) rfl (by kernel_rfl) (by kernel_rfl) (by kernel_rfl) (fun _ _ _ h=>h) (Or.inl ⟨by rfl,?_⟩) rfl ?_
  rotate_left
  ·rintro w' rfl;go_simp;with_reducible rfl
  try go_frame
  refine wpAnyH_take (i:=1) (v:=?_) rfl (by kernel_rfl) (by kernel_rfl) (by kernel_rfl) (fun _ _ _ h=>h) (Or.inl ⟨by rfl,?_⟩) rfl ?_
  rotate_left
  ·rintro w' rfl;go_simp;with_reducible rfl
  try go_frame
  refine wpAnyH_take (i:=2) (v:=?_) rfl (by kernel_rfl) (by kernel_rfl) (by kernel_rfl) (fun _ _ _ h=>h) (Or.inl ⟨by rfl,?_⟩) rfl ?_
  rotate_left
  ·rintro w' rfl;go_simp;with_reducible rfl
  try go_frame
  refine wpAnyH_take (i:=3) (v:=?_) rfl (by kernel_rfl) (by kernel_rfl) (by kernel_rfl) (fun _ _ _ h=>h) (Or.inl ⟨by rfl,?_⟩) rfl ?_
  rotate_left
  ·rintro w' rfl;go_simp;with_reducible rfl
  try go_frame
  refine wpAnyH_take (i:=4) (v:=?_) rfl (by kernel_rfl) (by kernel_rfl) (by kernel_rfl) (fun _ _ _ h=>h) (Or.inl ⟨by rfl,?_⟩) rfl ?_
  rotate_left
  ·rintro w' rfl;go_simp;with_reducible rfl
  try go_frame
  refine all_one (i:=5) (by kernel_rfl) rfl (by rfl) (fun K hK=>?_)
  go_simp
  refine CE.mono ?_
  rintro e w9 hF
  have HE:=Ends.of (bB:=bB) hF ((kpt_b HK6.out).trans (Kpt.of_below (below_drewN (Below.refl _ w6) 1)))
  obtain ⟨rfl,hd,hg⟩:=hF
  exact ⟨rfl,HE⟩
end Go.Proofs.YtndgadjeeinedaaGreatDoor
