/- Which objects are right (Right), and their bytes (Bytes), in general. -/
import Derived.Test.YtndgadjeeinedaaGreatDoorMOb16s
import Derived.Test.YtndgadjeeinedaaGreatDoorMOb17
import Derived.Test.YtndgadjeeinedaaGreatDoorMErrs
import Derived.Lib.SlFresh
import Derived.Test.YtndgadjeeinedaaGreatDoorMOct9s
set_option maxRecDepth 100000
namespace Go.Proofs.YtndgadjeeinedaaGreatDoor
open Go Go.RowKit
noncomputable def Ob.right (o:Ob):Bool:=decide (1≤o.kind) && (decide (o.kind≤4) && (!o.strange && (entsOk o.ents && (decide (o.pars.length≤4) && decide (o.front.length+o.text.length≤300)))))
theorem entsOk_near {es:List Ent} (h:entsOk es=true):es.length≤8∧∀ e∈es,e.name.size≤12:=by
 unfold entsOk at h
 rw [Bool.and_eq_true,decide_eq_true_eq] at h
 refine ⟨h.1,fun e he=>?_⟩
 obtain ⟨i,hi,rfl⟩:=List.mem_iff_getElem.1 he
 have h2:=h.2
 unfold okTo at h2
 rw [List.all_eq_true] at h2
 have h3:=h2 i (by simpa using hi)
 unfold okAt at h3
 rw [Bool.and_eq_true,nameAt_is hi] at h3
 have h4:=h3.1
 unfold nameOk at h4
 rw [Bool.and_eq_true,Bool.and_eq_true,decide_eq_true_eq,decide_eq_true_eq] at h4
 have h5:=h4.1.2
 rw [toList_data] at h5
 simpa using h5
structure Ob.Held (o:Ob):Prop where
 names:∀ e∈o.ents,e.name.size≤1099511627776
 text:o.text.length≤1099511627776
set_option maxHeartbeats 4000000 in
theorem right_any (o : Ob) (cs : Array Value) (T E P : Option Addr) (tc ec pc : Nat) (w : World) (h : ObC w o cs T tc E ec P pc) (hf : o.Fit) (hd : o.Held) :
    Calls Tryz.prog 88 #[.agg cs] w fun e w' => e = .returned (.bool o.right) ∧ Below w.heap.size w w' := by
  obtain ⟨w2, hw2⟩ : ∃ w2, w2 = w.alloc (.cells cs 101) := ⟨_, rfl⟩
  have X1 : Box w w2 w.heap.size 101 cs := hw2 ▸ Box.new w _ cs
  have HC := Lib.hid h
  have HF := Lib.hid hf
  have HD := Lib.hid hd
  have hsz := h.size hf
  have a0 : w2.cell? ⟨w.heap.size, 0, none⟩ = some (.int .i64 o.kind) := (X1.at_.cell 0).trans h.c0
  have n1 : (Tryz.prog.info? 101).map (·.size) = some cs.size := by rw [hsz]; kernel_rfl
  have CS := strange_any o cs T E P tc ec pc w2 (h.below X1.bel (Nat.le_refl _)) hf
  have HX1 := Lib.hid X1
  have N1 := Lib.hid n1
  have K1 := Lib.hid h.c1
  have K2 := Lib.hid h.c2
  have K3 := Lib.hid (h.c35 hf)
  have e2 := hw2.symm
  clear h X1 hw2 n1 hsz hf hd
  by_cases k1 : o.kind < 1
  · have HV := Lib.hid (show o.right = false by unfold Ob.right; rw [decide_eq_false (by omega)]; rfl)
    go_enter Tryz.func88, Tryz.ntmps88
    go_wp2
    go_ret
    exact ⟨by rw [HV.out]; rfl, HX1.out.bel⟩
  by_cases k4 : 4 < o.kind
  · have HV := Lib.hid (show o.right = false by unfold Ob.right; rw [decide_eq_false (show ¬ o.kind ≤ 4 by omega), Bool.false_and, Bool.and_false])
    go_enter Tryz.func88, Tryz.ntmps88
    go_wp2
    go_ret
    exact ⟨by rw [HV.out]; rfl, HX1.out.bel⟩
  have HR1 : Hid ((!o.strange && (entsOk o.ents && (decide (o.pars.length ≤ 4) && decide (o.front.length + o.text.length ≤ 300)))) = o.right) := Lib.hid (by unfold Ob.right; rw [decide_eq_true (show 1 ≤ o.kind by omega), decide_eq_true (show o.kind ≤ 4 by omega), Bool.true_and, Bool.true_and])
  have HK := Lib.hid (show 1 ≤ o.kind ∧ o.kind ≤ 4 by omega)
  go_enter Tryz.func88, Tryz.ntmps88
  go_wp2_with (with_reducible (show wpList _ _ _ (Oper.mk _ (Op.load 101 _) _ _ _ _ :: _) _ _); refine pause ?_)
  unfold Paused
  refine wpList_row_w (by rfl) 101 (.tmp 1) (by rfl) w.heap.size (by rfl) 101 cs _ HX1.out.at_ Tryz.underlying101 (by rfl) N1.out ?_
  go_wp2_with (go_at_call 98; refine pause ?_)
  unfold Paused
  refine CS.mono ?_
  rintro e w3 ⟨rfl, hb⟩
  have HX3 := Lib.hid (HX1.out.go hb)
  have b2 : w3.cell? ⟨w.heap.size, 2, none⟩ = some (.slice E o.ents.length ec) := (HX3.out.at_.cell 2).trans K2.out
  clear hb a0 CS e2
  generalize o.strange = st at HR1
  cases st
  rotate_left
  · go_wp2
    go_ret
    exact ⟨by rw [← HR1.out]; rfl, HX3.out.bel⟩
  have CR := rents_any E ec o.ents w3 (HC.out.ents.below HX3.out.bel (Nat.le_refl _)) HF.out.ents HD.out.names
  obtain ⟨eo, heo⟩ : ∃ eo, eo = entsOk o.ents := ⟨_, rfl⟩
  rw [← heo] at CR HR1
  have HEO := Lib.hid heo
  clear heo
  go_wp2_with (go_at_call 99; refine pause ?_)
  unfold Paused
  refine CR.mono ?_
  rintro e w4 ⟨rfl, hb⟩
  have HX4 := Lib.hid (HX3.out.go hb)
  have b3 : w4.cell? ⟨w.heap.size, 35, none⟩ = some (.slice P o.pars.length pc) := (HX4.out.at_.cell 35).trans K3.out
  clear hb CR b2
  cases eo
  · go_wp2
    go_ret
    exact ⟨by rw [← HR1.out]; rfl, HX4.out.bel⟩
  by_cases hp : (4 : Int) < o.pars.length
  · have HV := Lib.hid (show o.right = false by rw [← HR1.out, decide_eq_false (show ¬ o.pars.length ≤ 4 by omega)]; rfl)
    go_wp2
    go_ret
    exact ⟨by rw [HV.out]; rfl, HX4.out.bel⟩
  have HV : Hid (decide (o.front.length + o.text.length ≤ 300) = o.right) := Lib.hid (by rw [← HR1.out, decide_eq_true (show o.pars.length ≤ 4 by omega)]; rfl)
  have HNR : Hid o.Near := Lib.hid ⟨HK.out.1, HK.out.2, (entsOk_near HEO.out.symm).1, (entsOk_near HEO.out.symm).2, by omega⟩
  have HTL := Lib.hid HD.out.text
  have HFL : Hid (o.front.length ≤ 1000000) := Lib.hid (by
    have h1 := ents_len o.ents HNR.out.names HF.out.ents
    have h2 := HNR.out.ents
    have h3 := pars_len o.pars HF.out.pars
    have h4 := HNR.out.pars
    have h5 := HF.out.target.1
    unfold Ob.front
    simp only [List.length_append, List.length_cons, List.length_nil]
    split <;> split <;> simp only [List.length_cons, List.length_nil] <;> omega)
  have CF : ∀ w', Below w4.heap.size w4 w' → Calls Tryz.prog 100 #[.agg cs] w' _ := fun w' hb => front_any o cs T E P tc ec pc w' (HC.out.below (HX4.out.go hb).bel (Nat.le_refl _)) HF.out HNR.out
  have c1 : ∀ w', Below w4.heap.size w4 w' → w'.cell? ⟨w.heap.size, 1, none⟩ = some (.slice T o.text.length tc) := fun w' hb => ((HX4.out.go hb).at_.cell 1).trans K1.out
  obtain ⟨fl, hfl⟩ : ∃ fl, fl = o.front.length := ⟨_, rfl⟩
  rw [← hfl] at HV HFL
  simp only [← hfl] at CF
  generalize o.text.length = tl at *
  obtain ⟨br, hbr⟩ : ∃ br, br = o.right := ⟨_, rfl⟩
  rw [← hbr] at HV
  have HBR := Lib.hid hbr
  have e5 : wrap64 ((fl : Int) + (tl : Int)) = ((fl + tl : Nat) : Int) := by have h1 := HFL.out; have h2 := HTL.out; rw [IntWalk.wrap64_in _ (by omega)]; omega
  have e6 : decide (((fl + tl : Nat) : Int) ≤ 300) = br := by rw [← HV.out]; congr 1; exact propext ⟨fun h => by omega, fun h => by omega⟩
  clear hbr hfl k1 k4
  go_wp2
  refine wp_region_held (S := (fun w' => Below w4.heap.size w4 w')) (by kernel_rfl) ?_
  change wpAnyH _ _ _ _ _ _ _ _ w4.drew
  have HS0 := Lib.hid (below_drewN (Below.refl w4.heap.size w4) 1)
  refine wpAnyH_take (i := 0) rfl (by kernel_rfl) (by kernel_rfl) (by kernel_rfl) (fun _ _ _ h => h) (takes_row 101 (.tmp 1) rfl (by rfl) w.heap.size rfl 101 cs _ (fun w' h => (HX4.out.go h).at_) Tryz.underlying101 rfl N1.out) (HS0.out) ?_
  try simp only [Act.put, List.getElem_toArray, List.getElem_cons_zero, List.setIfInBounds_toArray, List.set_cons_zero, List.set_cons_succ]
  refine wpAnyH_take (i := 3) (v := ?_) rfl (by kernel_rfl) (by kernel_rfl) (by kernel_rfl) (fun _ _ _ h => h) (Or.inl ⟨by rfl, ?_⟩) (HS0.out) ?_
  rotate_left
  · intro w' hw; go_simp; with_reducible rfl
  try simp only [Act.put, List.getElem_toArray, List.getElem_cons_zero, List.getElem_cons_succ, List.setIfInBounds_toArray, List.set_cons_zero, List.set_cons_succ]
  refine wpAnyH_take (i := 4) (v := ?_) rfl (by kernel_rfl) (by kernel_rfl) (by kernel_rfl) (fun _ _ _ h => h) (Or.inl ⟨by rfl, ?_⟩) (HS0.out) ?_
  rotate_left
  · intro w' hw; go_simp; with_reducible rfl
  try simp only [Act.put, List.getElem_toArray, List.getElem_cons_zero, List.getElem_cons_succ, List.setIfInBounds_toArray, List.set_cons_zero, List.set_cons_succ]
  refine wpAnyH_take (i := 5) (v := ?_) rfl (by kernel_rfl) (by kernel_rfl) (by kernel_rfl) (fun _ _ _ h => h) (Or.inl ⟨by rfl, ?_⟩) (HS0.out) ?_
  rotate_left
  · intro w' hw; go_simp; with_reducible rfl
  try simp only [Act.put, List.getElem_toArray, List.getElem_cons_zero, List.getElem_cons_succ, List.setIfInBounds_toArray, List.set_cons_zero, List.set_cons_succ]
  refine all_one (i := 1) (by kernel_rfl) rfl (by rfl) (fun K hK => ?_)
  go_simp
  refine (CF _ HS0.out).mono ?_
  rintro e w5 ⟨A, c, rfl, hp⟩
  have HS1 : Hid (Below w4.heap.size w4 w5) := Lib.hid (below_next HS0.out (by
    have h1 : Below w4.drew.heap.size w4.drew (w4.drew.alloc (.cells cs 101)) := (Below.refl _ _).alloc (Nat.le_refl _) _
    have h2 := hp.bel
    exact below_next h1 (by have e : (w4.drew.alloc (.cells cs 101)).heap.size = w4.drew.heap.size + 1 := by simp
                            rw [e]; exact h2)))
  clear hp
  dsimp only
  refine hK _ _ HS1.out ?_; clear hK K
  try simp only [Act.put, List.getElem_toArray, List.getElem_cons_zero, List.getElem_cons_succ, List.setIfInBounds_toArray, List.set_cons_zero, List.set_cons_succ]
  refine wpAnyH_take (i := 2) (v := ?_) rfl (by kernel_rfl) (by kernel_rfl) (by kernel_rfl) (fun _ _ _ h => h) (Or.inl ⟨by rfl, ?_⟩) (HS1.out) ?_
  rotate_left
  · intro w' hw; go_simp; with_reducible rfl
  try simp only [Act.put, List.getElem_toArray, List.getElem_cons_zero, List.getElem_cons_succ, List.setIfInBounds_toArray, List.set_cons_zero, List.set_cons_succ]
  refine wpAnyH_take (i := 6) (v := ?_) rfl (by kernel_rfl) (by kernel_rfl) (by kernel_rfl) (fun _ _ _ h => h) (Or.inl ⟨by rfl, ?_⟩) (HS1.out) ?_
  rotate_left
  · intro w' hw; go_simp; with_reducible rfl
  try simp only [Act.put, List.getElem_toArray, List.getElem_cons_zero, List.getElem_cons_succ, List.setIfInBounds_toArray, List.set_cons_zero, List.set_cons_succ]
  refine wpAnyH_take (i := 7) (v := ?_) rfl (by kernel_rfl) (by kernel_rfl) (by kernel_rfl) (fun _ _ _ h => h) (Or.inl ⟨by rfl, ?_⟩) (HS1.out) ?_
  rotate_left
  · intro w' hw; go_simp; with_reducible rfl
  try simp only [Act.put, List.getElem_toArray, List.getElem_cons_zero, List.getElem_cons_succ, List.setIfInBounds_toArray, List.set_cons_zero, List.set_cons_succ]
  refine wpAnyH_take (i := 8) (v := ?_) rfl (by kernel_rfl) (by kernel_rfl) (by kernel_rfl) (fun _ _ _ h => h) (Or.inl ⟨by rfl, ?_⟩) (HS1.out) ?_
  rotate_left
  · intro w' hw; go_simp; with_reducible rfl
  try simp only [Act.put, List.getElem_toArray, List.getElem_cons_zero, List.getElem_cons_succ, List.setIfInBounds_toArray, List.set_cons_zero, List.set_cons_succ]
  refine wpAnyH_done (by kernel_rfl) ?_ _
  go_wp2
  go_ret
  exact ⟨by rw [← HBR.out]; exact (show Ending.returned (.bool (decide (IntKind.i64.wrap ((fl : Int) + (tl : Int)) ≤ 300))) = Ending.returned (.bool br) by rw [(IntWalk.i64_left _).trans e5, e6]), (HX4.out.go HS1.out).bel⟩
theorem ioid_info:(Tryz.prog.info? 42).map (fun i=>(i.zero,i.size,i.bytes))=some (some (.agg (cellsB (List.replicate 32 0)).toArray),32,32):=by kernel_rfl
theorem cellsP_snoc (l:List (List Nat)) (x:List Nat):cellsP (l++[x])=cellsP l++cellsB x:=by simp [cellsP]
theorem ent_idx (e:Ent) {w:World} {g t:Nat} (hb:Blk w g t (cellsE1 e).toArray):w.rangeAt g 1 (cellsB e.id):=fun j u hu=>by
 rw [hb.cell,List.getElem?_toArray,cellsE1,Nat.add_comm 1 j,List.getElem?_cons_succ]
 exact hu
theorem tgt_idx {o:Ob} {cs:Array Value} {w:World} {g t:Nat} (hb:Blk w g t cs) (hm:∀ i,i < o.target.length→cs[3+i]? = some (.int .u8 ((o.target.getD i 0:Nat):Int))):w.rangeAt g 3 (cellsB o.target):=fun j u hu=>by
 have hj:=(List.getElem?_eq_some_iff.1 hu).1
 rw [cellsB_len] at hj
 rw [cellsB_get hj] at hu
 rw [hb.cell,hm j hj,hu]
def zOc:Array Value:=#[.int .i64 0,.slice none 0 0,.slice none 0 0,.int .u8 0,.int .u8 0,.int .u8 0,.int .u8 0,.int .u8 0,.int .u8 0,.int .u8 0,.int .u8 0,.int .u8 0,.int .u8 0,.int .u8 0,.int .u8 0,.int .u8 0,.int .u8 0,.int .u8 0,.int .u8 0,.int .u8 0,.int .u8 0,.int .u8 0,.int .u8 0,.int .u8 0,.int .u8 0,.int .u8 0,.int .u8 0,.int .u8 0,.int .u8 0,.int .u8 0,.int .u8 0,.int .u8 0,.int .u8 0,.int .u8 0,.int .u8 0,.slice none 0 0]
abbrev runBoxO (w:World) (r:Nat):World:=((w.alloc (.cells #[.pointer (some ⟨r,0,none⟩)] 133)).alloc (.cells zOc 101)).alloc (.cells #[.pointer (some ⟨r,0,none⟩)] 141)
theorem resultsO {fn:Func} {t:Tmp} (hr:fn.results=#[.cell t 101]) {tmps:Array Value} {W:World} {g:Nat} {cs:Array Value} (h4:tmps.getD t undef=.pointer (some ⟨g,0,none⟩)) (hb:Blk W g 101 cs) (hs:cs.size=36) :
  (results fn tmps).run Tryz.prog W=.ok (.agg cs) W:=by
 have hl:(loadVar 101 ⟨g,0,none⟩).run Tryz.prog W=.ok (.agg cs) W:=run_loadVar_row W g 101 101 cs (0,0) _ hb Tryz.underlying101 (by rfl) (by rw [hs];kernel_rfl)
 simp only [Array.getD_eq_getD_getElem?] at h4
 simp [results,hr,h4,asAddr,hl]
theorem catchO_idle (q:Nat) (w:World) :
  CallsD Tryz.prog 97 #[.pointer (some ⟨q,0,none⟩)] .returning w fun e u' w'=>e=.returned (.tuple #[])∧u'=.returning∧w'=w:=by
 refine callsD_of_wpS Tryz.func97 rfl fun c₀ cs hu=>?_
 apply wpS_seq
 apply wpS_region
 simp [wpOpsS,go_sem,recoverD,hu,Tryz.ntmps97,Exit.thenS]
 rw [slots17]
 refine wpS_of_wp ?_
 go_wp2
 exact ⟨rfl,_,by rw [←hu],_,results_none rfl _ _ _,rfl,rfl,rfl⟩
theorem catchO_stop (q r:Nat) (older:List PanicEntry) (w:World) (hq:w.cell? ⟨q,0,none⟩=some (.pointer (some ⟨r,0,none⟩))) :
  CallsD Tryz.prog 97 #[.pointer (some ⟨q,0,none⟩)] (.panicking ({ v:=stopV r,recovered:=false }::older)) w fun e u' w'=>
   e=.returned (.tuple #[])∧u'=.panicking ({ v:=stopV r,recovered:=true }::older)∧Below w.heap.size w w':=by
 refine callsD_of_wpS Tryz.func97 rfl fun c₀ cs hu=>?_
 apply wpS_seq
 apply wpS_region
 simp [wpOpsS,go_sem,recoverD,hu,Tryz.ntmps97,Exit.thenS]
 rw [slots17]
 refine wpS_of_wp ?_
 have h1:=stop_eql r
 have h2:=stop_assert r
 have h3:=stop_neq r
 have hb:Hid (Below w.heap.size w (w.alloc (.cells #[.pointer (some ⟨r,0,none⟩)] 142))):=Lib.hid ((Below.refl _ _).alloc (Nat.le_refl _) _)
 have hq2:(w.alloc (.cells #[.pointer (some ⟨r,0,none⟩)] 142)).cell? ⟨q,0,none⟩=some (.pointer (some ⟨r,0,none⟩)):=(hb.out.cell (p:=⟨q,0,none⟩) (block_lt_of_cell hq)).trans hq
 go_wp2
 refine ⟨rfl,.panicking ({ v:=stopV r,recovered:=true }::older),rfl,.tuple #[],?_,rfl,rfl,hb.out⟩
 exact results_none rfl _ _ _
theorem closeO_any (q r:Nat) (v0 v1 v2 v3:Value) (w:World) (hq:w.cell? ⟨q,0,none⟩=some (.pointer (some ⟨r,0,none⟩))) (hr:Blk w r 135 #[v0,v1,v2,v3]) :
  CallsD Tryz.prog 84 #[.pointer (some ⟨q,0,none⟩)] .returning w fun e u' w'=>u'=.returning∧(e=.returned (.tuple #[])∧w.grownBy w' (some r)):=by
 have HG:Hid (w.grownBy ((((w.setCell ⟨r,0,none⟩ (.slice none 0 0)).setCell ⟨r,1,none⟩ (.bool false)).setCell ⟨r,2,none⟩ (.bool false)).setCell ⟨r,3,none⟩ .nilIface) (some r)):=Lib.hid (only_setCell (p:=⟨r,3,none⟩) (only_setCell (p:=⟨r,2,none⟩) (only_setCell (p:=⟨r,1,none⟩) (only_setCell (p:=⟨r,0,none⟩) (World.grownBy.refl w (some r)) (Or.inl rfl) _) (Or.inl rfl) _) (Or.inl rfl) _) (Or.inl rfl) _)
 have c0:w.cell? ⟨r,0,none⟩=some v0:=hr.cell 0
 have c1:w.cell? ⟨r,1,none⟩=some v1:=hr.cell 1
 have c2:w.cell? ⟨r,2,none⟩=some v2:=hr.cell 2
 have c3:w.cell? ⟨r,3,none⟩=some v3:=hr.cell 3
 have z0:=hr.frozen 0
 have z1:=hr.frozen 1
 have z2:=hr.frozen 2
 have z3:=hr.frozen 3
 clear hr
 go_enter_d Tryz.func84,Tryz.ntmps84
 go_wp2
 go_end0
 exact ⟨rfl,HG.out⟩
theorem runO_ok (K:Nat) (cap:Array Value) (r:Nat) (w:World) (R:Array Value→World→Prop) (hK:∀ args w,(callFunc K args).run Tryz.prog w=.ok (.enter K args) w)
  (hread:Calls Tryz.prog K (#[.pointer (some ⟨w.heap.size+2,0,none⟩)]++cap) (runBoxO w r) fun e w'=>∃ cs,e=.returned (.agg cs)∧cs.size=36∧cs.all (·.oneCell')=true∧Blk w' (w.heap.size+1) 101 zOc∧R cs w')
  (hR:∀ cs a b,R cs a→a.grownBy b (some (w.heap.size+1))→R cs b) :
  Calls Tryz.prog 85 #[.pointer (some ⟨r,0,none⟩),.func (.func K) #[] cap] w fun e w'=>∃ cs,e=.returned (.agg cs)∧cs.size=36∧R cs w':=by
 have hmf:∀ (fn:Fn) (first cap:Array Value) (w:World),(Instr.makeFunc fn first cap).run Tryz.prog w=.ok (.func fn first cap) w:=fun _ _ _ _=>rfl
 go_enter_defers Tryz.func85,Tryz.ntmps85
 go_wp2_with (refine hread.mono ?_;rintro e w1 ⟨cs,rfl,hs,h1,hb,hr⟩;have HR:=Lib.hid hr;have HB:=Lib.hid hb;have HS:=Lib.hid hs;have HO:=Lib.hid h1;clear hr hb hs h1;refine pause ?_)
 unfold Paused
 go_wp2_with (with_reducible (show wpList _ _ _ (Oper.mk _ (Op.store 101 _ _) _ _ _ _::_) _ _);refine pause ?_)
 unfold Paused
 refine wpList_store_row (by rfl) 101 (.tmp 4) (.tmp 10) (by rfl) (w.heap.size+1) cs (by rfl) (by rfl) 101 zOc HB.out (by rw [HS.out];kernel_rfl) (by rw [HS.out];rfl) HO.out ?_
 have HB2:=Lib.hid (HB.out.row cs)
 have HG:=Lib.hid (show w1.grownBy (w1.setRow (w.heap.size+1) cs) (some (w.heap.size+1)) from ⟨rfl,rfl,rfl,by simp,fun k _ hk=>setRow_other w1 _ k _ (fun e=>hk (by rw [e]))⟩)
 generalize w1.setRow (w.heap.size+1) cs=w2 at HB2 HG ⊢
 go_wp2
 refine leaves_cons (f:=97) (args:=#[.pointer (some ⟨w.heap.size,0,none⟩)]) (by simp) (by simp [go_sem]) ?_
 refine (catchO_idle w.heap.size _).mono ?_
 rintro e u' w'' ⟨rfl,rfl,rfl⟩
 refine ⟨_,resultsO (t:=4) rfl (by rfl) HB2.out HS.out,?_⟩
 exact ⟨cs,rfl,HS.out,hR _ _ _ HR.out HG.out⟩
theorem runO_bad (K:Nat) (cap:Array Value) (r:Nat) (w:World) (R:World→Prop) (hK:∀ args w,(callFunc K args).run Tryz.prog w=.ok (.enter K args) w)
  (hread:Calls Tryz.prog K (#[.pointer (some ⟨w.heap.size+2,0,none⟩)]++cap) (runBoxO w r) fun e w'=>e=.panicked [{ v:=stopV r,recovered:=false }]∧Blk w' (w.heap.size+1) 101 zOc∧R w')
  (hq:∀ a,R a→a.cell? ⟨w.heap.size,0,none⟩=some (.pointer (some ⟨r,0,none⟩))) (hR:∀ a b,R a→Below a.heap.size a b→R b) :
  Calls Tryz.prog 85 #[.pointer (some ⟨r,0,none⟩),.func (.func K) #[] cap] w fun e w'=>e=.returned (.agg zOc)∧R w':=by
 have hmf:∀ (fn:Fn) (first cap:Array Value) (w:World),(Instr.makeFunc fn first cap).run Tryz.prog w=.ok (.func fn first cap) w:=fun _ _ _ _=>rfl
 go_enter_defers Tryz.func85,Tryz.ntmps85
 go_wp2_with (refine hread.mono ?_;rintro e w1 ⟨rfl,hb,hr⟩;have HR:=Lib.hid hr;have HB:=Lib.hid hb;clear hr hb)
 refine leaves_cons (f:=97) (args:=#[.pointer (some ⟨w.heap.size,0,none⟩)]) (by simp) (by simp [go_sem]) ?_
 refine (catchO_stop w.heap.size r [] _ (hq _ HR.out)).mono ?_
 rintro e u' w'' ⟨rfl,rfl,hb⟩
 exact ⟨_,resultsO (t:=4) rfl (by rfl) (HB.out.below hb HB.out.lt) (by rfl),rfl,hR _ _ HR.out hb⟩
theorem belowO_run (u:World) (v:Value):Below u.heap.size u (runBoxO (takeBox u v) u.heap.size):=
 (((((Below.refl _ _).alloc (Nat.le_refl _) _).alloc (by simp) _).alloc (by simp<;>omega) _).alloc (by simp<;>omega) _).alloc (by simp<;>omega) _
theorem inAtO_run {w0 u:World} {v:Value} {xs:List Nat} (hw:Below w0.heap.size w0 u) (hv:Rd w0 v xs):InAt w0 (runBoxO (takeBox u v) u.heap.size) ((takeBox u v).heap.size+2) u.heap.size xs:=by
 refine ⟨v,⟨?_,?_,?_⟩,hv,below_then hw (belowO_run u v),hw.size,?_⟩
 ·have h:=Blk.new (((takeBox u v).alloc (.cells #[.pointer (some ⟨u.heap.size,0,none⟩)] 133)).alloc (.cells zOc 101)) 141 #[.pointer (some ⟨u.heap.size,0,none⟩)]
  rwa [show (((takeBox u v).alloc (.cells #[.pointer (some ⟨u.heap.size,0,none⟩)] 133)).alloc (.cells zOc 101)).heap.size=(takeBox u v).heap.size+2 by simp] at h
 ·exact ((((Blk.new u _ _).alloc _).alloc _).alloc _).alloc _
 ·rw [takeBox_size];omega
 ·rw [takeBox_size];have:=hw.size;omega
theorem varO_run (u:World) (v:Value):Blk (runBoxO (takeBox u v) u.heap.size) (u.heap.size+1) 133 #[.pointer (some ⟨u.heap.size,0,none⟩)]:=by
 have h:=Blk.new (u.alloc (.cells #[v,.bool true,.bool false,.nilIface] 135)) 133 #[.pointer (some ⟨u.heap.size,0,none⟩)]
 rw [show (u.alloc (.cells #[v,.bool true,.bool false,.nilIface] 135)).heap.size=u.heap.size+1 by simp] at h
 exact ((h.alloc _).alloc _).alloc _
theorem resO_run (u:World) (v:Value):Blk (runBoxO (takeBox u v) u.heap.size) ((takeBox u v).heap.size+1) 101 zOc:=by
 have h:=Blk.new ((takeBox u v).alloc (.cells #[.pointer (some ⟨u.heap.size,0,none⟩)] 133)) 101 zOc
 rw [World.size_alloc] at h
 exact h.alloc _
abbrev wzO (w:World):World:=(w.alloc (.cells zOc 101)).alloc (.cells zOc 101)
theorem resultsO2 {fn:Func} {t s:Tmp} (hr:fn.results=#[.cell t 101,.tmp s]) {tmps:Array Value} {W:World} {g:Nat} {cs:Array Value} (h4:tmps.getD t undef=.pointer (some ⟨g,0,none⟩)) (hb:Blk W g 101 cs) (hs:cs.size=36) :
  (results fn tmps).run Tryz.prog W=.ok (.tuple #[.agg cs,tmps.getD s undef]) W:=by
 have hl:(loadVar 101 ⟨g,0,none⟩).run Tryz.prog W=.ok (.agg cs) W:=run_loadVar_row W g 101 101 cs (0,0) _ hb Tryz.underlying101 (by rfl) (by rw [hs];kernel_rfl)
 simp only [Array.getD_eq_getD_getElem?] at h4 ⊢
 simp [results,hr,h4,asAddr,hl]
set_option maxHeartbeats 1000000 in
theorem takeO_ok (K:Nat) (cap:Array Value) (w0 w:World) (A:Option Addr) (n c:Nat) (xs:List Nat) (R:Nat→Array Value→World→Prop) (hK:∀ args w,(callFunc K args).run Tryz.prog w=.ok (.enter K args) w)
  (hw:Below w0.heap.size w0 w) (hv:Rd w0 (.slice A n c) xs)
  (hread:∀ (w2:World) (i r:Nat),w.heap.size≤r→w.heap.size≤i→InAt w0 w2 i r xs→Below w.heap.size w w2 →
   Calls Tryz.prog K (#[.pointer (some ⟨i,0,none⟩)]++cap) w2 fun e w'=>∃ cs,e=.returned (.agg cs)∧cs.size=36∧cs.all (·.oneCell')=true∧InAt w0 w' i r []∧Kpt (fun b=>b=r) w2 w'∧R w2.heap.size cs w')
  (hR:∀ m cs a b,R m cs a→Kpt (fun b=>b < m) a b→R m cs b) :
  Calls Tryz.prog 69 #[.slice A n c,.func (.func K) #[] cap] w fun e w'=>∃ cs m,e=.returned (.tuple #[.agg cs,.nilIface])∧cs.size=36∧w.heap.size≤m∧R m cs w'∧Below w.heap.size w w':=by
 have hmf:∀ (fn:Fn) (first cap:Array Value) (w:World),(Instr.makeFunc fn first cap).run Tryz.prog w=.ok (.func fn first cap) w:=fun _ _ _ _=>rfl
 obtain ⟨u,hu⟩:∃ u,u=wzO w:=⟨_,rfl⟩
 have us:u.heap.size=w.heap.size+2:=by rw [hu];simp
 have ub:Below w.heap.size w u:=hu▸((Below.refl _ _).alloc (Nat.le_refl _) _).alloc (by simp) _
 have hw':Below w0.heap.size w0 u:=below_then hw ub
 have CR:=runO_ok K cap u.heap.size (takeBox u (.slice A n c)) (fun cs w'=>∃ w1,InAt w0 w1 ((takeBox u (.slice A n c)).heap.size+2) u.heap.size []∧Kpt (fun b=>b=u.heap.size) (runBoxO (takeBox u (.slice A n c)) u.heap.size) w1∧R (runBoxO (takeBox u (.slice A n c)) u.heap.size).heap.size cs w1∧cs.all (·.oneCell')=true∧w1.grownBy w' (some ((takeBox u (.slice A n c)).heap.size+1))) hK
  ((hread (runBoxO (takeBox u (.slice A n c)) u.heap.size) ((takeBox u (.slice A n c)).heap.size+2) u.heap.size (by omega) (by rw [takeBox_size];omega) (inAtO_run hw' hv) (ub.trans ((belowO_run u _).mono (by omega)))).mono fun e w' ⟨cs,he,hs,h1,hi,hk,hr⟩=>⟨cs,he,hs,h1,hk.blk (resO_run u _) (by rw [takeBox_size];omega),w',hi,hk,hr,h1,World.grownBy.refl _ _⟩)
  (fun cs a b ⟨w1,h1,h2,h3,h4,h5⟩ hg=>⟨w1,h1,h2,h3,h4,only_trans h5 hg⟩)
 have HT:Hid ((((w.alloc (.cells zOc 101)).alloc (.cells zOc 101)).alloc (.cells #[.slice A n c,.bool true,.bool false,.nilIface] 135)).alloc (.cells #[.pointer (some ⟨w.heap.size+1+1,0,none⟩)] 133)=takeBox u (.slice A n c)):=Lib.hid (by
  show _=(u.alloc _).alloc (.cells #[.pointer (some ⟨u.heap.size,0,none⟩)] _)
  rw [us,hu])
 rw [us] at CR
 have HU:=Lib.hid hu
 have HRR:=Lib.hid hR
 clear hread hR hw hv hw'
 go_enter_defers Tryz.func69,Tryz.ntmps69
 go_wp2_with (go_at_call 85;refine pause ?_)
 unfold Paused
 change Calls _ _ _ ((((w.alloc (.cells zOc 101)).alloc (.cells zOc 101)).alloc (.cells #[.slice A n c,.bool true,.bool false,.nilIface] 135)).alloc (.cells #[.pointer (some ⟨w.heap.size+1+1,0,none⟩)] 133)) _
 rw [HT.out]
 refine CR.mono ?_
 rintro e w5 ⟨cs,rfl,hs,wA,hi,hk,hr,h1,hg⟩
 have hX:Below w.heap.size w (runBoxO (takeBox u (.slice A n c)) u.heap.size):=ub.trans ((belowO_run u _).mono (by omega))
 have hz4:Blk u w.heap.size 101 zOc:=by rw [HU.out];exact (Blk.new w 101 zOc).alloc _
 have gne:∀ k,k < w.heap.size+4→k≠(takeBox u (.slice A n c)).heap.size+1:=fun k hk=>by rw [takeBox_size];omega
 have hgA:∀ k (T:TypeId) (C:Array Value),k < w.heap.size+4→k≠w.heap.size+2→Blk (runBoxO (takeBox u (.slice A n c)) (w.heap.size+2)) k T C→Blk w5 k T C:=fun k T C hk1 hk2 hb=>(hk.blk hb (by omega)).grown hg (fun e=>gne k hk1 (by injection e))
 have hXb:=belowO_run u (.slice A n c)
 rw [us] at hXb hX
 have B4:Blk w5 w.heap.size 101 zOc:=hgA _ _ _ (by omega) (by omega) (hz4.below hXb (by omega))
 have B7:Blk w5 (w.heap.size+3) 133 #[.pointer (some ⟨w.heap.size+2,0,none⟩)]:=hgA _ _ _ (by omega) (by omega) (by have h:=varO_run u (.slice A n c);rw [us] at h;exact h)
 obtain ⟨vz,hz,⟨Az,cz,rfl,_,_⟩,_⟩:=hi
 have BR:Blk w5 (w.heap.size+2) 135 #[.slice Az 0 cz,.bool true,.bool false,.nilIface]:=Blk.grown hz.r_ hg (fun e=>gne (w.heap.size+2) (by omega) (by injection e))
 have KA:Kpt (fun b=>w.heap.size≤b) (runBoxO (takeBox u (.slice A n c)) (w.heap.size+2)) w5:=⟨hg.os.trans hk.os,hg.tape.trans hk.tape,hg.output.trans hk.output,Nat.le_trans hk.size hg.size,fun b hb hn=>(hg.block b (Nat.lt_of_lt_of_le hb hk.size) (fun e=>by injection e with e;rw [takeBox_size,us] at e;omega)).trans (hk.block b hb (by omega))⟩
 have sz5:w.heap.size+7≤w5.heap.size:=Nat.le_trans (by simp [us]) KA.size
 have HS:=Lib.hid hs
 have H1:=Lib.hid h1
 have HRA:=Lib.hid hr
 have HHK:=Lib.hid hk
 have HHG:=Lib.hid hg
 have HB4:=Lib.hid B4
 have HB7:=Lib.hid B7
 have HBR:=Lib.hid BR
 have HKA:=Lib.hid KA
 have HXX:=Lib.hid hX
 have HSZ:=Lib.hid sz5
 have HUS:=Lib.hid us
 clear hs h1 hr hk hg B4 B7 BR KA hX hXb hz hgA gne hz4 CR ub us sz5 hu
 go_wp2_with (with_reducible (show wpList _ _ _ (Oper.mk _ (Op.store 101 _ _) _ _ _ _::_) _ _);refine pause ?_)
 unfold Paused
 change wpList _ _ _ _ _ (w5.alloc (.cells zOc 101))
 refine wpList_store_row (by rfl) 101 (.tmp 8) (.tmp 15) (by rfl) w5.heap.size cs (by rfl) (by rfl) 101 zOc (Blk.new w5 _ _) (by rw [HS.out];kernel_rfl) (by rw [HS.out];rfl) H1.out ?_
 have b6:Below w5.heap.size w5 ((w5.alloc (.cells zOc 101)).setRow w5.heap.size cs):=below_row ((Below.refl _ _).alloc (Nat.le_refl _) _) (Nat.le_refl _) _
 have HB6:=Lib.hid b6
 have HB8:=Lib.hid ((Blk.new w5 101 zOc).row cs)
 generalize (w5.alloc (.cells zOc 101)).setRow w5.heap.size cs=w6 at b6 HB6 HB8 ⊢
 have p0:w6.cell? ⟨w.heap.size+3,0,none⟩=some (.pointer (some ⟨w.heap.size+2,0,none⟩)):=(HB7.out.below b6 HB7.out.lt).cell 0
 have p1:w6.cell? ⟨w.heap.size+2,2,none⟩=some (.bool false):=(HBR.out.below b6 HBR.out.lt).cell 2
 have p2:w6.cell? ⟨w.heap.size+2,0,none⟩=some (.slice Az 0 cz):=(HBR.out.below b6 HBR.out.lt).cell 0
 have HB46:=Lib.hid (HB4.out.below b6 HB4.out.lt)
 have HBR6:=Lib.hid (HBR.out.below b6 HBR.out.lt)
 have HP0:=Lib.hid p0
 obtain ⟨g8,hg8⟩:∃ g,g=w5.heap.size:=⟨_,rfl⟩
 have hg8l:w.heap.size+7≤g8:=by rw [hg8];exact HSZ.out
 rw [←hg8] at HB8 ⊢
 have HG8:=Lib.hid hg8
 clear b6 hg8
 simp only [Act.put]
 go_wp2_with (with_reducible (show wpList _ _ _ (Oper.mk _ (Op.load 101 _) _ _ _ _::_) _ _);refine pause ?_)
 unfold Paused
 refine wpList_row_w (by rfl) 101 (.tmp 8) (by rfl) g8 (by rfl) 101 cs _ HB8.out Tryz.underlying101 (by rfl) (by rw [HS.out];kernel_rfl) ?_
 go_wp2_with (with_reducible (show wpList _ _ _ (Oper.mk _ (Op.store 101 _ _) _ _ _ _::_) _ _);refine pause ?_)
 unfold Paused
 refine wpList_store_row (by rfl) 101 (.tmp 4) (.tmp 33) (by rfl) w.heap.size cs (by rfl) (by rfl) 101 zOc HB46.out (by rw [HS.out];kernel_rfl) (by rw [HS.out];rfl) H1.out ?_
 have HB4c:=Lib.hid (HB46.out.row cs)
 have HG7:=Lib.hid (show w6.grownBy (w6.setRow w.heap.size cs) (some w.heap.size) from ⟨rfl,rfl,rfl,by simp,fun k _ hk=>setRow_other w6 _ k _ (fun e=>hk (by rw [e]))⟩)
 have HBR7:=Lib.hid (HBR6.out.grown HG7.out (fun e=>by injection e with e;omega))
 have q0:(w6.setRow w.heap.size cs).cell? ⟨w.heap.size+3,0,none⟩=some (.pointer (some ⟨w.heap.size+2,0,none⟩)):=((HB7.out.below HB6.out HB7.out.lt).grown HG7.out (fun e=>by injection e with e;omega)).cell 0
 generalize w6.setRow w.heap.size cs=w7 at HB4c HG7 HBR7 q0 ⊢
 clear p0 p1 p2 HP0
 go_wp2
 refine leaves_cons (f:=84) (args:=#[.pointer (some ⟨w.heap.size+3,0,none⟩)]) (by simp) (by simp [go_sem]) ?_
 refine (closeO_any (w.heap.size+3) (w.heap.size+2) _ _ _ _ w7 q0 HBR7.out).mono ?_
 rintro e u' w8 ⟨rfl,rfl,hg8'⟩
 have K8:Kpt (fun b=>b < (runBoxO (takeBox u (.slice A n c)) (w.heap.size+2)).heap.size) wA w8:=by
  have sz:w.heap.size+7≤(runBoxO (takeBox u (.slice A n c)) (w.heap.size+2)).heap.size:=by simp [HUS.out]
  have k1:Kpt (fun b=>b < (runBoxO (takeBox u (.slice A n c)) (w.heap.size+2)).heap.size) wA w5:=Kpt.of_grown HHG.out (by rw [takeBox_size,HUS.out];omega)
  exact ((k1.trans (Kpt.of_below HB6.out)).trans (Kpt.of_grown HG7.out (by omega))).trans (Kpt.of_grown hg8' (by omega))
 have KB:Kpt (fun b=>w.heap.size≤b) (runBoxO (takeBox u (.slice A n c)) (w.heap.size+2)) w8:=((HKA.out.trans (Kpt.of_below HB6.out)).trans (Kpt.of_grown HG7.out (Nat.le_refl _))).trans (Kpt.of_grown hg8' (by omega))
 have hbl:Below w.heap.size w w8:=HXX.out.trans ⟨KB.os,KB.tape,KB.output,KB.size,fun k hk=>KB.block k (Nat.lt_of_lt_of_le hk HXX.out.size) (by omega)⟩
 refine ⟨_,resultsO2 (t:=4) (s:=5) rfl (by rfl) (HB4c.out.grown hg8' (fun e=>by injection e with e;omega)) HS.out,?_⟩
 exact ⟨cs,_,rfl,HS.out,by simp [HUS.out];omega,HRR.out _ _ _ _ HRA.out K8,hbl⟩
end Go.Proofs.YtndgadjeeinedaaGreatDoor
