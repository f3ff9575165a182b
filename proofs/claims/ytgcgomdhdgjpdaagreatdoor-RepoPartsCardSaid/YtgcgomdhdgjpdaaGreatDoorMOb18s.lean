/- Which objects are right (Right), and their bytes (Bytes), in general. -/
import Derived.Test.YtgcgomdhdgjpdaaGreatDoorMOb11s
import Derived.Test.YtgcgomdhdgjpdaaGreatDoorMOb17
import Derived.Test.YtgcgomdhdgjpdaaGreatDoorMOct4s
import Derived.Lib.SlFresh
import Derived.Test.YtgcgomdhdgjpdaaGreatDoorMOct11s
namespace Go.Proofs.YtgcgomdhdgjpdaaGreatDoor
open Go Go.RowKit
noncomputable def Ob.right (o : Ob) : Bool := decide (1 ≤ o.kind) && (decide (o.kind ≤ 4) && (!o.strange && (entsOk o.ents && (decide (o.pars.length ≤ 4) && decide (o.front.length + o.text.length ≤ 300)))))
theorem entsOk_near {es : List Ent} (h : entsOk es = true) : es.length ≤ 8 ∧ ∀ e ∈ es, e.name.size ≤ 12 := by
 unfold entsOk at h
 rw [Bool.and_eq_true, decide_eq_true_eq] at h
 refine ⟨h.1, fun e he => ?_⟩
 obtain ⟨i, hi, rfl⟩ := List.mem_iff_getElem.1 he
 have h2 := h.2
 unfold okTo at h2
 rw [List.all_eq_true] at h2
 have h3 := h2 i (by simpa using hi)
 unfold okAt at h3
 rw [Bool.and_eq_true, nameAt_is hi] at h3
 have h4 := h3.1
 unfold nameOk at h4
 rw [Bool.and_eq_true, Bool.and_eq_true, decide_eq_true_eq, decide_eq_true_eq] at h4
 have h5 := h4.1.2
 rw [toList_data] at h5
 simpa using h5
structure Ob.Held (o : Ob) : Prop where
 names : ∀ e ∈ o.ents, e.name.size ≤ 1099511627776
 text : o.text.length ≤ 1099511627776
set_option maxRecDepth 100000 in
set_option maxHeartbeats 4000000 in
theorem right_any (o : Ob) (cs : Array Value) (T E P : Option Addr) (tc ec pc : Nat) (w : World) (h : ObC w o cs T tc E ec P pc) (hf : o.Fit) (hd : o.Held) :
    Calls Tryz.prog 166 #[.agg cs] w fun e w' => e = .returned (.bool o.right) ∧ Below w.heap.size w w' := by
  obtain ⟨w2, hw2⟩ : ∃ w2, w2 = w.alloc (.cells cs 183) := ⟨_, rfl⟩
  have X1 : Box w w2 w.heap.size 183 cs := hw2 ▸ Box.new w _ cs
  have HC := Lib.hid h
  have HF := Lib.hid hf
  have HD := Lib.hid hd
  have hsz := h.size hf
  have a0 : w2.cell? ⟨w.heap.size, 0, none⟩ = some (.int .i64 o.kind) := (X1.at_.cell 0).trans h.c0
  have n1 : (Tryz.prog.info? 183).map (·.size) = some cs.size := by rw [hsz]; kernel_rfl
  have CS := strange_any o cs T E P tc ec pc w2 (h.below X1.bel (Nat.le_refl _)) hf
  have HX1 := Lib.hid X1
  have N1 := Lib.hid n1
  have K1 := Lib.hid h.c1
  have K2 := Lib.hid h.c2
  have K3 := Lib.hid (h.c35 hf)
  have e2 := hw2.symm
  clear h X1 hw2 n1 hsz hf hd
  by_cases k1 : o.kind < 1
  · have HV := Lib.hid (show o.right = false by unfold Ob.right; rw [decide_eq_false (by omega)]; rfl)
    go_enter Tryz.func166, Tryz.ntmps166
    go_wp2
    go_ret
    exact ⟨by rw [HV.out]; rfl, HX1.out.bel⟩
  by_cases k4 : 4 < o.kind
  · have HV := Lib.hid (show o.right = false by unfold Ob.right; rw [decide_eq_false (show ¬ o.kind ≤ 4 by omega), Bool.false_and, Bool.and_false])
    go_enter Tryz.func166, Tryz.ntmps166
    go_wp2
    go_ret
    exact ⟨by rw [HV.out]; rfl, HX1.out.bel⟩
  have HR1 : Hid ((!o.strange && (entsOk o.ents && (decide (o.pars.length ≤ 4) && decide (o.front.length + o.text.length ≤ 300)))) = o.right) := Lib.hid (by unfold Ob.right; rw [decide_eq_true (show 1 ≤ o.kind by omega), decide_eq_true (show o.kind ≤ 4 by omega), Bool.true_and, Bool.true_and])
  have HK := Lib.hid (show 1 ≤ o.kind ∧ o.kind ≤ 4 by omega)
  go_enter Tryz.func166, Tryz.ntmps166
  go_wp2_with (with_reducible (show wpList _ _ _ (Oper.mk _ (Op.load 183 _) _ _ _ _ :: _) _ _); refine pause ?_)
  unfold Paused
  refine wpList_row_w (by rfl) 183 (.tmp 1) (by rfl) w.heap.size (by rfl) 183 cs _ HX1.out.at_ Tryz.underlying183 (by rfl) N1.out ?_
  go_wp2_with (go_at_call 181; refine pause ?_)
  unfold Paused
  refine CS.mono ?_
  rintro e w3 ⟨rfl, hb⟩
  have HX3 := Lib.hid (HX1.out.go hb)
  have b2 : w3.cell? ⟨w.heap.size, 2, none⟩ = some (.slice E o.ents.length ec) := (HX3.out.at_.cell 2).trans K2.out
  clear hb a0 CS e2
  generalize o.strange = st at HR1
  cases st
  rotate_left
  · go_wp2
    go_ret
    exact ⟨by rw [← HR1.out]; rfl, HX3.out.bel⟩
  have CR := rents_any E ec o.ents w3 (HC.out.ents.below HX3.out.bel (Nat.le_refl _)) HF.out.ents HD.out.names
  obtain ⟨eo, heo⟩ : ∃ eo, eo = entsOk o.ents := ⟨_, rfl⟩
  rw [← heo] at CR HR1
  have HEO := Lib.hid heo
  clear heo
  go_wp2_with (go_at_call 182; refine pause ?_)
  unfold Paused
  refine CR.mono ?_
  rintro e w4 ⟨rfl, hb⟩
  have HX4 := Lib.hid (HX3.out.go hb)
  have b3 : w4.cell? ⟨w.heap.size, 35, none⟩ = some (.slice P o.pars.length pc) := (HX4.out.at_.cell 35).trans K3.out
  clear hb CR b2
  cases eo
  · go_wp2
    go_ret
    exact ⟨by rw [← HR1.out]; rfl, HX4.out.bel⟩
  by_cases hp : (4 : Int) < o.pars.length
  · have HV := Lib.hid (show o.right = false by rw [← HR1.out, decide_eq_false (show ¬ o.pars.length ≤ 4 by omega)]; rfl)
    go_wp2
    go_ret
    exact ⟨by rw [HV.out]; rfl, HX4.out.bel⟩
  have HV : Hid (decide (o.front.length + o.text.length ≤ 300) = o.right) := Lib.hid (by rw [← HR1.out, decide_eq_true (show o.pars.length ≤ 4 by omega)]; rfl)
  have HNR : Hid o.Near := Lib.hid ⟨HK.out.1, HK.out.2, (entsOk_near HEO.out.symm).1, (entsOk_near HEO.out.symm).2, by omega⟩
  have HTL := Lib.hid HD.out.text
  have HFL : Hid (o.front.length ≤ 1000000) := Lib.hid (by
    have h1 := ents_len o.ents HNR.out.names HF.out.ents
    have h2 := HNR.out.ents
    have h3 := pars_len o.pars HF.out.pars
    have h4 := HNR.out.pars
    have h5 := HF.out.target.1
    unfold Ob.front
    simp only [List.length_append, List.length_cons, List.length_nil]
    split <;> split <;> simp only [List.length_cons, List.length_nil] <;> omega)
  have CF : ∀ w', Below w4.heap.size w4 w' → Calls Tryz.prog 183 #[.agg cs] w' _ := fun w' hb => front_any o cs T E P tc ec pc w' (HC.out.below (HX4.out.go hb).bel (Nat.le_refl _)) HF.out HNR.out
  have c1 : ∀ w', Below w4.heap.size w4 w' → w'.cell? ⟨w.heap.size, 1, none⟩ = some (.slice T o.text.length tc) := fun w' hb => ((HX4.out.go hb).at_.cell 1).trans K1.out
  obtain ⟨fl, hfl⟩ : ∃ fl, fl = o.front.length := ⟨_, rfl⟩
  rw [← hfl] at HV HFL
  simp only [← hfl] at CF
  generalize o.text.length = tl at *
  obtain ⟨br, hbr⟩ : ∃ br, br = o.right := ⟨_, rfl⟩
  rw [← hbr] at HV
  have HBR := Lib.hid hbr
  have e5 : wrap64 ((fl : Int) + (tl : Int)) = ((fl + tl : Nat) : Int) := by have h1 := HFL.out; have h2 := HTL.out; rw [IntWalk.wrap64_in _ (by omega)]; omega
  have e6 : decide (((fl + tl : Nat) : Int) ≤ 300) = br := by rw [← HV.out]; congr 1; exact propext ⟨fun h => by omega, fun h => by omega⟩
  clear hbr hfl k1 k4
  go_wp2
  refine wp_region_held (S := (fun w' => Below w4.heap.size w4 w')) (by kernel_rfl) ?_
  change wpAnyH _ _ _ _ _ _ _ _ w4.drew
  have HS0 := Lib.hid (below_drewN (Below.refl w4.heap.size w4) 1)
  refine wpAnyH_take (i := 0) rfl (by kernel_rfl) (by kernel_rfl) (by kernel_rfl) (fun _ _ _ h => h) (takes_row 183 (.tmp 1) rfl (by rfl) w.heap.size rfl 183 cs _ (fun w' h => (HX4.out.go h).at_) Tryz.underlying183 rfl N1.out) (HS0.out) ?_
  try simp only [Act.put, List.getElem_toArray, List.getElem_cons_zero, List.setIfInBounds_toArray, List.set_cons_zero, List.set_cons_succ]
  refine wpAnyH_take (i := 3) (v := ?_) rfl (by kernel_rfl) (by kernel_rfl) (by kernel_rfl) (fun _ _ _ h => h) (Or.inl ⟨by rfl, ?_⟩) (HS0.out) ?_
  rotate_left
  · intro w' hw; go_simp; with_reducible rfl
  try simp only [Act.put, List.getElem_toArray, List.getElem_cons_zero, List.getElem_cons_succ, List.setIfInBounds_toArray, List.set_cons_zero, List.set_cons_succ]
  refine wpAnyH_take (i := 4) (v := ?_) rfl (by kernel_rfl) (by kernel_rfl) (by kernel_rfl) (fun _ _ _ h => h) (Or.inl ⟨by rfl, ?_⟩) (HS0.out) ?_
  rotate_left
  · intro w' hw; go_simp; with_reducible rfl
  try simp only [Act.put, List.getElem_toArray, List.getElem_cons_zero, List.getElem_cons_succ, List.setIfInBounds_toArray, List.set_cons_zero, List.set_cons_succ]
  refine wpAnyH_take (i := 5) (v := ?_) rfl (by kernel_rfl) (by kernel_rfl) (by kernel_rfl) (fun _ _ _ h => h) (Or.inl ⟨by rfl, ?_⟩) (HS0.out) ?_
  rotate_left
  · intro w' hw; go_simp; with_reducible rfl
  try simp only [Act.put, List.getElem_toArray, List.getElem_cons_zero, List.getElem_cons_succ, List.setIfInBounds_toArray, List.set_cons_zero, List.set_cons_succ]
  refine all_one (i := 1) (by kernel_rfl) rfl (by rfl) (fun K hK => ?_)
  go_simp
  refine (CF _ HS0.out).mono ?_
  rintro e w5 ⟨A, c, rfl, hp⟩
  have HS1 : Hid (Below w4.heap.size w4 w5) := Lib.hid (below_next HS0.out (by
    have h1 : Below w4.drew.heap.size w4.drew (w4.drew.alloc (.cells cs 183)) := (Below.refl _ _).alloc (Nat.le_refl _) _
    have h2 := hp.bel
    exact below_next h1 (by have e : (w4.drew.alloc (.cells cs 183)).heap.size = w4.drew.heap.size + 1 := by simp
                            rw [e]; exact h2)))
  clear hp
  dsimp only
  refine hK _ _ HS1.out ?_; clear hK K
  try simp only [Act.put, List.getElem_toArray, List.getElem_cons_zero, List.getElem_cons_succ, List.setIfInBounds_toArray, List.set_cons_zero, List.set_cons_succ]
  refine wpAnyH_take (i := 2) (v := ?_) rfl (by kernel_rfl) (by kernel_rfl) (by kernel_rfl) (fun _ _ _ h => h) (Or.inl ⟨by rfl, ?_⟩) (HS1.out) ?_
  rotate_left
  · intro w' hw; go_simp; with_reducible rfl
  try simp only [Act.put, List.getElem_toArray, List.getElem_cons_zero, List.getElem_cons_succ, List.setIfInBounds_toArray, List.set_cons_zero, List.set_cons_succ]
  refine wpAnyH_take (i := 6) (v := ?_) rfl (by kernel_rfl) (by kernel_rfl) (by kernel_rfl) (fun _ _ _ h => h) (Or.inl ⟨by rfl, ?_⟩) (HS1.out) ?_
  rotate_left
  · intro w' hw; go_simp; with_reducible rfl
  try simp only [Act.put, List.getElem_toArray, List.getElem_cons_zero, List.getElem_cons_succ, List.setIfInBounds_toArray, List.set_cons_zero, List.set_cons_succ]
  refine wpAnyH_take (i := 7) (v := ?_) rfl (by kernel_rfl) (by kernel_rfl) (by kernel_rfl) (fun _ _ _ h => h) (Or.inl ⟨by rfl, ?_⟩) (HS1.out) ?_
  rotate_left
  · intro w' hw; go_simp; with_reducible rfl
  try simp only [Act.put, List.getElem_toArray, List.getElem_cons_zero, List.getElem_cons_succ, List.setIfInBounds_toArray, List.set_cons_zero, List.set_cons_succ]
  refine wpAnyH_take (i := 8) (v := ?_) rfl (by kernel_rfl) (by kernel_rfl) (by kernel_rfl) (fun _ _ _ h => h) (Or.inl ⟨by rfl, ?_⟩) (HS1.out) ?_
  rotate_left
  · intro w' hw; go_simp; with_reducible rfl
  try simp only [Act.put, List.getElem_toArray, List.getElem_cons_zero, List.getElem_cons_succ, List.setIfInBounds_toArray, List.set_cons_zero, List.set_cons_succ]
  refine wpAnyH_done (by kernel_rfl) ?_ _
  go_wp2
  go_ret
  exact ⟨by rw [← HBR.out]; exact (show Ending.returned (.bool (decide (IntKind.i64.wrap ((fl : Int) + (tl : Int)) ≤ 300))) = Ending.returned (.bool br) by rw [(IntWalk.i64_left _).trans e5, e6]), (HX4.out.go HS1.out).bel⟩
theorem right_near {o : Ob} (hr : o.right = true) : o.Near ∧ o.front.length + o.text.length ≤ 300 := by
 unfold Ob.right at hr
 simp only [Bool.and_eq_true, decide_eq_true_eq] at hr
 obtain ⟨h1, h2, _, h3, h4, h5⟩ := hr
 exact ⟨⟨h1, h2, (entsOk_near h3).1, (entsOk_near h3).2, h4⟩, h5⟩
def Ob.links (o : Ob) : List (List Nat) := (o.ents.map (·.id) ++ (if aimsB o.kind then [o.target] else [])) ++ o.pars
theorem ioid_info : (Tryz.prog.info? 41).map (fun i => (i.zero, i.size, i.bytes)) = some (some (.agg (cellsB (List.replicate 32 0)).toArray), 32, 32) := by kernel_rfl
theorem cellsP_snoc (l : List (List Nat)) (x : List Nat) : cellsP (l ++ [x]) = cellsP l ++ cellsB x := by simp [cellsP]
theorem cellsP_app (l m : List (List Nat)) : cellsP (l ++ m) = cellsP l ++ cellsP m := by simp [cellsP]
theorem cellsP_one (l : List (List Nat)) : ∀ v ∈ cellsP l, v.oneCell' = true := by
 intro v hv
 obtain ⟨x, _, hx⟩ := List.mem_flatMap.1 hv
 exact cellsB_one _ v hx
theorem ids_take {es : List Ent} {k : Nat} (h : k < es.length) : (es.take (k + 1)).map (·.id) = (es.take k).map (·.id) ++ [es[k].id] := by
 rw [List.take_succ_eq_append_getElem h, List.map_append]; simp
structure LkW (w2 w' : World) (v : Value) (ls : List (List Nat)) : Prop where
 own : w'.ownsRow w2.heap.size 41 32 v ls.length (cellsP ls)
 bel : Below w2.heap.size w2 w'
theorem ent_idx (e : Ent) {w : World} {g t : Nat} (hb : Blk w g t (cellsE1 e).toArray) : w.rangeAt g 1 (cellsB e.id) := fun j u hu => by
 rw [hb.cell, List.getElem?_toArray, cellsE1, Nat.add_comm 1 j, List.getElem?_cons_succ]
 exact hu
theorem tgt_idx {o : Ob} {cs : Array Value} {w : World} {g t : Nat} (hb : Blk w g t cs) (hm : ∀ i, i < o.target.length → cs[3 + i]? = some (.int .u8 ((o.target.getD i 0 : Nat) : Int))) : w.rangeAt g 3 (cellsB o.target) := fun j u hu => by
 have hj := (List.getElem?_eq_some_iff.1 hu).1
 rw [cellsB_len] at hj
 rw [cellsB_get hj] at hu
 rw [hb.cell, hm j hj, hu]
theorem cellsP_length : ∀ (ps : List (List Nat)), (∀ p ∈ ps, Id32 p) → (cellsP ps).length = ps.length * 32
 | [], _ => rfl
 | p :: ps, h => by
  have h1 := cellsP_length ps (fun x hx => h x (List.mem_cons_of_mem _ hx))
  have h2 := cellsP1_len (h p (List.mem_cons_self ..))
  unfold cellsP at h1 ⊢
  rw [List.flatMap_cons, List.length_append, h1, h2, List.length_cons]
  omega
theorem app_nothing (w : World) (ty : TypeId) (A P : Option Addr) (n c pc : Nat) (h : n ≤ c) : (Builtin.append_ #[106, 106] ty #[.slice A n c, .slice P 0 pc]).run Tryz.prog w = .ok (.slice A n c) w := by
 obtain ⟨ip, hip, _, hps, _⟩ := info_parts ioid_info
 cases A <;> cases P <;> simp [Builtin.append_, run_underlying Tryz.underlying106, sizeOf, typeInfo, hip, Builtin.lenOf, h, Builtin.firstCells, loadCells, loadCellsFrom, storeCells]
theorem app_pars {w2 wr : World} {v : Value} {ls ps : List (List Nat)} {A : Option Addr} {pc : Nat} (hL : LkW w2 wr v ls) (hP : RdK wr (.slice A ps.length pc) ps.length (cellsP ps)) (hi : ∀ p ∈ ps, Id32 p) (hn : ls.length ≤ 2000) (hm : ps.length ≤ 1000) (ty : TypeId) :
  ∃ v' w', (Builtin.append_ #[106, 106] ty #[v, .slice A ps.length pc]).run Tryz.prog wr = .ok v' w' ∧ LkW w2 w' v' (ls ++ ps) := by
 obtain ⟨ip, hip, hpz, hps, hpb⟩ := info_parts ioid_info
 by_cases h0 : ps.length = 0
 ·have hp : ps = [] := List.eq_nil_of_length_eq_zero h0
  subst hp
  obtain ⟨A2, c2, hv, hc⟩ : ∃ A2 c2, v = .slice A2 ls.length c2 ∧ ls.length ≤ c2 := by
   rcases hL.own.2 with ⟨h1, h2⟩ | ⟨g, cap, cur, h1, _, _, h2, _⟩
   ·exact ⟨none, 0, by rw [h1, h2], by omega⟩
   ·exact ⟨_, cap, h1, h2⟩
  subst hv
  exact ⟨_, _, app_nothing wr ty A2 A _ _ pc hc, by rw [List.append_nil]; exact hL⟩
 ·obtain ⟨A', c', hv, hc, hA⟩ := hP
  injection hv with e1 _ _
  obtain ⟨b, o, rfl, hb, hx⟩ := hA (by omega)
  subst e1
  obtain ⟨v', w', hr, ho, hg, _⟩ := run_append_own (P := Tryz.prog) wr w2.heap.size 106 ty 41 ip (.agg (cellsB (List.replicate 32 0)).toArray) 32 32 Tryz.underlying106 hip hpz hps hpb (by rfl) (by decide) v ls.length (cellsP ls) hL.own ⟨b, o, none⟩ ps.length pc (cellsP ps) (cellsP_length ps hi) (fun j u hj => by rw [Addr.add_mid]; exact hx j u hj) (cellsP_one ps) (by unfold maxLen; omega) (by omega) hL.bel.size
  exact ⟨v', w', hr, ⟨by rw [List.length_append, cellsP_app]; exact ho, below_own hL.bel hL.own (Nat.le_refl _) hg⟩⟩
def zOc : Array Value := #[.int .i64 0, .slice none 0 0, .slice none 0 0, .int .u8 0, .int .u8 0, .int .u8 0, .int .u8 0, .int .u8 0, .int .u8 0, .int .u8 0, .int .u8 0, .int .u8 0, .int .u8 0, .int .u8 0, .int .u8 0, .int .u8 0, .int .u8 0, .int .u8 0, .int .u8 0, .int .u8 0, .int .u8 0, .int .u8 0, .int .u8 0, .int .u8 0, .int .u8 0, .int .u8 0, .int .u8 0, .int .u8 0, .int .u8 0, .int .u8 0, .int .u8 0, .int .u8 0, .int .u8 0, .int .u8 0, .int .u8 0, .slice none 0 0]
abbrev runBoxO (w : World) (r : Nat) : World := ((w.alloc (.cells #[.pointer (some ⟨r, 0, none⟩)] 238)).alloc (.cells zOc 183)).alloc (.cells #[.pointer (some ⟨r, 0, none⟩)] 258)
theorem resultsO {fn : Func} {t : Tmp} (hr : fn.results = #[.cell t 183]) {tmps : Array Value} {W : World} {g : Nat} {cs : Array Value} (h4 : tmps.getD t undef = .pointer (some ⟨g, 0, none⟩)) (hb : Blk W g 183 cs) (hs : cs.size = 36) :
  (results fn tmps).run Tryz.prog W = .ok (.agg cs) W := by
 have hl : (loadVar 183 ⟨g, 0, none⟩).run Tryz.prog W = .ok (.agg cs) W := run_loadVar_row W g 183 183 cs (0, 0) _ hb Tryz.underlying183 (by rfl) (by rw [hs]; kernel_rfl)
 simp only [Array.getD_eq_getD_getElem?] at h4
 simp [results, hr, h4, asAddr, hl]
theorem catchO_idle (q : Nat) (w : World) :
  CallsD Tryz.prog 177 #[.pointer (some ⟨q, 0, none⟩)] .returning w fun e u' w' => e = .returned (.tuple #[]) ∧ u' = .returning ∧ w' = w := by
 refine callsD_of_wpS Tryz.func177 rfl fun c₀ cs hu => ?_
 apply wpS_seq
 apply wpS_region
 simp [wpOpsS, go_sem, recoverD, hu, Tryz.ntmps177, Exit.thenS]
 rw [slots17]
 refine wpS_of_wp ?_
 go_wp2
 exact ⟨rfl, _, by rw [← hu], _, results_none rfl _ _ _, rfl, rfl, rfl⟩
set_option maxRecDepth 100000 in
theorem catchO_stop (q r : Nat) (older : List PanicEntry) (w : World) (hq : w.cell? ⟨q, 0, none⟩ = some (.pointer (some ⟨r, 0, none⟩))) :
  CallsD Tryz.prog 177 #[.pointer (some ⟨q, 0, none⟩)] (.panicking ({ v := stopV r, recovered := false } :: older)) w fun e u' w' =>
   e = .returned (.tuple #[]) ∧ u' = .panicking ({ v := stopV r, recovered := true } :: older) ∧ Below w.heap.size w w' := by
 refine callsD_of_wpS Tryz.func177 rfl fun c₀ cs hu => ?_
 apply wpS_seq
 apply wpS_region
 simp [wpOpsS, go_sem, recoverD, hu, Tryz.ntmps177, Exit.thenS]
 rw [slots17]
 refine wpS_of_wp ?_
 have h1 := stop_eql r
 have h2 := stop_assert r
 have h3 := stop_neq r
 have hb : Hid (Below w.heap.size w (w.alloc (.cells #[.pointer (some ⟨r, 0, none⟩)] 257))) := Lib.hid ((Below.refl _ _).alloc (Nat.le_refl _) _)
 have hq2 : (w.alloc (.cells #[.pointer (some ⟨r, 0, none⟩)] 257)).cell? ⟨q, 0, none⟩ = some (.pointer (some ⟨r, 0, none⟩)) := (hb.out.cell (p := ⟨q, 0, none⟩) (block_lt_of_cell hq)).trans hq
 go_wp2
 refine ⟨rfl, .panicking ({ v := stopV r, recovered := true } :: older), rfl, .tuple #[], ?_, rfl, rfl, hb.out⟩
 exact results_none rfl _ _ _
theorem closeO_any (q r : Nat) (v0 v1 v2 v3 : Value) (w : World) (hq : w.cell? ⟨q, 0, none⟩ = some (.pointer (some ⟨r, 0, none⟩))) (hr : Blk w r 240 #[v0, v1, v2, v3]) :
  CallsD Tryz.prog 159 #[.pointer (some ⟨q, 0, none⟩)] .returning w fun e u' w' => u' = .returning ∧ (e = .returned (.tuple #[]) ∧ w.grownBy w' (some r)) := by
 have HG : Hid (w.grownBy ((((w.setCell ⟨r, 0, none⟩ (.slice none 0 0)).setCell ⟨r, 1, none⟩ (.bool false)).setCell ⟨r, 2, none⟩ (.bool false)).setCell ⟨r, 3, none⟩ .nilIface) (some r)) := Lib.hid (only_setCell (p := ⟨r, 3, none⟩) (only_setCell (p := ⟨r, 2, none⟩) (only_setCell (p := ⟨r, 1, none⟩) (only_setCell (p := ⟨r, 0, none⟩) (World.grownBy.refl w (some r)) (Or.inl rfl) _) (Or.inl rfl) _) (Or.inl rfl) _) (Or.inl rfl) _)
 have c0 : w.cell? ⟨r, 0, none⟩ = some v0 := hr.cell 0
 have c1 : w.cell? ⟨r, 1, none⟩ = some v1 := hr.cell 1
 have c2 : w.cell? ⟨r, 2, none⟩ = some v2 := hr.cell 2
 have c3 : w.cell? ⟨r, 3, none⟩ = some v3 := hr.cell 3
 have z0 := hr.frozen 0
 have z1 := hr.frozen 1
 have z2 := hr.frozen 2
 have z3 := hr.frozen 3
 clear hr
 go_enter_d Tryz.func159, Tryz.ntmps159
 go_wp2
 go_end0
 exact ⟨rfl, HG.out⟩
theorem runO_ok (K : Nat) (cap : Array Value) (r : Nat) (w : World) (R : Array Value → World → Prop) (hK : ∀ args w, (callFunc K args).run Tryz.prog w = .ok (.enter K args) w)
  (hread : Calls Tryz.prog K (#[.pointer (some ⟨w.heap.size + 2, 0, none⟩)] ++ cap) (runBoxO w r) fun e w' => ∃ cs, e = .returned (.agg cs) ∧ cs.size = 36 ∧ cs.all (·.oneCell') = true ∧ Blk w' (w.heap.size + 1) 183 zOc ∧ R cs w')
  (hR : ∀ cs a b, R cs a → a.grownBy b (some (w.heap.size + 1)) → R cs b) :
  Calls Tryz.prog 160 #[.pointer (some ⟨r, 0, none⟩), .func (.func K) #[] cap] w fun e w' => ∃ cs, e = .returned (.agg cs) ∧ cs.size = 36 ∧ R cs w' := by
 have hmf : ∀ (fn : Fn) (first cap : Array Value) (w : World), (Instr.makeFunc fn first cap).run Tryz.prog w = .ok (.func fn first cap) w := fun _ _ _ _ => rfl
 go_enter_defers Tryz.func160, Tryz.ntmps160
 go_wp2_with (refine hread.mono ?_; rintro e w1 ⟨cs, rfl, hs, h1, hb, hr⟩; have HR := Lib.hid hr; have HB := Lib.hid hb; have HS := Lib.hid hs; have HO := Lib.hid h1; clear hr hb hs h1; refine pause ?_)
 unfold Paused
 go_wp2_with (with_reducible (show wpList _ _ _ (Oper.mk _ (Op.store 183 _ _) _ _ _ _ :: _) _ _); refine pause ?_)
 unfold Paused
 refine wpList_store_row (by rfl) 183 (.tmp 4) (.tmp 10) (by rfl) (w.heap.size + 1) cs (by rfl) (by rfl) 183 zOc HB.out (by rw [HS.out]; kernel_rfl) (by rw [HS.out]; rfl) HO.out ?_
 have HB2 := Lib.hid (HB.out.row cs)
 have HG := Lib.hid (show w1.grownBy (w1.setRow (w.heap.size + 1) cs) (some (w.heap.size + 1)) from ⟨rfl, rfl, rfl, by simp, fun k _ hk => setRow_other w1 _ k _ (fun e => hk (by rw [e]))⟩)
 generalize w1.setRow (w.heap.size + 1) cs = w2 at HB2 HG ⊢
 go_wp2
 refine leaves_cons (f := 177) (args := #[.pointer (some ⟨w.heap.size, 0, none⟩)]) (by simp) (by simp [go_sem]) ?_
 refine (catchO_idle w.heap.size _).mono ?_
 rintro e u' w'' ⟨rfl, rfl, rfl⟩
 refine ⟨_, resultsO (t := 4) rfl (by rfl) HB2.out HS.out, ?_⟩
 exact ⟨cs, rfl, HS.out, hR _ _ _ HR.out HG.out⟩
theorem runO_bad (K : Nat) (cap : Array Value) (r : Nat) (w : World) (R : World → Prop) (hK : ∀ args w, (callFunc K args).run Tryz.prog w = .ok (.enter K args) w)
  (hread : Calls Tryz.prog K (#[.pointer (some ⟨w.heap.size + 2, 0, none⟩)] ++ cap) (runBoxO w r) fun e w' => e = .panicked [{ v := stopV r, recovered := false }] ∧ Blk w' (w.heap.size + 1) 183 zOc ∧ R w')
  (hq : ∀ a, R a → a.cell? ⟨w.heap.size, 0, none⟩ = some (.pointer (some ⟨r, 0, none⟩))) (hR : ∀ a b, R a → Below a.heap.size a b → R b) :
  Calls Tryz.prog 160 #[.pointer (some ⟨r, 0, none⟩), .func (.func K) #[] cap] w fun e w' => e = .returned (.agg zOc) ∧ R w' := by
 have hmf : ∀ (fn : Fn) (first cap : Array Value) (w : World), (Instr.makeFunc fn first cap).run Tryz.prog w = .ok (.func fn first cap) w := fun _ _ _ _ => rfl
 go_enter_defers Tryz.func160, Tryz.ntmps160
 go_wp2_with (refine hread.mono ?_; rintro e w1 ⟨rfl, hb, hr⟩; have HR := Lib.hid hr; have HB := Lib.hid hb; clear hr hb)
 refine leaves_cons (f := 177) (args := #[.pointer (some ⟨w.heap.size, 0, none⟩)]) (by simp) (by simp [go_sem]) ?_
 refine (catchO_stop w.heap.size r [] _ (hq _ HR.out)).mono ?_
 rintro e u' w'' ⟨rfl, rfl, hb⟩
 exact ⟨_, resultsO (t := 4) rfl (by rfl) (HB.out.below hb HB.out.lt) (by rfl), rfl, hR _ _ HR.out hb⟩
end Go.Proofs.YtgcgomdhdgjpdaaGreatDoor
