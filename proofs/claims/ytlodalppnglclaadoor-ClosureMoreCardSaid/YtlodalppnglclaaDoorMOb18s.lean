/- Which objects are right (Right), and their bytes (Bytes), in general. -/
import Derived.Test.YtlodalppnglclaaDoorMOb16s
import Derived.Test.YtlodalppnglclaaDoorMOb17
import Derived.Test.YtlodalppnglclaaDoorMShaSums
import Derived.Lib.SlFresh
namespace Go.Proofs.YtlodalppnglclaaDoor
open Go Go.RowKit
noncomputable def Ob.right (o : Ob) : Bool := decide (1 ≤ o.kind) && (decide (o.kind ≤ 4) && (!o.strange && (entsOk o.ents && (decide (o.pars.length ≤ 4) && decide (o.front.length + o.text.length ≤ 300)))))
theorem entsOk_near {es : List Ent} (h : entsOk es = true) : es.length ≤ 8 ∧ ∀ e ∈ es, e.name.size ≤ 12 := by
  unfold entsOk at h
  rw [Bool.and_eq_true, decide_eq_true_eq] at h
  refine ⟨h.1, fun e he => ?_⟩
  obtain ⟨i, hi, rfl⟩ := List.mem_iff_getElem.1 he
  have h2 := h.2
  unfold okTo at h2
  rw [List.all_eq_true] at h2
  have h3 := h2 i (by simpa using hi)
  unfold okAt at h3
  rw [Bool.and_eq_true, nameAt_is hi] at h3
  have h4 := h3.1
  unfold nameOk at h4
  rw [Bool.and_eq_true, Bool.and_eq_true, decide_eq_true_eq, decide_eq_true_eq] at h4
  have h5 := h4.1.2
  rw [toList_data] at h5
  simpa using h5
/-- What is so of every object that was read: no text is longer than a machine can hold. -/
structure Ob.Held (o : Ob) : Prop where
  names : ∀ e ∈ o.ents, e.name.size ≤ 1099511627776
  text : o.text.length ≤ 1099511627776
set_option maxRecDepth 100000 in
set_option maxHeartbeats 4000000 in
theorem right_any (o : Ob) (cs : Array Value) (T E P : Option Addr) (tc ec pc : Nat) (w : World) (h : ObC w o cs T tc E ec P pc) (hf : o.Fit) (hd : o.Held) :
    Calls Tryd.prog 34 #[.agg cs] w fun e w' => e = .returned (.bool o.right) ∧ Below w.heap.size w w' := by
  obtain ⟨w2, hw2⟩ : ∃ w2, w2 = w.alloc (.cells cs 50) := ⟨_, rfl⟩
  have X1 : Box w w2 w.heap.size 50 cs := hw2 ▸ Box.new w _ cs
  have HC := Lib.hid h
  have HF := Lib.hid hf
  have HD := Lib.hid hd
  have hsz := h.size hf
  have a0 : w2.cell? ⟨w.heap.size, 0, none⟩ = some (.int .i64 o.kind) := (X1.at_.cell 0).trans h.c0
  have n1 : (Tryd.prog.info? 50).map (·.size) = some cs.size := by rw [hsz]; kernel_rfl
  have CS := strange_any o cs T E P tc ec pc w2 (h.below X1.bel (Nat.le_refl _)) hf
  have HX1 := Lib.hid X1
  have N1 := Lib.hid n1
  have K1 := Lib.hid h.c1
  have K2 := Lib.hid h.c2
  have K3 := Lib.hid (h.c35 hf)
  have e2 := hw2.symm
  clear h X1 hw2 n1 hsz hf hd
  by_cases k1 : o.kind < 1
  · have HV := Lib.hid (show o.right = false by unfold Ob.right; rw [decide_eq_false (by omega)]; rfl)
    go_enter Tryd.func34, Tryd.ntmps34
    go_wp2
    go_ret
    exact ⟨by rw [HV.out]; rfl, HX1.out.bel⟩
  by_cases k4 : 4 < o.kind
  · have HV := Lib.hid (show o.right = false by unfold Ob.right; rw [decide_eq_false (show ¬ o.kind ≤ 4 by omega), Bool.false_and, Bool.and_false])
    go_enter Tryd.func34, Tryd.ntmps34
    go_wp2
    go_ret
    exact ⟨by rw [HV.out]; rfl, HX1.out.bel⟩
  have HR1 : Hid ((!o.strange && (entsOk o.ents && (decide (o.pars.length ≤ 4) && decide (o.front.length + o.text.length ≤ 300)))) = o.right) := Lib.hid (by unfold Ob.right; rw [decide_eq_true (show 1 ≤ o.kind by omega), decide_eq_true (show o.kind ≤ 4 by omega), Bool.true_and, Bool.true_and])
  have HK := Lib.hid (show 1 ≤ o.kind ∧ o.kind ≤ 4 by omega)
  go_enter Tryd.func34, Tryd.ntmps34
  go_wp2_with (with_reducible (show wpList _ _ _ (Oper.mk _ (Op.load 50 _) _ _ _ _ :: _) _ _); refine pause ?_)
  unfold Paused
  refine wpList_row_w (by rfl) 50 (.tmp 1) (by rfl) w.heap.size (by rfl) 50 cs _ HX1.out.at_ Tryd.underlying50 (by rfl) N1.out ?_
  go_wp2_with (go_at_call 47; refine pause ?_)
  unfold Paused
  refine CS.mono ?_
  rintro e w3 ⟨rfl, hb⟩
  have HX3 := Lib.hid (HX1.out.go hb)
  have b2 : w3.cell? ⟨w.heap.size, 2, none⟩ = some (.slice E o.ents.length ec) := (HX3.out.at_.cell 2).trans K2.out
  clear hb a0 CS e2
  generalize o.strange = st at HR1
  cases st
  rotate_left
  · go_wp2
    go_ret
    exact ⟨by rw [← HR1.out]; rfl, HX3.out.bel⟩
  have CR := rents_any E ec o.ents w3 (HC.out.ents.below HX3.out.bel (Nat.le_refl _)) HF.out.ents HD.out.names
  obtain ⟨eo, heo⟩ : ∃ eo, eo = entsOk o.ents := ⟨_, rfl⟩
  rw [← heo] at CR HR1
  have HEO := Lib.hid heo
  clear heo
  go_wp2_with (go_at_call 48; refine pause ?_)
  unfold Paused
  refine CR.mono ?_
  rintro e w4 ⟨rfl, hb⟩
  have HX4 := Lib.hid (HX3.out.go hb)
  have b3 : w4.cell? ⟨w.heap.size, 35, none⟩ = some (.slice P o.pars.length pc) := (HX4.out.at_.cell 35).trans K3.out
  clear hb CR b2
  cases eo
  · go_wp2
    go_ret
    exact ⟨by rw [← HR1.out]; rfl, HX4.out.bel⟩
  by_cases hp : (4 : Int) < o.pars.length
  · have HV := Lib.hid (show o.right = false by rw [← HR1.out, decide_eq_false (show ¬ o.pars.length ≤ 4 by omega)]; rfl)
    go_wp2
    go_ret
    exact ⟨by rw [HV.out]; rfl, HX4.out.bel⟩
  have HV : Hid (decide (o.front.length + o.text.length ≤ 300) = o.right) := Lib.hid (by rw [← HR1.out, decide_eq_true (show o.pars.length ≤ 4 by omega)]; rfl)
  have HNR : Hid o.Near := Lib.hid ⟨HK.out.1, HK.out.2, (entsOk_near HEO.out.symm).1, (entsOk_near HEO.out.symm).2, by omega⟩
  have HTL := Lib.hid HD.out.text
  have HFL : Hid (o.front.length ≤ 1000000) := Lib.hid (by
    have h1 := ents_len o.ents HNR.out.names HF.out.ents
    have h2 := HNR.out.ents
    have h3 := pars_len o.pars HF.out.pars
    have h4 := HNR.out.pars
    have h5 := HF.out.target.1
    unfold Ob.front
    simp only [List.length_append, List.length_cons, List.length_nil]
    split <;> split <;> simp only [List.length_cons, List.length_nil] <;> omega)
  have CF : ∀ w', Below w4.heap.size w4 w' → Calls Tryd.prog 35 #[.agg cs] w' _ := fun w' hb => front_any o cs T E P tc ec pc w' (HC.out.below (HX4.out.go hb).bel (Nat.le_refl _)) HF.out HNR.out
  have c1 : ∀ w', Below w4.heap.size w4 w' → w'.cell? ⟨w.heap.size, 1, none⟩ = some (.slice T o.text.length tc) := fun w' hb => ((HX4.out.go hb).at_.cell 1).trans K1.out
  obtain ⟨fl, hfl⟩ : ∃ fl, fl = o.front.length := ⟨_, rfl⟩
  rw [← hfl] at HV HFL
  simp only [← hfl] at CF
  generalize o.text.length = tl at *
  obtain ⟨br, hbr⟩ : ∃ br, br = o.right := ⟨_, rfl⟩
  rw [← hbr] at HV
  have HBR := Lib.hid hbr
  have e5 : wrap64 ((fl : Int) + (tl : Int)) = ((fl + tl : Nat) : Int) := by have h1 := HFL.out; have h2 := HTL.out; rw [IntWalk.wrap64_in _ (by omega)]; omega
  have e6 : decide (((fl + tl : Nat) : Int) ≤ 300) = br := by rw [← HV.out]; congr 1; exact propext ⟨fun h => by omega, fun h => by omega⟩
  clear hbr hfl k1 k4
  go_wp2
  refine wp_region_held (S := (fun w' => Below w4.heap.size w4 w')) (by kernel_rfl) ?_
  change wpAnyH _ _ _ _ _ _ _ _ w4.drew
  have HS0 := Lib.hid (below_drewN (Below.refl w4.heap.size w4) 1)
  refine wpAnyH_take (i := 0) rfl (by kernel_rfl) (by kernel_rfl) (by kernel_rfl) (fun _ _ _ h => h) (takes_row 50 (.tmp 1) rfl (by rfl) w.heap.size rfl 50 cs _ (fun w' h => (HX4.out.go h).at_) Tryd.underlying50 rfl N1.out) (HS0.out) ?_
  try simp only [Act.put, List.getElem_toArray, List.getElem_cons_zero, List.setIfInBounds_toArray, List.set_cons_zero, List.set_cons_succ]
  refine wpAnyH_take (i := 3) (v := ?_) rfl (by kernel_rfl) (by kernel_rfl) (by kernel_rfl) (fun _ _ _ h => h) (Or.inl ⟨by rfl, ?_⟩) (HS0.out) ?_
  rotate_left
  · intro w' hw; go_simp; with_reducible rfl
  try simp only [Act.put, List.getElem_toArray, List.getElem_cons_zero, List.getElem_cons_succ, List.setIfInBounds_toArray, List.set_cons_zero, List.set_cons_succ]
  refine wpAnyH_take (i := 4) (v := ?_) rfl (by kernel_rfl) (by kernel_rfl) (by kernel_rfl) (fun _ _ _ h => h) (Or.inl ⟨by rfl, ?_⟩) (HS0.out) ?_
  rotate_left
  · intro w' hw; go_simp; with_reducible rfl
  try simp only [Act.put, List.getElem_toArray, List.getElem_cons_zero, List.getElem_cons_succ, List.setIfInBounds_toArray, List.set_cons_zero, List.set_cons_succ]
  refine wpAnyH_take (i := 5) (v := ?_) rfl (by kernel_rfl) (by kernel_rfl) (by kernel_rfl) (fun _ _ _ h => h) (Or.inl ⟨by rfl, ?_⟩) (HS0.out) ?_
  rotate_left
  · intro w' hw; go_simp; with_reducible rfl
  try simp only [Act.put, List.getElem_toArray, List.getElem_cons_zero, List.getElem_cons_succ, List.setIfInBounds_toArray, List.set_cons_zero, List.set_cons_succ]
  refine all_one (i := 1) (by kernel_rfl) rfl (by rfl) (fun K hK => ?_)
  go_simp
  refine (CF _ HS0.out).mono ?_
  rintro e w5 ⟨A, c, rfl, hp⟩
  have HS1 : Hid (Below w4.heap.size w4 w5) := Lib.hid (below_next HS0.out (by
    have h1 : Below w4.drew.heap.size w4.drew (w4.drew.alloc (.cells cs 50)) := (Below.refl _ _).alloc (Nat.le_refl _) _
    have h2 := hp.bel
    exact below_next h1 (by have e : (w4.drew.alloc (.cells cs 50)).heap.size = w4.drew.heap.size + 1 := by simp
                            rw [e]; exact h2)))
  clear hp
  dsimp only
  refine hK _ _ HS1.out ?_; clear hK K
  try simp only [Act.put, List.getElem_toArray, List.getElem_cons_zero, List.getElem_cons_succ, List.setIfInBounds_toArray, List.set_cons_zero, List.set_cons_succ]
  refine wpAnyH_take (i := 2) (v := ?_) rfl (by kernel_rfl) (by kernel_rfl) (by kernel_rfl) (fun _ _ _ h => h) (Or.inl ⟨by rfl, ?_⟩) (HS1.out) ?_
  rotate_left
  · intro w' hw; go_simp; with_reducible rfl
  try simp only [Act.put, List.getElem_toArray, List.getElem_cons_zero, List.getElem_cons_succ, List.setIfInBounds_toArray, List.set_cons_zero, List.set_cons_succ]
  refine wpAnyH_take (i := 6) (v := ?_) rfl (by kernel_rfl) (by kernel_rfl) (by kernel_rfl) (fun _ _ _ h => h) (Or.inl ⟨by rfl, ?_⟩) (HS1.out) ?_
  rotate_left
  · intro w' hw; go_simp; with_reducible rfl
  try simp only [Act.put, List.getElem_toArray, List.getElem_cons_zero, List.getElem_cons_succ, List.setIfInBounds_toArray, List.set_cons_zero, List.set_cons_succ]
  refine wpAnyH_take (i := 7) (v := ?_) rfl (by kernel_rfl) (by kernel_rfl) (by kernel_rfl) (fun _ _ _ h => h) (Or.inl ⟨by rfl, ?_⟩) (HS1.out) ?_
  rotate_left
  · intro w' hw; go_simp; with_reducible rfl
  try simp only [Act.put, List.getElem_toArray, List.getElem_cons_zero, List.getElem_cons_succ, List.setIfInBounds_toArray, List.set_cons_zero, List.set_cons_succ]
  refine wpAnyH_take (i := 8) (v := ?_) rfl (by kernel_rfl) (by kernel_rfl) (by kernel_rfl) (fun _ _ _ h => h) (Or.inl ⟨by rfl, ?_⟩) (HS1.out) ?_
  rotate_left
  · intro w' hw; go_simp; with_reducible rfl
  try simp only [Act.put, List.getElem_toArray, List.getElem_cons_zero, List.getElem_cons_succ, List.setIfInBounds_toArray, List.set_cons_zero, List.set_cons_succ]
  refine wpAnyH_done (by kernel_rfl) ?_ _
  go_wp2
  go_ret
  exact ⟨by rw [← HBR.out]; exact (show Ending.returned (.bool (decide (IntKind.i64.wrap ((fl : Int) + (tl : Int)) ≤ 300))) = Ending.returned (.bool br) by rw [(IntWalk.i64_left _).trans e5, e6]), (HX4.out.go HS1.out).bel⟩
end Go.Proofs.YtlodalppnglclaaDoor
/- The bytes of any object (Bytes), in general. -/
namespace Go.Proofs.YtlodalppnglclaaDoor
open Go Go.RowKit
/-- What object.Bytes answers. -/
def BytesPost (o : Ob) (aF : Addr) (w : World) (e : Ending) (w' : World) : Prop :=
  Below w.heap.size w w' ∧ (o.right = false → e = .returned (.tuple #[.slice none 0 0, ev aF])) ∧ (o.right = true → ∃ v, e = .returned (.tuple #[v, .nilIface]) ∧ Rd w' v (o.front ++ o.text))
theorem right_near {o : Ob} (hr : o.right = true) : o.Near ∧ o.front.length + o.text.length ≤ 300 := by
  unfold Ob.right at hr
  simp only [Bool.and_eq_true, decide_eq_true_eq] at hr
  obtain ⟨h1, h2, _, h3, h4, h5⟩ := hr
  exact ⟨⟨h1, h2, (entsOk_near h3).1, (entsOk_near h3).2, h4⟩, h5⟩
set_option maxRecDepth 100000 in
set_option maxHeartbeats 2000000 in
theorem obytes_any (o : Ob) (cs : Array Value) (T E P : Option Addr) (tc ec pc : Nat) (aF : Addr) (w : World) (h : ObC w o cs T tc E ec P pc) (hf : o.Fit) (hd : o.Held) (hF : w.cell? ⟨0, 0, none⟩ = some (ev aF)) :
    Calls Tryd.prog 19 #[.agg cs] w (BytesPost o aF w) := by
  obtain ⟨w2, hw2⟩ : ∃ w2, w2 = w.alloc (.cells cs 50) := ⟨_, rfl⟩
  have X1 : Box w w2 w.heap.size 50 cs := hw2 ▸ Box.new w _ cs
  have HC := Lib.hid h
  have HFT := Lib.hid hf
  have hsz := h.size hf
  have n1 : (Tryd.prog.info? 50).map (·.size) = some cs.size := by rw [hsz]; kernel_rfl
  have CR := right_any o cs T E P tc ec pc w2 (h.below X1.bel (Nat.le_refl _)) hf hd
  have HX1 := Lib.hid X1
  have N1 := Lib.hid n1
  have K1 := Lib.hid h.c1
  have HFC := Lib.hid hF
  have e2 := hw2.symm
  clear h X1 hw2 n1 hsz hf hd hF
  obtain ⟨br, hbr⟩ : ∃ br, br = o.right := ⟨_, rfl⟩
  rw [← hbr] at CR
  have HBR := Lib.hid hbr
  clear hbr
  go_enter Tryd.func19, Tryd.ntmps19
  go_wp2_with (with_reducible (show wpList _ _ _ (Oper.mk _ (Op.load 50 _) _ _ _ _ :: _) _ _); refine pause ?_)
  unfold Paused
  refine wpList_row_w (by rfl) 50 (.tmp 1) (by rfl) w.heap.size (by rfl) 50 cs _ HX1.out.at_ Tryd.underlying50 (by rfl) N1.out ?_
  go_wp2_with (go_at_call 34; refine pause ?_)
  unfold Paused
  refine CR.mono ?_
  rintro e w3 ⟨rfl, hb⟩
  have HX3 := Lib.hid (HX1.out.go hb)
  clear hb CR e2
  cases br
  · have f1 : w3.cell? ⟨0, 0, none⟩ = some (ev aF) := (World.cell?_of_block (HX3.out.bel.block _ (block_lt_of_cell HFC.out))).trans HFC.out
    go_wp2
    go_quiet (fail)
    go_wp2
    go_ret2
    exact ⟨below_drewN HX3.out.bel _, fun _ => rfl, fun h => (by rw [← HBR.out] at h; cases h)⟩
  have HNR := Lib.hid (right_near HBR.out.symm)
  have CF : ∀ w', Below w3.heap.size w3 w' → Calls Tryd.prog 35 #[.agg cs] w' _ := fun w' hb => front_any o cs T E P tc ec pc w' (HC.out.below (HX3.out.go hb).bel (Nat.le_refl _)) HFT.out HNR.out.1
  have c1 : ∀ w', Below w3.heap.size w3 w' → w'.cell? ⟨w.heap.size, 1, none⟩ = some (.slice T o.text.length tc) := fun w' hb => ((HX3.out.go hb).at_.cell 1).trans K1.out
  go_wp2
  refine wp_region_held (S := (fun w' => Below w3.heap.size w3 w')) (by kernel_rfl) ?_
  change wpAnyH _ _ _ _ _ _ _ _ w3.drew
  have HS0 := Lib.hid (below_drewN (Below.refl w3.heap.size w3) 1)
  refine wpAnyH_take (i := 0) rfl (by kernel_rfl) (by kernel_rfl) (by kernel_rfl) (fun _ _ _ h => h) (takes_row 50 (.tmp 1) rfl (by rfl) w.heap.size rfl 50 cs _ (fun w' h => (HX3.out.go h).at_) Tryd.underlying50 rfl N1.out) (HS0.out) ?_
  try simp only [Act.put, List.getElem_toArray, List.getElem_cons_zero, List.setIfInBounds_toArray, List.set_cons_zero, List.set_cons_succ]
  refine wpAnyH_take (i := 2) (v := ?_) rfl (by kernel_rfl) (by kernel_rfl) (by kernel_rfl) (fun _ _ _ h => h) (Or.inl ⟨by rfl, ?_⟩) (HS0.out) ?_
  rotate_left
  · intro w' hw; go_simp; with_reducible rfl
  try simp only [Act.put, List.getElem_toArray, List.getElem_cons_zero, List.getElem_cons_succ, List.setIfInBounds_toArray, List.set_cons_zero, List.set_cons_succ]
  refine wpAnyH_take (i := 3) (v := ?_) rfl (by kernel_rfl) (by kernel_rfl) (by kernel_rfl) (fun _ _ _ h => h) (Or.inl ⟨by rfl, ?_⟩) (HS0.out) ?_
  rotate_left
  · intro w' hw; go_simp; with_reducible rfl
  try simp only [Act.put, List.getElem_toArray, List.getElem_cons_zero, List.getElem_cons_succ, List.setIfInBounds_toArray, List.set_cons_zero, List.set_cons_succ]
  refine all_one (i := 1) (by kernel_rfl) rfl (by rfl) (fun K hK => ?_)
  go_simp
  refine (CF _ HS0.out).mono ?_
  rintro e w4 ⟨A, c, rfl, hp⟩
  have hsz4 : (w3.drew.alloc (.cells cs 50)).heap.size = w3.drew.heap.size + 1 := by simp
  have HB4 : Hid (Below w3.drew.heap.size w3.drew w4) := Lib.hid (below_next ((Below.refl _ _).alloc (Nat.le_refl _) _) (by rw [hsz4]; exact hp.bel))
  have HS1 : Hid (Below w3.heap.size w3 w4) := Lib.hid (below_next HS0.out HB4.out)
  have HPD := Lib.hid hp
  clear hp hsz4
  dsimp only
  refine hK _ _ HS1.out ?_; clear hK K
  try simp only [Act.put, List.getElem_toArray, List.getElem_cons_zero, List.getElem_cons_succ, List.setIfInBounds_toArray, List.set_cons_zero, List.set_cons_succ]
  have HRT : Hid (Rd w4 (.slice T o.text.length tc) o.text) := Lib.hid (HC.out.text.below (HX3.out.go HS1.out).bel (Nat.le_refl _))
  have hle : w3.drew.heap.size + 1 ≤ w4.heap.size := (by have h := HPD.out.bel.size; simpa using h)
  refine all_one (i := 4) (by kernel_rfl) rfl (by rfl) (fun K hK => ?_)
  refine ap_bytes (.tmp 9) (.tmp 11) rfl (w3.drew.heap.size + 1) _ o.front rfl HPD.out.own hle _ rfl o.text HRT.out (by have := HNR.out.2; omega) ?_
  intro v2 w5 ho2 hg2
  have HB5 : Hid (Below w3.drew.heap.size w3.drew w5) := Lib.hid (below_own HB4.out HPD.out.own (Nat.le_succ _) hg2)
  have HS2 : Hid (Below w3.heap.size w3 w5) := Lib.hid (below_next HS0.out HB5.out)
  have HR2 : Hid (Rd w5 v2 (o.front ++ o.text)) := Lib.hid (rd_of_own ho2 rfl)
  clear ho2 hg2
  refine hK _ _ HS2.out ?_; clear hK K
  try simp only [Act.put, List.getElem_toArray, List.getElem_cons_zero, List.getElem_cons_succ, List.setIfInBounds_toArray, List.set_cons_zero, List.set_cons_succ]
  refine wpAnyH_take (i := 5) (v := ?_) rfl (by kernel_rfl) (by kernel_rfl) (by kernel_rfl) (fun _ _ _ h => h) (Or.inl ⟨by rfl, ?_⟩) (HS2.out) ?_
  rotate_left
  · intro w' hw; go_simp; with_reducible rfl
  try simp only [Act.put, List.getElem_toArray, List.getElem_cons_zero, List.getElem_cons_succ, List.setIfInBounds_toArray, List.set_cons_zero, List.set_cons_succ]
  refine wpAnyH_take (i := 6) (v := ?_) rfl (by kernel_rfl) (by kernel_rfl) (by kernel_rfl) (fun _ _ _ h => h) (Or.inl ⟨by rfl, ?_⟩) (HS2.out) ?_
  rotate_left
  · intro w' hw; go_simp; with_reducible rfl
  try simp only [Act.put, List.getElem_toArray, List.getElem_cons_zero, List.getElem_cons_succ, List.setIfInBounds_toArray, List.set_cons_zero, List.set_cons_succ]
  refine wpAnyH_done (by kernel_rfl) ?_ _
  go_wp2
  go_ret2
  exact ⟨(HX3.out.go HS2.out).bel, fun h => (by rw [← HBR.out] at h; cases h), fun _ => ⟨_, rfl, HR2.out⟩⟩
end Go.Proofs.YtlodalppnglclaaDoor
/- The ids that an object names (Links). -/
namespace Go.Proofs.YtlodalppnglclaaDoor
open Go Go.RowKit
def Ob.links (o : Ob) : List (List Nat) := (o.ents.map (·.id) ++ (if aimsB o.kind then [o.target] else [])) ++ o.pars
theorem ioid_info : (Tryd.prog.info? 37).map (fun i => (i.zero, i.size, i.bytes)) = some (some (.agg (cellsB (List.replicate 32 0)).toArray), 32, 32) := by kernel_rfl
theorem cellsP_snoc (l : List (List Nat)) (x : List Nat) : cellsP (l ++ [x]) = cellsP l ++ cellsB x := by simp [cellsP]
theorem cellsP_app (l m : List (List Nat)) : cellsP (l ++ m) = cellsP l ++ cellsP m := by simp [cellsP]
theorem cellsP_one (l : List (List Nat)) : ∀ v ∈ cellsP l, v.oneCell' = true := by
  intro v hv
  obtain ⟨x, _, hx⟩ := List.mem_flatMap.1 hv
  exact cellsB_one _ v hx
theorem ids_take {es : List Ent} {k : Nat} (h : k < es.length) : (es.take (k + 1)).map (·.id) = (es.take k).map (·.id) ++ [es[k].id] := by
  rw [List.take_succ_eq_append_getElem h, List.map_append]; simp
/-- The ids so far: the call's own row. -/
structure LkW (w2 w' : World) (v : Value) (ls : List (List Nat)) : Prop where
  own : w'.ownsRow w2.heap.size 37 32 v ls.length (cellsP ls)
  bel : Below w2.heap.size w2 w'
theorem ent_idx (e : Ent) {w : World} {g t : Nat} (hb : Blk w g t (cellsE1 e).toArray) : w.rangeAt g 1 (cellsB e.id) := fun j u hu => by
  rw [hb.cell, List.getElem?_toArray, cellsE1, Nat.add_comm 1 j, List.getElem?_cons_succ]
  exact hu
theorem tgt_idx {o : Ob} {cs : Array Value} {w : World} {g t : Nat} (hb : Blk w g t cs) (hm : ∀ i, i < o.target.length → cs[3 + i]? = some (.int .u8 ((o.target.getD i 0 : Nat) : Int))) : w.rangeAt g 3 (cellsB o.target) := fun j u hu => by
  have hj := (List.getElem?_eq_some_iff.1 hu).1
  rw [cellsB_len] at hj
  rw [cellsB_get hj] at hu
  rw [hb.cell, hm j hj, hu]
theorem cellsP_length : ∀ (ps : List (List Nat)), (∀ p ∈ ps, Id32 p) → (cellsP ps).length = ps.length * 32
  | [], _ => rfl
  | p :: ps, h => by
    have h1 := cellsP_length ps (fun x hx => h x (List.mem_cons_of_mem _ hx))
    have h2 := cellsP1_len (h p (List.mem_cons_self ..))
    unfold cellsP at h1 ⊢
    rw [List.flatMap_cons, List.length_append, h1, h2, List.length_cons]
    omega
/-- nothing appended -/
theorem app_nothing (w : World) (ty : TypeId) (A P : Option Addr) (n c pc : Nat) (h : n ≤ c) : (Builtin.append_ #[23, 23] ty #[.slice A n c, .slice P 0 pc]).run Tryd.prog w = .ok (.slice A n c) w := by
  obtain ⟨ip, hip, _, hps, _⟩ := info_parts ioid_info
  cases A <;> cases P <;> simp [Builtin.append_, run_underlying Tryd.underlying23, sizeOf, typeInfo, hip, Builtin.lenOf, h, Builtin.firstCells, loadCells, loadCellsFrom, storeCells]
/-- The list of ids that came in, appended to the call's own. -/
theorem app_pars {w2 wr : World} {v : Value} {ls ps : List (List Nat)} {A : Option Addr} {pc : Nat} (hL : LkW w2 wr v ls) (hP : RdK wr (.slice A ps.length pc) ps.length (cellsP ps)) (hi : ∀ p ∈ ps, Id32 p) (hn : ls.length ≤ 2000) (hm : ps.length ≤ 1000) (ty : TypeId) :
    ∃ v' w', (Builtin.append_ #[23, 23] ty #[v, .slice A ps.length pc]).run Tryd.prog wr = .ok v' w' ∧ LkW w2 w' v' (ls ++ ps) := by
  obtain ⟨ip, hip, hpz, hps, hpb⟩ := info_parts ioid_info
  by_cases h0 : ps.length = 0
  · have hp : ps = [] := List.eq_nil_of_length_eq_zero h0
    subst hp
    obtain ⟨A2, c2, hv, hc⟩ : ∃ A2 c2, v = .slice A2 ls.length c2 ∧ ls.length ≤ c2 := by
      rcases hL.own.2 with ⟨h1, h2⟩ | ⟨g, cap, cur, h1, _, _, h2, _⟩
      · exact ⟨none, 0, by rw [h1, h2], by omega⟩
      · exact ⟨_, cap, h1, h2⟩
    subst hv
    exact ⟨_, _, app_nothing wr ty A2 A _ _ pc hc, by rw [List.append_nil]; exact hL⟩
  · obtain ⟨A', c', hv, hc, hA⟩ := hP
    injection hv with e1 _ _
    obtain ⟨b, o, rfl, hb, hx⟩ := hA (by omega)
    subst e1
    obtain ⟨v', w', hr, ho, hg, _⟩ := run_append_own (P := Tryd.prog) wr w2.heap.size 23 ty 37 ip (.agg (cellsB (List.replicate 32 0)).toArray) 32 32 Tryd.underlying23 hip hpz hps hpb (by rfl) (by decide) v ls.length (cellsP ls) hL.own ⟨b, o, none⟩ ps.length pc (cellsP ps) (cellsP_length ps hi) (fun j u hj => by rw [Addr.add_mid]; exact hx j u hj) (cellsP_one ps) (by unfold maxLen; omega) (by omega) hL.bel.size
    exact ⟨v', w', hr, ⟨by rw [List.length_append, cellsP_app]; exact ho, below_own hL.bel hL.own (Nat.le_refl _) hg⟩⟩
end Go.Proofs.YtlodalppnglclaaDoor
