/- The law EntryBytes. -/
import Derived.Test.YtjkneidoochfjaaGreatDoorMEn35s
import Derived.Test.YtjkneidoochfjaaGreatDoorMBases
namespace Go.Proofs.YtjkneidoochfjaaGreatDoor
open Go Go.RowKit
theorem ESL.of {w : World} {a : Nat → Addr} (h : Sents w a) : ESL w a :=
  ⟨⟨⟨(h 1 (by omega)).var, (h 3 (by omega)).var, (h 6 (by omega)).var⟩, (h 12 (by omega)).var, (h 0 (by omega)).var⟩, (h 2 (by omega)).var⟩
/-- what stands while the law goes on -/
structure LwB (w wr : World) (e : En.E) (ca cx : Array Value) (U O Ux : Option Addr) (cu co cux : Nat) (ts : List En.Bt) (gx : Nat) : Prop where
  en : EnB w wr e ca U cu O co ts
  bx : Blk wr gx 29 cx
  ex : EnC wr e cx Ux cux O co ts
theorem LwB.up {w wr w' : World} {e : En.E} {ca cx : Array Value} {U O Ux : Option Addr} {cu co cux : Nat} {ts : List En.Bt} {gx : Nat} (h : LwB w wr e ca cx U O Ux cu co cux ts gx) (hb : Below wr.heap.size wr w') : LwB w w' e ca cx U O Ux cu co cux ts gx :=
  ⟨h.en.below hb, h.bx.up hb, h.ex.below hb⟩
theorem LwB.x3 {w wr : World} {e : En.E} {ca cx : Array Value} {U O Ux : Option Addr} {cu co cux : Nat} {ts : List En.Bt} {gx : Nat} (h : LwB w wr e ca cx U O Ux cu co cux ts gx) : wr.cell? ⟨gx, 3, none⟩ = some (.slice Ux e.ups.length cux) := (h.bx.cell 3).trans (by rw [h.ex.cells]; rfl)
/-- how entry.Bytes ends, in one form -/
theorem ebytes_form {e : En.E} {a : Nat → Addr} {w w' : World} {r : Ending} (h : EBytesPost e a w r w') : ∃ A n c er, r = .returned (.tuple #[.slice A n c, er]) ∧ (En.formed e = false → n = 0 ∧ er = ev (a 3)) ∧ (En.formed e = true → 2800 < (En.laid e).length → n = 0 ∧ er = ev (a 12)) ∧ (En.formed e = true → (En.laid e).length ≤ 2800 → er = .nilIface ∧ n = (En.laid e).length ∧ Rd w' (.slice A n c) (En.laid e)) := by
  obtain ⟨_, hbad, hok⟩ := h
  cases hf : En.formed e with
  | false => exact ⟨_, _, _, _, hbad 4 (En.bytes_form hf), fun _ => ⟨rfl, rfl⟩, fun h => (by cases h), fun h => (by cases h)⟩
  | true =>
    by_cases hl : (En.laid e).length ≤ 2800
    · obtain ⟨v, hr, hp⟩ := hok _ (En.bytes_ok hf hl)
      obtain ⟨A, c, rfl⟩ := own_slice hp.own
      exact ⟨_, _, _, _, hr, fun h => (by cases h), fun _ h => (by omega), fun _ _ => ⟨rfl, rfl, hp.rd⟩⟩
    · exact ⟨_, _, _, _, hbad 13 (En.bytes_large hf (by omega)), fun h => (by cases h), fun _ _ => ⟨rfl, rfl⟩, fun _ h => (by omega)⟩
theorem En.laid_bytes {w : World} {e : En.E} {ca : Array Value} {U O : Option Addr} {cu co : Nat} {ts : List En.Bt} (h : EnC w e ca U cu O co ts) : Oc.bytes (En.laid e) := by
  have hn : ∀ k n, Oc.bytes (Oc.nums k n) := fun k n => Oc.nums_bytes k n
  have ha : ∀ a b : List Nat, Oc.bytes a → Oc.bytes b → Oc.bytes (a ++ b) := fun a b h1 h2 x hx => (List.mem_append.1 hx).elim (h1 x) (h2 x)
  have hu : Oc.bytes (En.laidUps e.ups) := fun x hx => by
    rw [En.laidUps_eq] at hx
    obtain ⟨u, hm, hx⟩ := List.mem_flatMap.1 hx
    have hf := h.fit u hm
    exact ha _ _ (ha _ _ (ha _ _ (hn _ _) (fun x hx => by unfold strB at hx; obtain ⟨b, _, rfl⟩ := List.mem_map.1 hx; exact b.toNat_lt)) (Oc.bytes_of hf.1.2)) (Oc.bytes_of hf.2.2) x hx
  have ho : Oc.bytes (En.laidObjs e.objs) := fun x hx => by
    rw [En.laidObjs_eq] at hx
    obtain ⟨t, hm, hx⟩ := List.mem_flatMap.1 hx
    rw [← h.txt] at hm
    obtain ⟨t', hm', rfl⟩ := List.mem_map.1 hm
    exact ha _ _ (hn _ _) (Oc.bytes_of (h.objs.rd t' hm').2) x hx
  unfold En.laid
  exact ha _ _ (hn _ _) (ha _ _ (hn _ _) (ha _ _ (hn _ _) (ha _ _ (hn _ _) (ha _ _ hu (ha _ _ (hn _ _) ho)))))
theorem long_right {e : En.E} (h : 2800 < (En.laid e).length) : En.right e = false := by unfold En.right; rw [decide_eq_false (by omega), Bool.and_false]
theorem short_right {e : En.E} (h : En.formed e = true) (h2 : (En.laid e).length ≤ 2800) : En.right e = true := by unfold En.right; rw [h, decide_eq_true h2]; rfl
set_option maxRecDepth 100000 in
set_option maxHeartbeats 16000000 in
theorem ebytes_law (e : En.E) (ca : Array Value) (U O : Option Addr) (cu co : Nat) (ts : List En.Bt) (s : Nat → Addr) (w : World) (h : EnC w e ca U cu O co ts) (hco : e.objs.length ≤ co) (hS : Sents w s) (hm : MaxAt w) :
    Calls Tryz.prog 3 #[.agg ca] w fun r w' => r = .returned (.bool true) ∧ Below w.heap.size w w' := by
  obtain ⟨w1, hw1⟩ : ∃ w1, w1 = w.alloc (.cells ca 25) := ⟨_, rfl⟩
  have hb : EnB w w1 e ca U cu O co ts := hw1 ▸ EnB.of h
  have HB1 := Lib.hid hb
  have HSS := Lib.hid hS
  have HSE := Lib.hid (ESL.of hS)
  have HM := Lib.hid hm
  have H0 := Lib.hid h
  have HCO := Lib.hid hco
  have CA := ealive_any s w1 ((ESL.of hS).s.at_ hb.bel) (hm.below hb.bel (Nat.le_refl _))
  have e1 := hw1.symm
  clear h hb hw1 hS hm hco
  go_enter Tryz.func3, Tryz.ntmps3
  go_wp2_with (go_at_call 5; refine pause ?_)
  unfold Paused
  refine CA.mono ?_
  rintro r w3 ⟨rfl, hb3⟩
  have HB3 := Lib.hid (HB1.out.below hb3)
  clear hb3 CA HB1 e1
  clear w1
  go_wp2_with (with_reducible (show wpList _ _ _ (Oper.mk _ (Op.load 25 _) _ _ _ _ :: _) _ _); refine pause ?_)
  unfold Paused
  refine wpList_row_w (by rfl) 25 (.tmp 1) (by rfl) w.heap.size (by rfl) 25 ca _ HB3.out.box (by first | exact Tryz.underlying25 | kernel_rfl) (by rfl) (ent_load H0.out.size) ?_
  go_wp2_with (go_at_call 6; refine pause ?_)
  unfold Paused
  refine (eof_any e ca U O cu co ts w3 HB3.out.ent).mono ?_
  rintro r w4 ⟨hb4, hok4, hno4⟩
  have HB4 := Lib.hid (HB3.out.below hb4)
  have hk4 : ∃ cx ok, r = .returned (.tuple #[.agg cx, .bool ok]) ∧ cx.size = 5 ∧ cx.all (·.oneCell') = true ∧ ok = En.few e ∧ (ok = true → ∃ Ux cux, EnC w4 e cx Ux cux O co ts) := by
    cases hf : En.few e with
    | true =>
      obtain ⟨Ux, cux, hr, hx⟩ := hok4 hf
      exact ⟨_, true, hr, rfl, ecs1 _ _ _ _ _ _, rfl, fun _ => ⟨Ux, cux, hx⟩⟩
    | false =>
      obtain ⟨cs, hr, h5, h1⟩ := hno4 hf
      exact ⟨cs, false, hr, h5, h1, rfl, fun h => by cases h⟩
  obtain ⟨cx, okx, rfl, h5x, h1x, hokx, hex⟩ := hk4
  have H5X := Lib.hid h5x
  have H1X := Lib.hid h1x
  have HOKX := Lib.hid hokx
  have HEX := Lib.hid hex
  clear hb4 hok4 hno4 h5x h1x hokx hex HB3
  clear w3
  go_wp2_with (with_reducible (show wpList _ _ _ (Oper.mk _ (Op.store 29 _ _) _ _ _ _ :: _) _ _); refine pause ?_)
  unfold Paused
  change wpList _ _ _ _ _ (w4.alloc (.cells zR 29))
  refine wpList_store_row (by rfl) 29 (.tmp 3) (.tmp 14) (by rfl) w4.heap.size cx (by rfl) (by rfl) 29 zR (Blk.new w4 _ _) (rnt_load H5X.out) (by rw [H5X.out]; rfl) H1X.out ?_
  have HN5 := Lib.hid (boxed_in (w := w4) (T := 29) (zs := zR) (cs := cx))
  generalize (w4.alloc (.cells zR 29)).setRow w4.heap.size cx = w5 at HN5 ⊢
  have HB5 := Lib.hid (HB4.out.below HN5.out.1)
  have HX5 : Hid (okx = true → ∃ Ux cux, LwB w w5 e ca cx U O Ux cu co cux ts w4.heap.size) := Lib.hid (fun h => by
    obtain ⟨Ux, cux, hx⟩ := HEX.out h
    exact ⟨Ux, cux, HB5.out, HN5.out.2, hx.below HN5.out.1⟩)
  clear HB4 HN5 HEX
  generalize w4.heap.size = gx at HX5 ⊢
  clear w4
  simp only [Act.put]
  cases okx
  · go_wp2
    go_ret
    exact ⟨rfl, HB5.out.bel⟩
  have HFA := Lib.hid (En.few_iff HOKX.out.symm)
  obtain ⟨Ux, cux, hL5⟩ := HX5.out rfl
  have HL5 := Lib.hid hL5
  clear HOKX HX5 hL5 HB5
  have HREF : Hid (∀ u ∈ e.ups, u.ref.size ≤ 3000) := Lib.hid (fun u hu => by have := HFA.out.2.2.2 u hu; omega)
  have HNU : Hid (e.ups.length ≤ 1000) := Lib.hid (by have := HFA.out.1; omega)
  have HNO : Hid (e.objs.length ≤ 1000) := Lib.hid (by have := HFA.out.2.1; omega)
  go_wp2_with (with_reducible (show wpList _ _ _ (Oper.mk _ (Op.load 25 _) _ _ _ _ :: _) _ _); refine pause ?_)
  unfold Paused
  refine wpList_row_w (by rfl) 25 (.tmp 1) (by rfl) w.heap.size (by rfl) 25 ca _ HL5.out.en.box (by first | exact Tryz.underlying25 | kernel_rfl) (by rfl) (ent_load H0.out.size) ?_
  go_wp2_with (go_at_call 7; refine pause ?_)
  unfold Paused
  refine (ebytes_any e ca U O cu co ts s w5 HL5.out.en.ent (HSE.out.s.at_ HL5.out.en.bel) (HM.out.below HL5.out.en.bel (Nat.le_refl _)) HNU.out).mono ?_
  intro r w6 hp6
  have HL6 := Lib.hid (HL5.out.up hp6.1)
  obtain ⟨Ab, nb, cb, er, rfl, hA, hB, hC⟩ := ebytes_form hp6
  have HA := Lib.hid hA
  have HBB := Lib.hid hB
  have HC := Lib.hid hC
  clear hp6 hA hB hC HL5
  clear w5
  go_wp2_with fail
  have HD : Hid (Below w6.heap.size w6 w6.drew) := Lib.hid (below_drewN (Below.refl _ _) 1)
  refine wp_region_held (S := fun w' => Below w6.heap.size w6 w') (by kernel_rfl) ?_
  change wpAnyH _ _ _ _ _ _ _ _ w6.drew
  refine wpAnyH_take (i := 0) (v := .agg (ca)) rfl (by kernel_rfl) (by kernel_rfl) (by kernel_rfl) (fun _ _ _ h => h) (takes_row 25 (.tmp 1) rfl (by rfl) w.heap.size (by rfl) 25 (ca) _ (fun w' hS => (HL6.out.up hS).en.box) (by first | exact Tryz.underlying25 | kernel_rfl) (by rfl) (ent_load H0.out.size)) HD.out ?_
  try simp only [Act.put, List.getElem_toArray, List.getElem_cons_zero, List.setIfInBounds_toArray, List.set_cons_zero, List.set_cons_succ]
  refine wpAnyH_take (i := 2) (v := .agg (cx)) rfl (by kernel_rfl) (by kernel_rfl) (by kernel_rfl) (fun _ _ _ h => h) (takes_row 29 (.tmp 3) rfl (by rfl) gx (by rfl) 29 (cx) _ (fun w' hS => (HL6.out.up hS).bx) (by first | exact Tryz.underlying29 | kernel_rfl) (by rfl) (rnt_load H5X.out)) HD.out ?_
  try simp only [Act.put, List.getElem_toArray, List.getElem_cons_zero, List.getElem_cons_succ, List.setIfInBounds_toArray, List.set_cons_zero, List.set_cons_succ]
  obtain ⟨R0, hR0⟩ : ∃ b, b = En.right e := ⟨_, rfl⟩
  obtain ⟨R1, hR1⟩ : ∃ b, b = En.upsOk e.ups := ⟨_, rfl⟩
  have HR0 := Lib.hid hR0
  have HR1 := Lib.hid hR1
  clear hR0 hR1
  have CR := eright_any e ca U O cu co ts s w6.drew (HL6.out.up HD.out).en.ent (HSE.out.s.at_ (HL6.out.up HD.out).en.bel) (HM.out.below (HL6.out.up HD.out).en.bel (Nat.le_refl _)) HNU.out
  rw [← HR0.out] at CR
  refine all_one (i := 1) (by kernel_rfl) rfl (by rfl) (fun K hK => ?_)
  go_simp
  refine CR.mono ?_
  rintro r w7 ⟨rfl, hb7⟩
  have HD7 : Hid (Below w6.heap.size w6 w7) := Lib.hid (below_next HD.out hb7)
  clear hb7 CR
  dsimp only
  refine hK _ _ HD7.out ?_; clear hK K
  try simp only [Act.put, List.getElem_toArray, List.getElem_cons_zero, List.getElem_cons_succ, List.setIfInBounds_toArray, List.set_cons_zero, List.set_cons_succ]
  have CR := rright_any e cx Ux O cux co ts w7 (HL6.out.up HD7.out).ex HREF.out HNU.out HNO.out HCO.out
  rw [← HR0.out] at CR
  refine all_one (i := 3) (by kernel_rfl) rfl (by rfl) (fun K hK => ?_)
  go_simp
  refine CR.mono ?_
  rintro r w8 ⟨rfl, hb8⟩
  have HD8 : Hid (Below w6.heap.size w6 w8) := Lib.hid (below_next HD7.out hb8)
  clear hb8 CR HD7
  clear w7
  dsimp only
  refine hK _ _ HD8.out ?_; clear hK K
  try simp only [Act.put, List.getElem_toArray, List.getElem_cons_zero, List.getElem_cons_succ, List.setIfInBounds_toArray, List.set_cons_zero, List.set_cons_succ]
  refine wpAnyH_take (i := 4) (v := .bool false) rfl (by kernel_rfl) (by kernel_rfl) (by kernel_rfl) (fun _ _ _ h => h) (Or.inl ⟨by rfl, ?_⟩) HD8.out ?_
  · intro w' _; clear HR0; cases R0 <;> (first | (go_simp; done) | (go_simp; with_reducible rfl))
  try simp only [Act.put, List.getElem_toArray, List.getElem_cons_zero, List.getElem_cons_succ, List.setIfInBounds_toArray, List.set_cons_zero, List.set_cons_succ]
  refine wpAnyH_take (i := 5) (v := ?_) rfl (by kernel_rfl) (by kernel_rfl) (by kernel_rfl) (fun _ _ _ h => h) (Or.inl ⟨by rfl, ?_⟩) HD8.out ?_
  rotate_left
  · intro w' hS; go_simp; with_reducible rfl
  try simp only [Act.put, List.getElem_toArray, List.getElem_cons_zero, List.getElem_cons_succ, List.setIfInBounds_toArray, List.set_cons_zero, List.set_cons_succ]
  refine wpAnyH_take (i := 6) (v := ?_) rfl (by kernel_rfl) (by kernel_rfl) (by kernel_rfl) (fun _ _ _ h => h) (Or.inl ⟨by rfl, ?_⟩) HD8.out ?_
  rotate_left
  · intro w' hS; go_simp; with_reducible rfl
  try simp only [Act.put, List.getElem_toArray, List.getElem_cons_zero, List.getElem_cons_succ, List.setIfInBounds_toArray, List.set_cons_zero, List.set_cons_succ]
  refine wpAnyH_take (i := 7) (v := ?_) rfl (by kernel_rfl) (by kernel_rfl) (by kernel_rfl) (fun _ _ _ h => h) (Or.inl ⟨by rfl, ?_⟩) HD8.out ?_
  rotate_left
  · intro w' hS; have h0 := (HL6.out.up hS).en.c3; go_simp; with_reducible rfl
  try simp only [Act.put, List.getElem_toArray, List.getElem_cons_zero, List.getElem_cons_succ, List.setIfInBounds_toArray, List.set_cons_zero, List.set_cons_succ]
  refine wpAnyH_take (i := 9) (v := ?_) rfl (by kernel_rfl) (by kernel_rfl) (by kernel_rfl) (fun _ _ _ h => h) (Or.inl ⟨by rfl, ?_⟩) HD8.out ?_
  rotate_left
  · intro w' hS; go_simp; with_reducible rfl
  try simp only [Act.put, List.getElem_toArray, List.getElem_cons_zero, List.getElem_cons_succ, List.setIfInBounds_toArray, List.set_cons_zero, List.set_cons_succ]
  refine wpAnyH_take (i := 10) (v := ?_) rfl (by kernel_rfl) (by kernel_rfl) (by kernel_rfl) (fun _ _ _ h => h) (Or.inl ⟨by rfl, ?_⟩) HD8.out ?_
  rotate_left
  · intro w' hS; have h0 := (HL6.out.up hS).x3; go_simp; with_reducible rfl
  try simp only [Act.put, List.getElem_toArray, List.getElem_cons_zero, List.getElem_cons_succ, List.setIfInBounds_toArray, List.set_cons_zero, List.set_cons_succ]
  have CR := updates_any e.ups U e.ups.length cu w8 (HL6.out.up HD8.out).en.ent.ups rfl H0.out.fit (HM.out.below (HL6.out.up HD8.out).en.bel (Nat.le_refl _)) HNU.out
  rw [← HR1.out] at CR
  refine all_one (i := 8) (by kernel_rfl) rfl (by rfl) (fun K hK => ?_)
  go_simp
  refine CR.mono ?_
  rintro r w9 ⟨rfl, hb9⟩
  have HD9 : Hid (Below w6.heap.size w6 w9) := Lib.hid (below_next HD8.out hb9)
  clear hb9 CR HD8
  clear w8
  dsimp only
  refine hK _ _ HD9.out ?_; clear hK K
  try simp only [Act.put, List.getElem_toArray, List.getElem_cons_zero, List.getElem_cons_succ, List.setIfInBounds_toArray, List.set_cons_zero, List.set_cons_succ]
  have CR := rupdates_any e.ups Ux e.ups.length cux w9 (HL6.out.up HD9.out).ex.ups rfl H0.out.fit HREF.out HNU.out
  rw [← HR1.out] at CR
  refine all_one (i := 11) (by kernel_rfl) rfl (by rfl) (fun K hK => ?_)
  go_simp
  refine CR.mono ?_
  rintro r w10 ⟨rfl, hb10⟩
  have HDa : Hid (Below w6.heap.size w6 w10) := Lib.hid (below_next HD9.out hb10)
  clear hb10 CR HD9
  clear w9
  dsimp only
  refine hK _ _ HDa.out ?_; clear hK K
  try simp only [Act.put, List.getElem_toArray, List.getElem_cons_zero, List.getElem_cons_succ, List.setIfInBounds_toArray, List.set_cons_zero, List.set_cons_succ]
  refine wpAnyH_take (i := 12) (v := .bool false) rfl (by kernel_rfl) (by kernel_rfl) (by kernel_rfl) (fun _ _ _ h => h) (Or.inl ⟨by rfl, ?_⟩) HDa.out ?_
  · intro w' _; clear HR1; cases R1 <;> (first | (go_simp; done) | (go_simp; with_reducible rfl))
  try simp only [Act.put, List.getElem_toArray, List.getElem_cons_zero, List.getElem_cons_succ, List.setIfInBounds_toArray, List.set_cons_zero, List.set_cons_succ]
  refine wpAnyH_take (i := 13) (v := ?_) rfl (by kernel_rfl) (by kernel_rfl) (by kernel_rfl) (fun _ _ _ h => h) (Or.inl ⟨by rfl, ?_⟩) HDa.out ?_
  rotate_left
  · intro w' hS; go_simp; with_reducible rfl
  try simp only [Act.put, List.getElem_toArray, List.getElem_cons_zero, List.getElem_cons_succ, List.setIfInBounds_toArray, List.set_cons_zero, List.set_cons_succ]
  refine wpAnyH_done (by kernel_rfl) ?_ _
  have HLa := Lib.hid (HL6.out.up HDa.out)
  have HRB : Hid (∀ xs, Rd w6 (.slice Ab nb cb) xs → Rd w10 (.slice Ab nb cb) xs) := Lib.hid (fun xs hr => hr.below HDa.out (Nat.le_refl _))
  clear HD HDa HR1
  generalize w6 = w6a at *
  go_wp2_with (with_reducible (show wpList _ _ _ (Oper.mk _ (Op.load 29 _) _ _ _ _ :: _) _ _); refine pause ?_)
  unfold Paused
  refine wpList_row_w (by rfl) 29 (.tmp 3) (by rfl) gx (by rfl) 29 cx _ HLa.out.bx (by first | exact Tryz.underlying29 | kernel_rfl) (by rfl) (rnt_load H5X.out) ?_
  have CS := rsound_any e cx Ux O cux co ts w10 HLa.out.ex HREF.out HNU.out HNO.out HCO.out
  obtain ⟨F0, hF0⟩ : ∃ b, b = En.formed e := ⟨_, rfl⟩
  rw [← hF0] at CS HA HBB HC
  have HF0 := Lib.hid hF0
  clear hF0
  go_wp2_with (go_at_call 12; refine pause ?_)
  unfold Paused
  refine CS.mono ?_
  rintro r w11 ⟨rfl, hb11⟩
  have HLb := Lib.hid (HLa.out.up hb11)
  have HRC : Hid (∀ xs, Rd w6a (.slice Ab nb cb) xs → Rd w11 (.slice Ab nb cb) xs) := Lib.hid (fun xs hr => (HRB.out xs hr).below hb11 (Nat.le_refl _))
  clear hb11 CS HLa HRB
  clear w10
  cases F0
  · obtain ⟨rfl, rfl⟩ := HA.out (by trivial)
    clear HA HBB HC HRC HF0 HR0
    go_wp2_with (go_at_call 13; refine pause ?_)
    unfold Paused
    refine (num_any 3 (by omega) s w11 (HSS.out.below HLb.out.en.bel (Nat.le_refl _))).mono ?_
    rintro r w12 ⟨rfl, hb12⟩
    have HF := Lib.hid (below_next HLb.out.en.bel hb12)
    clear hb12
    go_wp2
    go_ret
    exact ⟨rfl, HF.out⟩
  go_wp2_with (with_reducible (show wpList _ _ _ (Oper.mk _ (Op.load 29 _) _ _ _ _ :: _) _ _); refine pause ?_)
  unfold Paused
  refine wpList_row_w (by rfl) 29 (.tmp 3) (by rfl) gx (by rfl) 29 cx _ HLb.out.bx (by first | exact Tryz.underlying29 | kernel_rfl) (by rfl) (rnt_load H5X.out) ?_
  have CS := rright_any e cx Ux O cux co ts w11 HLb.out.ex HREF.out HNU.out HNO.out HCO.out
  rw [← HR0.out] at CS
  go_wp2_with (go_at_call 9; refine pause ?_)
  unfold Paused
  refine CS.mono ?_
  rintro r w12 ⟨rfl, hb12⟩
  have HLc := Lib.hid (HLb.out.up hb12)
  have HRD : Hid (∀ xs, Rd w6a (.slice Ab nb cb) xs → Rd w12 (.slice Ab nb cb) xs) := Lib.hid (fun xs hr => (HRC.out xs hr).below hb12 (Nat.le_refl _))
  clear hb12 CS HLb HRC
  clear w11
  cases R0
  · obtain ⟨rfl, rfl⟩ := HBB.out (by trivial) (by
      rcases Nat.lt_or_ge 2800 (En.laid e).length with h | h
      · exact h
      · have h1 := HR0.out
        rw [short_right HF0.out.symm h] at h1
        cases h1)
    clear HA HBB HC HRD HF0 HR0
    go_wp2_with (go_at_call 13; refine pause ?_)
    unfold Paused
    refine (num_any 12 (by omega) s w12 (HSS.out.below HLc.out.en.bel (Nat.le_refl _))).mono ?_
    rintro r w13 ⟨rfl, hb13⟩
    have HF := Lib.hid (below_next HLc.out.en.bel hb13)
    clear hb13
    go_wp2
    go_ret
    exact ⟨rfl, HF.out⟩
  have HLEN : Hid ((En.laid e).length ≤ 2800) := Lib.hid (by
    rcases Nat.lt_or_ge 2800 (En.laid e).length with h | h
    · have h1 := HR0.out
      rw [long_right h] at h1
      cases h1
    · exact h)
  obtain ⟨rfl, hnb, hrd⟩ := HC.out (by trivial) HLEN.out
  have HNB := Lib.hid hnb
  have HRE := Lib.hid (HRD.out _ hrd)
  clear HA HBB HC HRD hnb hrd HL6
  clear w6a
  have HPO : Hid (En.parse (En.laid e) = .ok e) := Lib.hid (En.parse_of HR0.out.symm H0.out.fit)
  have HBY : Hid (Oc.bytes (En.laid e)) := Lib.hid (En.laid_bytes H0.out)
  have CP := eparse_any (En.laid e) s (.slice Ab nb cb) w12 HRE.out HBY.out ⟨(HSE.out.s.at_ HLc.out.en.bel), (HSE.out.at_ HLc.out.en.bel).l⟩ (HM.out.below HLc.out.en.bel (Nat.le_refl _))
  go_wp2_with (go_at_call 14; refine pause ?_)
  unfold Paused
  refine CP.mono ?_
  rintro r w13 ⟨hb13, _, hok13⟩
  obtain ⟨cp, Up, cup, Op_, cop, tp, rfl, hen⟩ := hok13 e HPO.out
  have HLd := Lib.hid (HLc.out.up hb13)
  have HEP := Lib.hid hen.enc
  have HP5 := Lib.hid hen.size
  have HP1 := Lib.hid hen.one
  have HRF : Hid (Rd w13 (.slice Ab nb cb) (En.laid e)) := Lib.hid (HRE.out.below hb13 (Nat.le_refl _))
  clear hb13 hok13 hen CP HLc HRE HPO
  clear w12
  go_wp2_with (with_reducible (show wpList _ _ _ (Oper.mk _ (Op.store 25 _ _) _ _ _ _ :: _) _ _); refine pause ?_)
  unfold Paused
  change wpList _ _ _ _ _ (w13.alloc (.cells zE 25))
  refine wpList_store_row (by rfl) 25 (.tmp 7) (.tmp 62) (by rfl) w13.heap.size cp (by rfl) (by rfl) 25 zE (Blk.new w13 _ _) (ent_load HP5.out) (by rw [HP5.out]; rfl) HP1.out ?_
  have HN := Lib.hid (boxed_in (w := w13) (T := 25) (zs := zE) (cs := cp))
  generalize (w13.alloc (.cells zE 25)).setRow w13.heap.size cp = w14 at HN ⊢
  have HLe := Lib.hid (HLd.out.up HN.out.1)
  have HEQ := Lib.hid (HEP.out.below HN.out.1)
  have HBQ := Lib.hid HN.out.2
  have HRG : Hid (Rd w14 (.slice Ab nb cb) (En.laid e)) := Lib.hid (HRF.out.below HN.out.1 (Nat.le_refl _))
  clear HN HLd HEP HRF
  generalize w13.heap.size = gp at HBQ ⊢
  clear w13
  simp only [Act.put]
  obtain ⟨T, hT⟩ : ∃ T, T = textOf (En.laid e) := ⟨_, rfl⟩
  have HT := Lib.hid hT
  clear hT
  go_wp2_with fail
  have HD : Hid (Below w14.heap.size w14 w14.drew) := Lib.hid (below_drewN (Below.refl _ _) 1)
  refine wp_region_held (S := fun w' => Below w14.heap.size w14 w') (by kernel_rfl) ?_
  change wpAnyH _ _ _ _ _ _ _ _ w14.drew
  refine wpAnyH_take (i := 0) (v := ?_) rfl (by kernel_rfl) (by kernel_rfl) (by kernel_rfl) (fun _ _ _ h => h) (Or.inl ⟨by rfl, ?_⟩) HD.out ?_
  rotate_left
  · intro w' hS; go_simp; with_reducible rfl
  try simp only [Act.put, List.getElem_toArray, List.getElem_cons_zero, List.setIfInBounds_toArray, List.set_cons_zero, List.set_cons_succ]
  refine wpAnyH_take (i := 1) (v := .bool true) rfl (by kernel_rfl) (by kernel_rfl) (by kernel_rfl) (fun _ _ _ h => h) (Or.inl ⟨by rfl, ?_⟩) HD.out ?_
  · intro w' _; first | (go_simp; done) | (go_simp; with_reducible rfl)
  try simp only [Act.put, List.getElem_toArray, List.getElem_cons_zero, List.getElem_cons_succ, List.setIfInBounds_toArray, List.set_cons_zero, List.set_cons_succ]
  refine wpAnyH_take (i := 2) (v := ?_) rfl (by kernel_rfl) (by kernel_rfl) (by kernel_rfl) (fun _ _ _ h => h) (Or.inl ⟨by rfl, ?_⟩) HD.out ?_
  rotate_left
  · intro w' hS; go_simp; with_reducible rfl
  try simp only [Act.put, List.getElem_toArray, List.getElem_cons_zero, List.getElem_cons_succ, List.setIfInBounds_toArray, List.set_cons_zero, List.set_cons_succ]
  refine wpAnyH_take (i := 3) (v := ?_) rfl (by kernel_rfl) (by kernel_rfl) (by kernel_rfl) (fun _ _ _ h => h) (Or.inl ⟨by rfl, ?_⟩) HD.out ?_
  rotate_left
  · intro w' hS; go_simp; with_reducible rfl
  try simp only [Act.put, List.getElem_toArray, List.getElem_cons_zero, List.getElem_cons_succ, List.setIfInBounds_toArray, List.set_cons_zero, List.set_cons_succ]
  refine wpAnyH_take (i := 4) (v := .string T) rfl (by kernel_rfl) (by kernel_rfl) (by kernel_rfl) (fun _ _ _ h => h) (Or.inl ⟨by rfl, ?_⟩) HD.out ?_
  · intro w' hS; have q1 : (convert 32 9 (.slice Ab nb cb)).run Tryz.prog w' = .ok (.string T) w' := (by rw [HT.out]; exact conv_rd (HRG.out.below hS (Nat.le_refl _))); first | (go_simp; done) | (go_simp; with_reducible rfl)
  try simp only [Act.put, List.getElem_toArray, List.getElem_cons_zero, List.getElem_cons_succ, List.setIfInBounds_toArray, List.set_cons_zero, List.set_cons_succ]
  refine wpAnyH_take (i := 5) (v := .agg (cx)) rfl (by kernel_rfl) (by kernel_rfl) (by kernel_rfl) (fun _ _ _ h => h) (takes_row 29 (.tmp 3) rfl (by rfl) gx (by rfl) 29 (cx) _ (fun w' hS => (HLe.out.up hS).bx) (by first | exact Tryz.underlying29 | kernel_rfl) (by rfl) (rnt_load H5X.out)) HD.out ?_
  try simp only [Act.put, List.getElem_toArray, List.getElem_cons_zero, List.getElem_cons_succ, List.setIfInBounds_toArray, List.set_cons_zero, List.set_cons_succ]
  have CL := relaid_any e cx Ux O cux co ts w14.drew (HLe.out.up HD.out).ex (En.formed_frm HF0.out.symm)
  refine all_one (i := 6) (by kernel_rfl) rfl (by rfl) (fun K hK => ?_)
  go_simp
  refine CL.mono ?_
  rintro r w15 ⟨v15, rfl, hp15⟩
  obtain ⟨Av, cv, hvv⟩ := own_slice hp15.own
  subst hvv
  have HD15 : Hid (Below w14.heap.size w14 w15) := Lib.hid (below_next HD.out hp15.bel)
  have HRL := Lib.hid hp15.rd
  clear hp15 CL
  dsimp only
  refine hK _ _ HD15.out ?_; clear hK K
  try simp only [Act.put, List.getElem_toArray, List.getElem_cons_zero, List.getElem_cons_succ, List.setIfInBounds_toArray, List.set_cons_zero, List.set_cons_succ]
  generalize (En.laid e).length = nv at HRL ⊢
  refine all_one (i := 7) (by kernel_rfl) rfl (by rfl) (fun K hK => ?_)
  refine wp_convE 32 9 (.tmp 70) (by rfl) _ (by rfl) (.string T) w15 (by rw [HT.out]; exact conv_rd HRL.out) ?_
  refine hK _ _ HD15.out ?_; clear hK K
  try simp only [Act.put, List.getElem_toArray, List.getElem_cons_zero, List.getElem_cons_succ, List.setIfInBounds_toArray, List.set_cons_zero, List.set_cons_succ]
  refine wpAnyH_take (i := 8) (v := .bool true) rfl (by kernel_rfl) (by kernel_rfl) (by kernel_rfl) (fun _ _ _ h => h) (Or.inl ⟨by rfl, ?_⟩) HD15.out ?_
  · intro w' _; first | (go_simp; done) | (go_simp; with_reducible rfl)
  try simp only [Act.put, List.getElem_toArray, List.getElem_cons_zero, List.getElem_cons_succ, List.setIfInBounds_toArray, List.set_cons_zero, List.set_cons_succ]
  refine wpAnyH_take (i := 9) (v := ?_) rfl (by kernel_rfl) (by kernel_rfl) (by kernel_rfl) (fun _ _ _ h => h) (Or.inl ⟨by rfl, ?_⟩) HD15.out ?_
  rotate_left
  · intro w' hS; go_simp; with_reducible rfl
  try simp only [Act.put, List.getElem_toArray, List.getElem_cons_zero, List.getElem_cons_succ, List.setIfInBounds_toArray, List.set_cons_zero, List.set_cons_succ]
  refine wpAnyH_take (i := 10) (v := ?_) rfl (by kernel_rfl) (by kernel_rfl) (by kernel_rfl) (fun _ _ _ h => h) (Or.inl ⟨by rfl, ?_⟩) HD15.out ?_
  rotate_left
  · intro w' hS; go_simp; with_reducible rfl
  try simp only [Act.put, List.getElem_toArray, List.getElem_cons_zero, List.getElem_cons_succ, List.setIfInBounds_toArray, List.set_cons_zero, List.set_cons_succ]
  refine wpAnyH_take (i := 11) (v := ?_) rfl (by kernel_rfl) (by kernel_rfl) (by kernel_rfl) (fun _ _ _ h => h) (Or.inl ⟨by rfl, ?_⟩) HD15.out ?_
  rotate_left
  · intro w' hS; go_simp; with_reducible rfl
  try simp only [Act.put, List.getElem_toArray, List.getElem_cons_zero, List.getElem_cons_succ, List.setIfInBounds_toArray, List.set_cons_zero, List.set_cons_succ]
  refine wpAnyH_take (i := 12) (v := .bool true) rfl (by kernel_rfl) (by kernel_rfl) (by kernel_rfl) (fun _ _ _ h => h) (Or.inl ⟨by rfl, ?_⟩) HD15.out ?_
  · intro w' _; first | (go_simp; done) | (go_simp; with_reducible rfl)
  try simp only [Act.put, List.getElem_toArray, List.getElem_cons_zero, List.getElem_cons_succ, List.setIfInBounds_toArray, List.set_cons_zero, List.set_cons_succ]
  refine wpAnyH_take (i := 13) (v := ?_) rfl (by kernel_rfl) (by kernel_rfl) (by kernel_rfl) (fun _ _ _ h => h) (Or.inl ⟨by rfl, ?_⟩) HD15.out ?_
  rotate_left
  · intro w' hS; go_simp; with_reducible rfl
  try simp only [Act.put, List.getElem_toArray, List.getElem_cons_zero, List.getElem_cons_succ, List.setIfInBounds_toArray, List.set_cons_zero, List.set_cons_succ]
  refine wpAnyH_take (i := 14) (v := ?_) rfl (by kernel_rfl) (by kernel_rfl) (by kernel_rfl) (fun _ _ _ h => h) (Or.inl ⟨by rfl, ?_⟩) HD15.out ?_
  rotate_left
  · intro w' hS; go_simp; with_reducible rfl
  try simp only [Act.put, List.getElem_toArray, List.getElem_cons_zero, List.getElem_cons_succ, List.setIfInBounds_toArray, List.set_cons_zero, List.set_cons_succ]
  refine wpAnyH_take (i := 15) (v := .agg (cp)) rfl (by kernel_rfl) (by kernel_rfl) (by kernel_rfl) (fun _ _ _ h => h) (takes_row 25 (.tmp 7) rfl (by rfl) gp (by rfl) 25 (cp) _ (fun w' hS => HBQ.out.up hS) (by first | exact Tryz.underlying25 | kernel_rfl) (by rfl) (ent_load HP5.out)) HD15.out ?_
  try simp only [Act.put, List.getElem_toArray, List.getElem_cons_zero, List.getElem_cons_succ, List.setIfInBounds_toArray, List.set_cons_zero, List.set_cons_succ]
  refine wpAnyH_take (i := 16) (v := .agg (ca)) rfl (by kernel_rfl) (by kernel_rfl) (by kernel_rfl) (fun _ _ _ h => h) (takes_row 25 (.tmp 1) rfl (by rfl) w.heap.size (by rfl) 25 (ca) _ (fun w' hS => (HLe.out.up hS).en.box) (by first | exact Tryz.underlying25 | kernel_rfl) (by rfl) (ent_load H0.out.size)) HD15.out ?_
  try simp only [Act.put, List.getElem_toArray, List.getElem_cons_zero, List.getElem_cons_succ, List.setIfInBounds_toArray, List.set_cons_zero, List.set_cons_succ]
  have CE := esame_any e e cp ca Up Op_ U O cup cop cu co tp ts w15 (HEQ.out.below HD15.out) (HLe.out.up HD15.out).en.ent HNU.out (by have := HNO.out; omega)
  rw [eqv_refl] at CE
  refine all_one (i := 17) (by kernel_rfl) rfl (by rfl) (fun K hK => ?_)
  go_simp
  refine CE.mono ?_
  rintro r w16 ⟨rfl, hb16⟩
  have HD16 : Hid (Below w14.heap.size w14 w16) := Lib.hid (below_next HD15.out hb16)
  clear hb16 CE
  dsimp only
  refine hK _ _ HD16.out ?_; clear hK K
  try simp only [Act.put, List.getElem_toArray, List.getElem_cons_zero, List.getElem_cons_succ, List.setIfInBounds_toArray, List.set_cons_zero, List.set_cons_succ]
  refine wpAnyH_take (i := 18) (v := ?_) rfl (by kernel_rfl) (by kernel_rfl) (by kernel_rfl) (fun _ _ _ h => h) (Or.inl ⟨by rfl, ?_⟩) HD16.out ?_
  rotate_left
  · intro w' hS; go_simp; with_reducible rfl
  try simp only [Act.put, List.getElem_toArray, List.getElem_cons_zero, List.getElem_cons_succ, List.setIfInBounds_toArray, List.set_cons_zero, List.set_cons_succ]
  refine wpAnyH_take (i := 19) (v := ?_) rfl (by kernel_rfl) (by kernel_rfl) (by kernel_rfl) (fun _ _ _ h => h) (Or.inl ⟨by rfl, ?_⟩) HD16.out ?_
  rotate_left
  · intro w' hS; go_simp; with_reducible rfl
  try simp only [Act.put, List.getElem_toArray, List.getElem_cons_zero, List.getElem_cons_succ, List.setIfInBounds_toArray, List.set_cons_zero, List.set_cons_succ]
  refine wpAnyH_done (by kernel_rfl) ?_ _
  have HF := Lib.hid (below_next HLe.out.en.bel HD16.out)
  go_wp2
  go_ret
  exact ⟨rfl, HF.out⟩
end Go.Proofs.YtjkneidoochfjaaGreatDoor
