/- entry.Parse, as a whole. -/
import Derived.Test.YtjkneidoochfjaaGreatDoorMOct20s
import Derived.Test.YtjkneidoochfjaaGreatDoorMEn7s
import Derived.Laws.AppendOwn
import Derived.Laws.OwnMore
import Derived.Laws.Concat
import Derived.OwnWalk
namespace Go.Proofs.YtjkneidoochfjaaGreatDoor
open Go Go.RowKit
def EParsePost (xs : List Nat) (a : Nat → Addr) (w : World) (e : Ending) (w' : World) : Prop :=
  Below w.heap.size w w' ∧ (∀ k, En.parse xs = .bad k → e = .returned (.tuple #[.agg zE, ev (a (k - 1))])) ∧ (∀ en, En.parse xs = .ok en → ∃ cs U cu O co ts, e = .returned (.tuple #[.agg cs, .nilIface]) ∧ EnO w.heap.size w' en cs U cu O co ts)
theorem eparse_bad {xs : List Nat} {a : Nat → Addr} {w w' : World} {e : Ending} {k : Nat} (hb : Below w.heap.size w w') (hp : En.parse xs = .bad k) (he : e = .returned (.tuple #[.agg zE, ev (a (k - 1))])) : EParsePost xs a w e w' :=
  ⟨hb, fun k' hk => (by rw [hp] at hk; injection hk with hk; subst hk; exact he), fun en hk => (by rw [hp] at hk; cases hk)⟩
theorem entE_places : (Tryz.prog.fieldsOf 25).toList.mapM (fun f => (Tryz.prog.info? f.type).map fun i => (f.offset, i.size)) = some [(0, 1), (1, 1), (2, 1), (3, 1), (4, 1)] := by kernel_rfl
theorem entE_zero : ((Tryz.prog.info? 25).bind (·.zero)).map (·.cells) = some zE := by kernel_rfl
theorem entE_under : Tryz.prog.underlying 25 = some (.struct (Tryz.prog.fieldsOf 25)) := by kernel_rfl
theorem ent_empty : Tryz.prog.built 25 [] = some zE := by
  rw [built_of entE_under entE_zero entE_places]
  exact fill_done _ _
theorem zE_one : zE.all (·.oneCell') = true := by kernel_rfl
theorem eright_ok {xs : List Nat} {en : En.E} (hz : xs.length ≤ 2800) (hp : En.parts xs = .ok en []) : En.parse xs = if En.right en = true then .ok en else .bad 4 := by
  unfold En.parse
  rw [if_neg (by omega), hp]
  dsimp only
  rw [if_neg (by simp)]
set_option maxRecDepth 100000 in
set_option maxHeartbeats 1000000 in
theorem eparse_large (a : Nat → Addr) (xs : List Nat) (v : Value) (w : World) (hv : Rd w v xs) (hz : 2800 < xs.length) (hS : ESL w a) :
    Calls Tryz.prog 14 #[v] w (EParsePost xs a w) := by
  obtain ⟨A, c, rfl, _⟩ := hv
  have hm : Tryz.prog.follows .mixedOrders = true := by kernel_rfl
  obtain ⟨w6, hw6⟩ : ∃ w6, w6 = w.alloc (.cells zE 25) := ⟨_, rfl⟩
  have HWA : Hid (Below w.heap.size w w6) := Lib.hid (hw6 ▸ (Below.refl _ _).alloc (Nat.le_refl _) _)
  have HZ6 : Hid (Blk w6 w.heap.size 25 zE) := Lib.hid (hw6 ▸ Blk.new w 25 zE)
  have pL : w6.cell? ⟨1, 0, none⟩ = some (ev (a 12)) := (HWA.out.cell (block_lt_of_cell hS.s.g)).trans hS.s.g
  have e2 := hw6.symm
  have i1 : (xs.length : Int) > 2800 := by omega
  have HP : Hid (En.parse xs = .bad 13) := Lib.hid (by unfold En.parse; rw [if_pos hz])
  clear hS hz hw6
  go_enter Tryz.func14, Tryz.ntmps14
  go_wp2
  refine wp_region_held (S := fun w' => w' = w6.drew) hm ?_
  change wpAnyH _ _ _ _ _ _ _ _ (w.alloc (.cells zE 25)).drew
  rw [e2]
  refine wpAnyH_take (i := 1) (v := ?_) rfl (by kernel_rfl) (by kernel_rfl) (by kernel_rfl) (fun _ _ _ h => h) (Or.inl ⟨by rfl, ?_⟩) rfl ?_
  rotate_left
  · rintro w' rfl; go_simp; with_reducible rfl
  try simp only [Act.put, List.getElem_toArray, List.getElem_cons_zero, List.getElem_cons_succ, List.setIfInBounds_toArray, List.set_cons_zero, List.set_cons_succ]
  refine all_one (i := 0) (by kernel_rfl) rfl (by rfl) (fun K hK => ?_)
  refine wp_buildK 25 _ (by rfl) [] (by simp) zE ent_empty ?_
  refine hK _ _ rfl ?_; clear hK K
  try simp only [Act.put, List.getElem_toArray, List.getElem_cons_zero, List.setIfInBounds_toArray, List.set_cons_zero, List.set_cons_succ]
  refine all_one (i := 2) (by kernel_rfl) rfl (by rfl) (fun K hK => ?_)
  refine wp_store_row 25 (.tmp 2) (.tmp 9) (by rfl) w.heap.size zE (by rfl) (by rfl) 25 zE HZ6.out.drew (by kernel_rfl) (by rfl) (by kernel_rfl) ?_
  rw [setRow_self w6.drew w.heap.size zE 25 (0, 0) HZ6.out.drew]
  refine hK _ _ rfl ?_; clear hK K
  try simp only [Act.put, List.getElem_toArray, List.getElem_cons_zero, List.getElem_cons_succ]
  refine all_one (i := 3) (by kernel_rfl) rfl (by rfl) (fun K hK => ?_)
  go_simp
  refine hK _ _ rfl ?_; clear hK K
  try simp only [Act.put, List.getElem_toArray, List.getElem_cons_zero, List.getElem_cons_succ, List.setIfInBounds_toArray, List.set_cons_zero, List.set_cons_succ]
  refine wpAnyH_done (by kernel_rfl) ?_ _
  clear pL
  go_wp2
  exact bodyPost_ret (v := .tuple #[.agg zE, ev (a 12)]) (resultsE2 (t := 2) (s := 3) rfl (by rfl) HZ6.out.drew (by kernel_rfl)) rfl (eparse_bad (below_drewN HWA.out 1) HP.out rfl)
set_option maxRecDepth 100000 in
set_option maxHeartbeats 2000000 in
theorem eparse_late (xs : List Nat) (a : Nat → Addr) (v : Value) (w : World) (hv : Rd w v xs) (hb : Oc.bytes xs) (hz : xs.length ≤ 2800) (hS : ESL w a) (hl : En.late xs ≠ 0) :
    Calls Tryz.prog 14 #[v] w (EParsePost xs a w) := by
  have HL := Lib.hid hl
  clear hl
  have hv0 := hv
  obtain ⟨A, c, rfl, _⟩ := hv0
  obtain ⟨w6, hw6⟩ : ∃ w6, w6 = w.alloc (.cells zE 25) := ⟨_, rfl⟩
  have hwa : Below w.heap.size w w6 := hw6 ▸ (Below.refl _ _).alloc (Nat.le_refl _) _
  have HZ6 : Hid (Blk w6 w.heap.size 25 zE) := Lib.hid (hw6 ▸ Blk.new w 25 zE)
  have CT := takeE_any xs a A c w6 (hv.below hwa (Nat.le_refl _)) hb (by omega) (hS.at_ hwa)
  have HWA := Lib.hid hwa
  have HS := Lib.hid hS
  have e2 := hw6.symm
  have i1 : ¬ ((xs.length : Int) > 2800) := by omega
  have HLEN := Lib.hid hz
  clear hwa hv hb hz hS hw6
  go_enter Tryz.func14, Tryz.ntmps14
  go_wp2_with (go_at_call 30; refine pause ?_)
  unfold Paused
  change Calls _ _ _ (w.alloc (.cells zE 25)) _
  rw [e2]
  refine CT.mono ?_
  rintro e w3 ⟨hb3, he, _⟩
  obtain rfl := he HL.out
  have HP := Lib.hid (En.late_parse HLEN.out HL.out)
  have HB3 := Lib.hid (below_next HWA.out hb3)
  have HZ3 := Lib.hid (HZ6.out.below hb3 HZ6.out.lt)
  clear hb3 he CT
  go_wp2_with (with_reducible (show wpList _ _ _ (Oper.mk _ (Op.store 25 _ _) _ _ _ _ :: _) _ _); refine pause ?_)
  unfold Paused
  change wpList _ _ _ _ _ (w3.alloc (.cells zE 25))
  refine wpList_store_row (by rfl) 25 (.tmp 4) (.tmp 14) (by rfl) w3.heap.size zE (by rfl) (by rfl) 25 zE (Blk.new w3 _ _) (by kernel_rfl) (by rfl) (by kernel_rfl) ?_
  have HN5 := Lib.hid (show Below w3.heap.size w3 ((w3.alloc (.cells zE 25)).setRow w3.heap.size zE) from below_row ((Below.refl _ _).alloc (Nat.le_refl _) _) (Nat.le_refl _) _)
  generalize (w3.alloc (.cells zE 25)).setRow w3.heap.size zE = w5 at HN5 ⊢
  have HB5 := Lib.hid (below_next HB3.out HN5.out)
  have HZ5 := Lib.hid (HZ3.out.below HN5.out HZ3.out.lt)
  clear HB3 HZ3 HN5
  simp only [Act.put]
  go_wp2_with (with_reducible (show wpList _ _ _ (Oper.mk _ (Op.build 25 _) _ _ _ _ :: _) _ _); refine pause ?_)
  unfold Paused
  refine wpList_buildK (by rfl) 25 _ (by rfl) [] (by simp) zE ent_empty ?_
  go_wp2_with (with_reducible (show wpList _ _ _ (Oper.mk _ (Op.store 25 _ _) _ _ _ _ :: _) _ _); refine pause ?_)
  unfold Paused
  refine wpList_store_row (by rfl) 25 (.tmp 2) (.tmp 18) (by rfl) w.heap.size zE (by rfl) (by rfl) 25 zE HZ5.out (by kernel_rfl) (by rfl) (by kernel_rfl) ?_
  rw [setRow_self w5 w.heap.size zE 25 (0, 0) HZ5.out]
  go_wp2
  exact bodyPost_ret (v := .tuple #[.agg zE, ev (a (En.late xs - 1))]) (resultsE2 (t := 2) (s := 3) rfl (by rfl) HZ5.out (by kernel_rfl)) rfl (eparse_bad HB5.out HP.out rfl)
set_option maxRecDepth 100000 in
set_option maxHeartbeats 4000000 in
theorem eparse_fit (xs : List Nat) (a : Nat → Addr) (v : Value) (w : World) (hv : Rd w v xs) (hb : Oc.bytes xs) (hz : xs.length ≤ 2800) (hS : ESL w a) (hM : MaxAt w) (hl : En.late xs = 0) :
    Calls Tryz.prog 14 #[v] w (EParsePost xs a w) := by
  have HL := Lib.hid hl
  have HBY := Lib.hid hb
  have HM := Lib.hid hM
  clear hl hM
  have hm : Tryz.prog.follows .mixedOrders = true := by kernel_rfl
  have hv0 := hv
  obtain ⟨A, c, rfl, _⟩ := hv0
  obtain ⟨w6, hw6⟩ : ∃ w6, w6 = w.alloc (.cells zE 25) := ⟨_, rfl⟩
  have hwa : Below w.heap.size w w6 := hw6 ▸ (Below.refl _ _).alloc (Nat.le_refl _) _
  have HZ6 : Hid (Blk w6 w.heap.size 25 zE) := Lib.hid (hw6 ▸ Blk.new w 25 zE)
  have CT := takeE_any xs a A c w6 (hv.below hwa (Nat.le_refl _)) hb (by omega) (hS.at_ hwa)
  have HWA := Lib.hid hwa
  have HS := Lib.hid hS
  have e2 := hw6.symm
  have i1 : ¬ ((xs.length : Int) > 2800) := by omega
  have HLEN := Lib.hid hz
  clear hwa hv hb hz hS hw6
  go_enter Tryz.func14, Tryz.ntmps14
  go_wp2_with (go_at_call 30; refine pause ?_)
  unfold Paused
  change Calls _ _ _ (w.alloc (.cells zE 25)) _
  rw [e2]
  refine CT.mono ?_
  rintro e w3 ⟨hb3, _, he⟩
  obtain ⟨cs, m, en, U, cu, O, co, ts, rfl, hm3, hp3, ho3⟩ := he HL.out
  have HP := Lib.hid (eright_ok HLEN.out hp3)
  have HE3 : Hid (EnO (w.heap.size + 1) w3 en cs U cu O co ts) := Lib.hid (ho3.lower (by have := HZ6.out.lt; omega))
  have HRD := Lib.hid (En.parts_inv HBY.out hp3).2.1
  have HB3 := Lib.hid (below_next HWA.out hb3)
  have HZ3 := Lib.hid (HZ6.out.below hb3 HZ6.out.lt)
  have HC5 := Lib.hid ho3.size
  have HC1 := Lib.hid ho3.one
  clear hb3 he CT hm3 hp3 ho3
  go_wp2_with (with_reducible (show wpList _ _ _ (Oper.mk _ (Op.store 25 _ _) _ _ _ _ :: _) _ _); refine pause ?_)
  unfold Paused
  change wpList _ _ _ _ _ (w3.alloc (.cells zE 25))
  refine wpList_store_row (by rfl) 25 (.tmp 4) (.tmp 14) (by rfl) w3.heap.size cs (by rfl) (by rfl) 25 zE (Blk.new w3 _ _) (ent_load HC5.out) (by rw [HC5.out]; rfl) HC1.out ?_
  have HN5 := Lib.hid (show Below w3.heap.size w3 ((w3.alloc (.cells zE 25)).setRow w3.heap.size cs) ∧ Blk ((w3.alloc (.cells zE 25)).setRow w3.heap.size cs) w3.heap.size 25 cs from ⟨below_row ((Below.refl _ _).alloc (Nat.le_refl _) _) (Nat.le_refl _) _, (Blk.new w3 _ _).row _⟩)
  generalize (w3.alloc (.cells zE 25)).setRow w3.heap.size cs = w5 at HN5 ⊢
  have HB5 := Lib.hid (below_next HB3.out HN5.out.1)
  have HZ5 := Lib.hid (HZ3.out.below HN5.out.1 HZ3.out.lt)
  have HE5 := Lib.hid (HE3.out.kpt (Kpt.of_below HN5.out.1))
  have HX5 := Lib.hid HN5.out.2
  clear HB3 HZ3 HE3 HN5
  generalize w3.heap.size = gx at HX5 ⊢
  clear w3
  simp only [Act.put]
  go_wp2_with (with_reducible (show wpList _ _ _ (Oper.mk _ (Op.load 25 _) _ _ _ _ :: _) _ _); refine pause ?_)
  unfold Paused
  refine wpList_row_w (by rfl) 25 (.tmp 4) (by rfl) gx (by rfl) 25 cs _ HX5.out (by first | exact Tryz.underlying25 | kernel_rfl) (by rfl) (ent_load HC5.out) ?_
  have CR := eright_any en cs U O cu co ts a w5 HE5.out.enc (HS.out.s.at_ HB5.out) (HM.out.below HB5.out (Nat.le_refl _)) (by have := HRD.out.nu; omega)
  obtain ⟨br, hbr⟩ : ∃ br, br = En.right en := ⟨_, rfl⟩
  rw [← hbr] at CR
  have HPR : Hid (En.parse xs = if br = true then .ok en else .bad 4) := Lib.hid (by rw [hbr]; exact HP.out)
  clear hbr HP
  go_wp2_with (go_at_call 8; refine pause ?_)
  unfold Paused
  refine CR.mono ?_
  rintro r w7 ⟨rfl, hb7⟩
  have HB7 := Lib.hid (below_next HB5.out hb7)
  have HZ7 := Lib.hid (HZ5.out.below hb7 HZ5.out.lt)
  have HE7 := Lib.hid (HE5.out.kpt (Kpt.of_below hb7))
  have HX7 := Lib.hid (HX5.out.below hb7 HX5.out.lt)
  clear hb7 CR HB5 HZ5 HE5 HX5
  clear w5
  cases br
  · have pL : w7.cell? ⟨0, 0, none⟩ = some (ev (a 3)) := (HS.out.s.at_ HB7.out).p.2.1
    have HPX : Hid (En.parse xs = .bad 4) := Lib.hid (HPR.out.trans (if_neg (by decide)))
    go_wp2_with fail
    refine wp_region_held (S := fun w' => w' = w7.drew) hm ?_
    change wpAnyH _ _ _ _ _ _ _ _ w7.drew
    refine wpAnyH_take (i := 1) (v := ?_) rfl (by kernel_rfl) (by kernel_rfl) (by kernel_rfl) (fun _ _ _ h => h) (Or.inl ⟨by rfl, ?_⟩) rfl ?_
    rotate_left
    · rintro w' rfl; go_simp; with_reducible rfl
    try simp only [Act.put, List.getElem_toArray, List.getElem_cons_zero, List.getElem_cons_succ, List.setIfInBounds_toArray, List.set_cons_zero, List.set_cons_succ]
    refine all_one (i := 0) (by kernel_rfl) rfl (by rfl) (fun K hK => ?_)
    refine wp_buildK 25 _ (by rfl) [] (by simp) zE ent_empty ?_
    refine hK _ _ rfl ?_; clear hK K
    try simp only [Act.put, List.getElem_toArray, List.getElem_cons_zero, List.setIfInBounds_toArray, List.set_cons_zero, List.set_cons_succ]
    refine all_one (i := 2) (by kernel_rfl) rfl (by rfl) (fun K hK => ?_)
    refine wp_store_row 25 (.tmp 2) (.tmp 23) (by rfl) w.heap.size zE (by rfl) (by rfl) 25 zE HZ7.out.drew (by kernel_rfl) (by rfl) (by kernel_rfl) ?_
    rw [setRow_self w7.drew w.heap.size zE 25 (0, 0) HZ7.out.drew]
    refine hK _ _ rfl ?_; clear hK K
    try simp only [Act.put, List.getElem_toArray, List.getElem_cons_zero, List.getElem_cons_succ]
    refine all_one (i := 3) (by kernel_rfl) rfl (by rfl) (fun K hK => ?_)
    go_simp
    refine hK _ _ rfl ?_; clear hK K
    try simp only [Act.put, List.getElem_toArray, List.getElem_cons_zero, List.getElem_cons_succ, List.setIfInBounds_toArray, List.set_cons_zero, List.set_cons_succ]
    refine wpAnyH_done (by kernel_rfl) ?_ _
    clear pL
    go_wp2
    exact bodyPost_ret (v := .tuple #[.agg zE, ev (a 3)]) (resultsE2 (t := 2) (s := 3) rfl (by rfl) HZ7.out.drew (by kernel_rfl)) rfl (eparse_bad (below_drewN HB7.out 1) HPX.out rfl)
  · have HPX : Hid (En.parse xs = .ok en) := Lib.hid (HPR.out.trans (if_pos rfl))
    go_wp2_with (with_reducible (show wpList _ _ _ (Oper.mk _ (Op.load 25 _) _ _ _ _ :: _) _ _); refine pause ?_)
    unfold Paused
    refine wpList_row_w (by rfl) 25 (.tmp 4) (by rfl) gx (by rfl) 25 cs _ HX7.out (by first | exact Tryz.underlying25 | kernel_rfl) (by rfl) (ent_load HC5.out) ?_
    go_wp2_with (with_reducible (show wpList _ _ _ (Oper.mk _ (Op.store 25 _ _) _ _ _ _ :: _) _ _); refine pause ?_)
    unfold Paused
    refine wpList_store_row (by rfl) 25 (.tmp 2) (.tmp 25) (by rfl) w.heap.size cs (by rfl) (by rfl) 25 zE HZ7.out (ent_load HC5.out) (by rw [HC5.out]; rfl) HC1.out ?_
    have HR := Lib.hid (HZ7.out.row cs)
    have HB9 : Hid (Below w.heap.size w (w7.setRow w.heap.size cs)) := Lib.hid (below_row HB7.out (Nat.le_refl _) _)
    have HE9 : Hid (EnO w.heap.size (w7.setRow w.heap.size cs) en cs U cu O co ts) := Lib.hid ((HE7.out.kpt (Kpt.of_grown (show w7.grownBy (w7.setRow w.heap.size cs) (some w.heap.size) from only_setRow (World.grownBy.refl w7 _) (Or.inl rfl) _) (by show w.heap.size < w.heap.size + 1; omega))).lower (Nat.le_succ _))
    generalize w7.setRow w.heap.size cs = w9 at HR HB9 HE9 ⊢
    go_wp2
    exact bodyPost_ret (v := .tuple #[.agg cs, .nilIface]) (resultsE2 (t := 2) (s := 3) rfl (by rfl) HR.out HC5.out) rfl ⟨HB9.out, fun k hk => (by rw [HPX.out] at hk; cases hk), fun e2 hk => (by
      rw [HPX.out] at hk
      injection hk with hk
      subst hk
      exact ⟨cs, U, cu, O, co, ts, rfl, HE9.out⟩)⟩
theorem eparse_any (xs : List Nat) (a : Nat → Addr) (v : Value) (w : World) (hv : Rd w v xs) (hb : Oc.bytes xs) (hS : ESL w a) (hM : MaxAt w) :
    Calls Tryz.prog 14 #[v] w (EParsePost xs a w) := by
  by_cases h : 2800 < xs.length
  · exact eparse_large a xs v w hv h hS
  · by_cases h0 : En.late xs = 0
    · exact eparse_fit xs a v w hv hb (by omega) hS hM h0
    · exact eparse_late xs a v w hv hb (by omega) hS h0
end Go.Proofs.YtjkneidoochfjaaGreatDoor
/- The walks of the document's own Parts, and of the comparison of two lists of texts. -/
namespace Go.Proofs.YtjkneidoochfjaaGreatDoor
open Go Go.RowKit
def strs (ps : List (List UInt8)) : List Value := ps.map fun p => Value.string ⟨p.toArray⟩
theorem strs_len (ps : List (List UInt8)) : (strs ps).length = ps.length := by simp [strs]
theorem strs_snoc (acc : List (List UInt8)) (p : List UInt8) : strs (acc ++ [p]) = strs acc ++ [Value.string ⟨p.toArray⟩] := by simp [strs]
theorem strs_at (acc : List (List UInt8)) (p : List UInt8) : (strs (acc ++ [p]))[acc.length]? = some (Value.string ⟨p.toArray⟩) := by
  rw [strs_snoc, List.getElem?_append_right (by rw [strs_len]; exact Nat.le_refl _), strs_len, Nat.sub_self]; rfl
theorem strs_set (acc : List (List UInt8)) (p q : List UInt8) : (strs (acc ++ [p])).set acc.length (Value.string ⟨q.toArray⟩) = strs (acc ++ [q]) := by
  rw [strs_snoc, strs_snoc, List.set_append_right _ _ (by rw [strs_len]; exact Nat.le_refl _), strs_len, Nat.sub_self]; rfl
theorem take_snoc (s : ByteArray) (k : Nat) (h : k < s.size) : s.data.toList.take (k + 1) = s.data.toList.take k ++ [s[k]] := by
  rw [List.take_succ_eq_append_getElem (by simpa using h)]; rfl
theorem extract_one (s : ByteArray) (k : Nat) (h : k < s.size) (p : List UInt8) : (⟨p.toArray⟩ : ByteArray) ++ s.extract k (k + 1) = ⟨(p ++ [s[k]]).toArray⟩ := by
  apply ByteArray.ext
  apply Array.ext'
  rw [ByteArray.data_append, Array.toList_append, Lib.extract_data]
  simp
  rw [List.take_one, List.head?_drop, List.getElem?_eq_getElem (by simpa using h)]
  rfl
theorem str_info : (Tryz.prog.info? 9).map (fun i => (i.zero, i.size, i.bytes)) = some (some (.string ⟨#[]⟩), 1, 16) := by kernel_rfl
/-- The call's own list of texts. -/
def Owns (w0 w : World) (v : Value) (ps : List (List UInt8)) : Prop := w.ownsRow w0.heap.size 9 1 v ps.length (strs ps) ∧ Below w0.heap.size w0 w
/-- A list of texts as an answer. -/
def GivesRow (w : World) (zs : List ByteArray) (e : Ending) (w' : World) : Prop := ∃ g cap, e = .returned (.slice (some ⟨g, 0, none⟩) zs.length cap) ∧ Row w' g 0 zs ∧ Below w.heap.size w w'
theorem owns_form {w0 w : World} {v : Value} {acc : List (List UInt8)} {p : List UInt8} (h : Owns w0 w v (acc ++ [p])) : ∃ g cap, v = .slice (some ⟨g, 0, none⟩) (acc.length + 1) cap ∧ w0.heap.size ≤ g ∧ w.ownsRow w0.heap.size 9 1 (.slice (some ⟨g, 0, none⟩) (acc.length + 1) cap) (acc.length + 1) (strs (acc ++ [p])) := by
  obtain ⟨⟨hl, hr⟩, hb⟩ := h
  rcases hr with ⟨_, h0⟩ | ⟨g, cap, cur, rfl, hg, rest⟩
  · simp at h0
  · rw [List.length_append] at *
    exact ⟨g, cap, rfl, hg, hl, Or.inr ⟨g, cap, cur, rfl, hg, rest⟩⟩
set_option maxRecDepth 100000 in
set_option maxHeartbeats 1000000 in
theorem rparts_any (s : ByteArray) (w : World) (hs : s.size ≤ 3000) :
    Calls Tryz.prog 50 #[.string s] w (GivesRow w (Nm.cut s)) := by
  obtain ⟨i0, hi0, hiz, his, hib⟩ := info_parts str_info
  go_enter Tryz.func50, Tryz.ntmps50
  go_wp2
  go_loopw [3, 4] (fun v i wr => ∃ k : Nat, k ≤ s.size ∧ i = .int .i64 k ∧ Hid (Owns w wr v (Nm.parts (s.data.toList.take k)))) (fun _ i _ => s.size - (intOf i).toNat)
  case atStart =>
    refine ⟨0, Nat.zero_le _, rfl, Lib.hid ⟨⟨rfl, Or.inr ⟨w.heap.size, 1, #[.string ⟨#[]⟩], rfl, Nat.le_refl _, ?_, Nat.le_refl _, by decide, rfl, rfl⟩⟩, (Below.refl _ _).alloc (Nat.le_refl _) _⟩⟩
    exact heap_alloc_new w _
  case round =>
    obtain ⟨k, hk, rfl, HO⟩ := hrel
    by_cases hlt : k < s.size
    · obtain ⟨acc, p, hp, hpl, hal⟩ := Nm.parts_last (s.data.toList.take k)
      rw [List.length_take] at hpl hal
      have hpl : p.length ≤ k := by omega
      have hal : acc.length ≤ k := by omega
      rw [hp] at HO
      obtain ⟨g, cap, rfl, hg, hown⟩ := owns_form HO.out
      have HG := Lib.hid hg
      have HW := Lib.hid hown
      have hcell := (hown.cellAt acc.length (by omega)).trans (strs_at acc p)
      have hfr := hown.frozenAt acc.length
      clear hg hown
      by_cases hc : (s[k].toNat : Int) = 47
      · have H := Lib.hid (show Nm.parts (s.data.toList.take (k + 1)) = acc ++ [p] ++ [[]] by
          rw [take_snoc s k hlt, Nm.parts_snoc, hp, show s[k] = 47 from UInt8.toNat_inj.1 (Int.ofNat_inj.1 hc), Nm.grow_slash])
        clear hp
        have hB1 : Below w.heap.size w (wr.alloc (.cells #[.string ⟨#[]⟩] 9)) := HO.out.2.alloc HO.out.2.size _
        have HB1 := Lib.hid hB1
        clear hB1 hcell hfr
        go_wp2_with (at_builtin; go_loud (refine wpList_append_own _ rfl (.tmp 16) (.tmp 17) 94 rfl w.heap.size 9 i0 (.string ⟨#[]⟩) 1 16 Tryz.underlying94 hi0 hiz his hib rfl (by decide) _ (acc.length + 1) _ rfl (HW.out.alloc _) ⟨wr.heap.size, 0, none⟩ 1 1 [.string ⟨#[]⟩] rfl rfl ?c1 ?c2 ?c3 ?c4 ?c5 ?_))
        case c1 => intro j u hj; rcases j with _ | j <;> simp at hj; subst hj; simp [Addr.add]
        case c2 => intro u hu; simp at hu; subst hu; rfl
        case c3 => unfold maxLen; omega
        case c4 => omega
        case c5 => exact HB1.out.size
        intro v' w1 hown1 hgrow1 _
        have HO1 : Hid (Owns w w1 v' (acc ++ [p] ++ [[]])) := Lib.hid ⟨by
          have e : (acc ++ [p] ++ [[]] : List (List UInt8)).length = acc.length + 1 + 1 := by simp
          rw [e, strs_snoc]; exact hown1, HB1.out.grown hgrow1 HB1.out.size (fun j e => by cases e; exact HG.out)⟩
        clear hown1 hgrow1
        go_wp2
        go_roundw
        case rel => exact ⟨k + 1, by omega, by go_num, by rw [H.out]; exact HO1⟩
        case measure => simp [intOf]; omega
      · have H := Lib.hid (show Nm.parts (s.data.toList.take (k + 1)) = acc ++ [p ++ [s[k]]] by
          rw [take_snoc s k hlt, Nm.parts_snoc, hp, Nm.grow_else _ _ _ (fun e => hc (by rw [e]; rfl))])
        clear hp
        have W1 : IntKind.i64.wrap ((acc.length : Nat) : Int) = acc.length := IntWalk.i64_in _ (by omega)
        have W2 : IntKind.i64.wrap (((k : Nat) : Int) + 1) = k + 1 := IntWalk.i64_in _ (by omega)
        have W3 : ((k : Nat) : Int) + 1 ≤ s.size := by omega
        have W4 : ((acc.length : Nat) : Int) < acc.length + 1 := by omega
        have W5 : ∀ w', (Instr.slice 9 (.string s) (some (.int .i64 ((k : Nat) : Int))) (some (.int .i64 (((k : Nat) : Int) + 1))) none).run Tryz.prog w' = .ok (.string (s.extract k (k + 1))) w' := fun w' => by
          rw [run_slice_string _ _ _ _ _ _ _ (by kernel_rfl) (by omega) (by omega) W3]; rfl
        have W6 : ∀ w', (Op.stringOp .add ⟨p.toArray⟩ (s.extract k (k + 1))).run Tryz.prog w' = .ok (.string ⟨(p ++ [s[k]]).toArray⟩) w' := fun w' => by
          rw [run_string_add_sum w' _ _ (by have e : (⟨p.toArray⟩ : ByteArray).size = p.length := by simp [ByteArray.size]
                                            rw [e, ByteArray.size_extract]; omega), extract_one s k hlt p]
        go_wp2
        refine wp_region_still_tail 13 (by kernel_rfl) (by kernel_rfl) ?_
        change wpStill _ _ wr.drew _ _ _
        dsimp only [List.take, List.drop]
        repeat still_step
        refine wpStill_nil ?_
        change wpList _ _ _ _ _ wr.drew
        have HO1 : Hid (Owns w (wr.drew.setCell ⟨g, acc.length, none⟩ (.string ⟨(p ++ [s[k]]).toArray⟩)) (.slice (some ⟨g, 0, none⟩) (acc.length + 1) cap) (acc ++ [p ++ [s[k]]])) := Lib.hid ⟨by
          have e : (acc ++ [p ++ [s[k]]] : List (List UInt8)).length = acc.length + 1 := by simp
          rw [e, ← strs_set acc p (p ++ [s[k]])]
          exact (HW.out.drew.stored acc.length _).1, HO.out.2.drew.setCell HG.out _⟩
        go_wp2
        go_roundw
        case rel => exact ⟨k + 1, by omega, by go_num, by rw [H.out]; exact HO1⟩
        case measure => simp [intOf]; omega
    · have e : s.data.toList.take k = s.data.toList := List.take_of_length_le (by rw [len_list]; omega)
      rw [e] at HO
      clear e
      obtain ⟨acc, p, hp, _, _⟩ := Nm.parts_last s.data.toList
      have hz : Nm.cut s = (acc ++ [p]).map fun p => ⟨p.toArray⟩ := by rw [Nm.cut_eq, hp]
      rw [hp] at HO
      obtain ⟨g, cap, rfl, _, hown⟩ := owns_form HO.out
      have H : Hid (GivesRow w (Nm.cut s) (.returned (.slice (some ⟨g, 0, none⟩) (acc.length + 1) cap)) wr) := Lib.hid (by
        rw [hz]
        have e1 : ((acc ++ [p]).map fun p => (⟨p.toArray⟩ : ByteArray)).length = acc.length + 1 := by simp
        refine ⟨g, cap, by rw [e1], ⟨?_, fun j x hx => ?_⟩, HO.out.2⟩
        · obtain ⟨_, hr⟩ := hown
          rcases hr with ⟨h, _⟩ | ⟨g', c', cur, he, _, hh, _⟩
          · cases h
          · cases he; exact (Array.getElem?_eq_some_iff.1 hh).1
        · have hj : j < acc.length + 1 := by have := (List.getElem?_eq_some_iff.1 hx).1; rwa [e1] at this
          rw [Nat.zero_add, hown.cellAt j (by omega)]
          unfold strs
          rw [List.getElem?_map] at hx ⊢
          cases hq : (acc ++ [p])[j]? with
          | none => rw [hq] at hx; cases hx
          | some q => rw [hq] at hx; cases hx; rfl)
      clear hown hz hp
      go_wp2
      go_ret
      exact H.out
theorem idx_row {w : World} {b : Nat} {zs : List ByteArray} (h : Row w b 0 zs) {k : Nat} (hk : k < zs.length) : w.cell? ⟨b, k, none⟩ = some (.string zs[k]) := by
  have := h.2 k zs[k] (by simp [hk])
  rwa [Nat.zero_add] at this
theorem Row.drewN {w : World} {b off : Nat} {zs : List ByteArray} (h : Row w b off zs) (n : Nat) : Row (w.drewN n) b off zs := h
end Go.Proofs.YtjkneidoochfjaaGreatDoor
/- The walks of layer 3's example, of Under and Shorten, and of the document's own answers to them. -/
namespace Go.Proofs.YtjkneidoochfjaaGreatDoor
open Go Go.RowKit
/-! Under -/
end Go.Proofs.YtjkneidoochfjaaGreatDoor
/- The walks of the document's own Repo and Ref. -/
namespace Go.Proofs.YtjkneidoochfjaaGreatDoor
open Go Go.RowKit
theorem all_false {p : UInt8 → Bool} {s : ByteArray} {k : Nat} (h : k < s.size) (hp : p s[k] = false) : Nm.allL p s.data.toList = false := all_hit h hp
/-! the reference of Ref -/
theorem bad_of {x : ByteArray} : Nm.bad x.data.toList = (!(Nm.allL (Nm.plain [45, 46]) x.data.toList) || decide (x.data.toList.count 46 = x.size)) := by
  unfold Nm.bad; rw [Nm.dots_all, len_list]
theorem count_take (x : ByteArray) (j : Nat) (h : j < x.size) : (x.data.toList.take (j + 1)).count 46 = (x.data.toList.take j).count 46 + (if x[j] = 46 then 1 else 0) := by
  rw [take_snoc x j h, List.count_append]
  by_cases e : x[j] = 46
  · rw [if_pos e, e]; rfl
  · rw [if_neg e, List.count_cons_of_ne e]; rfl
theorem count_le (l : List UInt8) (j : Nat) : (l.take j).count 46 ≤ j := Nat.le_trans List.count_le_length (List.length_take_le _ _)
def Dots (x : ByteArray) (d : Value) (j : Nat) : Prop := d = .int .i64 (((x.data.toList.take j).count 46 : Nat) : Int)
set_option maxRecDepth 100000 in
set_option maxHeartbeats 2000000 in
theorem rref_any (s : ByteArray) (w : World) (hs : s.size ≤ 3000) :
    Calls Tryz.prog 27 #[.string s] w fun e w' => e = .returned (.bool (Nm.ref s.data.toList)) ∧ Below w.heap.size w w' := by
  have CP := rparts_any s w hs
  have HZ := Lib.hid (Nm.cut_size s)
  have hl : (Nm.cut s).length ≤ s.size + 1 := by
    have := Lib.countB_le slashS (Nat.le_refl _) _ s (Nat.le_refl _)
    rw [Nm.cut_len]; show Lib.countB s slashS + 1 ≤ _; omega
  by_cases h1 : s.size ≤ 24
  · by_cases h2 : 2 ≤ (Nm.cut s).length
    · have HR := Lib.hid (ref_else h1 h2)
      generalize Nm.cut s = zs at *
      go_enter Tryz.func27, Tryz.ntmps27
      go_wp2_with fail
      refine CP.mono ?_
      rintro e w1 ⟨g, cap, rfl, hrow, hb⟩
      have HB := Lib.hid hb
      clear hb CP
      go_wp2_with fail
      go_loop [20] (fun i => ∃ k : Nat, k ≤ zs.length ∧ i = .int .i64 k ∧ Hid (NoneYet zs (fun x => Nm.bad x.data.toList) k)) (fun i => zs.length - (intOf i).toNat)
      case atStart => exact ⟨0, Nat.zero_le _, rfl, Lib.hid (fun j x hj => absurd hj (Nat.not_lt_zero _))⟩
      case round =>
        obtain ⟨k, hk, rfl, HN⟩ := hrel
        by_cases hlt : k < zs.length
        · have hcell := idx_row hrow hlt
          have hsz := HZ.out zs[k] (List.getElem_mem hlt)
          have HX := Lib.hid (show zs[k]? = some zs[k] by simp [hlt])
          generalize zs[k] = x at hcell hsz HX
          have HFail := Lib.hid (fun h : Nm.bad x.data.toList = true => (show Nm.ref s.data.toList = false by rw [HR.out, any_at HX.out h]; rfl))
          go_wp2_with fail
          go_loop [6, 7] (fun d i => ∃ j : Nat, j ≤ x.size ∧ Hid (Dots x d j) ∧ i = .int .i64 j ∧ Hid ((x.data.toList.take j).all (Nm.plain [45, 46]) = true)) (fun _ i => x.size - (intOf i).toNat)
          case atStart => exact ⟨0, Nat.zero_le _, Lib.hid rfl, rfl, Lib.hid rfl⟩
          case round =>
            obtain ⟨j, hj, HD, rfl, HA⟩ := hrel
            have hd := HD.out
            unfold Dots at hd
            subst hd
            have hcl := count_le x.data.toList j
            by_cases hjl : j < x.size
            · have HT := Lib.hid (all_take (p := Nm.plain [45, 46]) hjl)
              have HC := Lib.hid (count_take x j hjl)
              have HF := Lib.hid (all_false (p := Nm.plain [45, 46]) hjl)
              have HP := Lib.hid (Nm.plain2 x[j])
              by_cases hdot : (x[j].toNat : Int) = 46
              · have HE := Lib.hid (show x[j] = 46 from UInt8.toNat_inj.1 (Int.ofNat_inj.1 hdot))
                have HK : Hid ((x.data.toList.take (j + 1)).all (Nm.plain [45, 46]) = true) := Lib.hid (by rw [HT.out, HA.out, HP.out, HE.out]; rfl)
                have HD2 : Hid (Dots x (.int .i64 (((x.data.toList.take j).count 46 : Nat) + 1)) (j + 1)) := Lib.hid (by unfold Dots; rw [HC.out, if_pos HE.out]; rfl)
                clear HD
                generalize (x.data.toList.take j).count 46 = n at *
                go_wp2
                go_round
                case rel => exact ⟨j + 1, by omega, HD2, by go_num, HK⟩
                case measure => simp [intOf]; omega
              · have HD2 : Hid (Dots x (.int .i64 ((x.data.toList.take j).count 46 : Nat)) (j + 1)) := Lib.hid (by unfold Dots; rw [HC.out, if_neg (fun e => hdot (by rw [e]; rfl))]; rfl)
                have hdb : ((x[j].toNat : Int) == 46) = false := by simpa using hdot
                have HNE := Lib.hid (show (x[j] == 46) = false from beq_eq_false_iff_ne.2 (fun e => hdot (by rw [e]; rfl)))
                clear HD
                generalize (x.data.toList.take j).count 46 = n at *
                have C1 := rletter_any x[j]
                have C2 := rdigit_any x[j]
                cases hl1 : Nm.lettr x[j]
                · cases hf1 : Nm.figr x[j]
                  · by_cases hc : (x[j].toNat : Int) = 45
                    · have HK : Hid ((x.data.toList.take (j + 1)).all (Nm.plain [45, 46]) = true) := Lib.hid (by rw [HT.out, HA.out, HP.out, show x[j] = 45 from UInt8.toNat_inj.1 (Int.ofNat_inj.1 hc)]; rfl)
                      rw [hl1] at C1
                      rw [hf1] at C2
                      rw [hc] at C1 C2
                      clear hl1 hf1 hdot hdb
                      go_wp2_with (first | (go_at_call 51; refine (C1 _).mono ?_; rintro e w' ⟨rfl, rfl⟩) | (go_at_call 52; refine (C2 _).mono ?_; rintro e w' ⟨rfl, rfl⟩))
                      go_round
                      case rel => exact ⟨j + 1, by omega, HD2, by go_num, HK⟩
                      case measure => simp [intOf]; omega
                    · have H := Lib.hid (HFail.out (by
                        rw [bad_of, HF.out (by rw [HP.out, hl1, hf1, HNE.out, beq_eq_false_iff_ne.2 (fun e => hc (by rw [e]; rfl))]; rfl)]; rfl))
                      have hcb : ((x[j].toNat : Int) == 45) = false := by simpa using hc
                      rw [hl1] at C1
                      rw [hf1] at C2
                      clear hl1 hf1
                      go_wp2_with (first | (go_at_call 51; refine (C1 _).mono ?_; rintro e w' ⟨rfl, rfl⟩) | (go_at_call 52; refine (C2 _).mono ?_; rintro e w' ⟨rfl, rfl⟩))
                      go_ret
                      exact ⟨ret_bool H.out.symm, HB.out⟩
                  · have HK : Hid ((x.data.toList.take (j + 1)).all (Nm.plain [45, 46]) = true) := Lib.hid (by rw [HT.out, HA.out, HP.out, hl1, hf1]; rfl)
                    rw [hl1] at C1
                    rw [hf1] at C2
                    clear hl1 hf1
                    go_wp2_with (first | (go_at_call 51; refine (C1 _).mono ?_; rintro e w' ⟨rfl, rfl⟩) | (go_at_call 52; refine (C2 _).mono ?_; rintro e w' ⟨rfl, rfl⟩))
                    go_round
                    case rel => exact ⟨j + 1, by omega, HD2, by go_num, HK⟩
                    case measure => simp [intOf]; omega
                · have HK : Hid ((x.data.toList.take (j + 1)).all (Nm.plain [45, 46]) = true) := Lib.hid (by rw [HT.out, HA.out, HP.out, hl1]; rfl)
                  rw [hl1] at C1
                  clear hl1
                  go_wp2_with (first | (go_at_call 51; refine (C1 _).mono ?_; rintro e w' ⟨rfl, rfl⟩) | (go_at_call 52; refine (C2 _).mono ?_; rintro e w' ⟨rfl, rfl⟩))
                  go_round
                  case rel => exact ⟨j + 1, by omega, HD2, by go_num, HK⟩
                  case measure => simp [intOf]; omega
            · have e : x.data.toList.take j = x.data.toList := List.take_of_length_le (by rw [len_list]; omega)
              rw [e] at HA hcl ⊢
              clear e HD
              have HAll := Lib.hid (show Nm.allL (Nm.plain [45, 46]) x.data.toList = true from HA.out)
              by_cases hq : x.data.toList.count 46 = x.size
              · have H := Lib.hid (HFail.out (by rw [bad_of, decide_eq_true hq, Bool.or_true]))
                generalize x.data.toList.count 46 = n at *
                subst hq
                go_wp2
                go_ret
                exact ⟨ret_bool H.out.symm, HB.out⟩
              · have HK : Hid (NoneYet zs (fun x => Nm.bad x.data.toList) (k + 1)) := Lib.hid (fun i y hi hy => by
                  rcases Nat.lt_succ_iff_lt_or_eq.1 hi with h | rfl
                  · exact HN.out i y h hy
                  · rw [HX.out] at hy; obtain rfl := Option.some.inj hy
                    show Nm.bad _ = false
                    rw [bad_of, HAll.out, decide_eq_false hq]; rfl)
                generalize x.data.toList.count 46 = n at *
                go_wp2
                go_round
                case rel => exact ⟨k + 1, by omega, by go_num, HK⟩
                case measure => simp [intOf]; omega
        · have H := Lib.hid (show Nm.ref s.data.toList = true by rw [HR.out, any_none HN.out (by omega)]; rfl)
          go_wp2
          go_ret
          exact ⟨ret_bool H.out.symm, HB.out⟩
    · have H := Lib.hid (ref_few h2)
      generalize Nm.cut s = zs at *
      go_enter Tryz.func27, Tryz.ntmps27
      go_wp2_with fail
      refine CP.mono ?_
      rintro e w1 ⟨g, cap, rfl, hrow, hb⟩
      have HB := Lib.hid hb
      clear hb CP
      go_wp2_with fail
      go_ret
      exact ⟨ret_bool H.out.symm, HB.out⟩
  · have H := Lib.hid (ref_long h1)
    generalize Nm.cut s = zs at *
    go_enter Tryz.func27, Tryz.ntmps27
    go_wp2_with fail
    refine CP.mono ?_
    rintro e w1 ⟨g, cap, rfl, hrow, hb⟩
    have HB := Lib.hid hb
    clear hb CP
    go_wp2_with fail
    go_ret
    exact ⟨ret_bool H.out.symm, HB.out⟩
end Go.Proofs.YtjkneidoochfjaaGreatDoor
