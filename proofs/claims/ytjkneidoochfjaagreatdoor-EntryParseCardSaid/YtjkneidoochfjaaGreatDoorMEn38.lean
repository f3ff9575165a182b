/- An entry of bytes by the document's own words: cartageref10.Parse. -/
import Derived.Test.YtjkneidoochfjaaGreatDoorMEn36s
namespace Go.Proofs.YtjkneidoochfjaaGreatDoor
open Go Go.RowKit
/-- how the document's Parse ends -/
def RParseEPost (xs : List Nat) (w : World) (r : Ending) (w' : World) : Prop :=
  Below w.heap.size w w' ∧ (∀ k, En.parse xs = .bad k → r = .returned (.tuple #[.agg zR, .int .i64 (k : Int)])) ∧ (∀ en, En.parse xs = .ok en → ∃ cs U cu O co ts, r = .returned (.tuple #[.agg cs, .int .i64 0]) ∧ EnC w' en cs U cu O co ts ∧ cs.all (·.oneCell') = true)
theorem rparsee_bad {xs : List Nat} {w w' : World} {k : Nat} (hb : Below w.heap.size w w') (hp : En.parse xs = .bad k) {v : Value} (he : v = .tuple #[.agg zR, .int .i64 (k : Int)]) : RParseEPost xs w (.returned v) w' :=
  ⟨hb, fun k' hk => (by rw [hp] at hk; injection hk with hk; subst hk; rw [he]), fun en hk => (by rw [hp] at hk; cases hk)⟩
theorem rentz_empty : Tryz.prog.built 29 [] = some zR := by kernel_rfl
theorem rent3_built (x y z : Int) : Tryz.prog.built 29 [(0, .int .i64 x), (1, .int .i64 y), (2, .int .i64 z)] = some #[.int .i64 x, .int .i64 y, .int .i64 z, .slice none 0 0, .slice none 0 0] := by kernel_rfl
theorem En.parse_parts {xs : List Nat} (hl : xs.length ≤ 2800) {e : Nat} (h : En.parts xs = .bad e) : En.parse xs = .bad e := by
  unfold En.parse
  rw [if_neg (by omega), h]
theorem Oc.step_pos {c e : Nat} {ys : List Nat} (h : Oc.step c ys = .bad e) : 0 < e := by
  unfold Oc.step at h
  repeat' split at h
  all_goals first | (injection h with h; omega) | (cases h)
theorem Oc.got_pos : ∀ {s : List Nat} {ys : List Nat} {e : Nat}, Oc.got s ys = .bad e → 0 < e
  | [], ys, e, h => by cases h
  | c :: s, ys, e, h => by
    unfold Oc.got at h
    cases hs : Oc.step c ys with
    | bad k => rw [hs] at h; injection h with h; subst h; exact Oc.step_pos hs
    | ok n x k =>
      rw [hs] at h
      dsimp only at h
      cases hg : Oc.got s (ys.drop k) with
      | bad k2 => rw [hg] at h; injection h with h; subst h; exact Oc.got_pos hg
      | ok l r => rw [hg] at h; cases h
theorem En.three_short {ys r : List Nat} {q : List Nat × List Nat × List Nat} (h : En.three ys = .ok q r) : q.1.length ≤ ys.length ∧ r.length ≤ ys.length := by
  unfold En.three at h
  cases h1 : En.txt ys with
  | bad e => rw [h1] at h; cases h
  | ok x r1 =>
    have a1 := En.txt_short h1
    rw [h1] at h
    dsimp only at h
    cases h2 : En.oid r1 with
    | bad e => rw [h2] at h; cases h
    | ok a r2 =>
      have a2 := En.oid_short h2
      rw [h2] at h
      dsimp only at h
      cases h3 : En.oid r2 with
      | bad e => rw [h3] at h; cases h
      | ok b r3 =>
        have a3 := En.oid_short h3
        rw [h3] at h
        injection h with h4 h5
        subst h4 h5
        exact ⟨a1.1, by omega⟩
/-- what the loads of a read text need -/
structure SL (w : World) (g2 p bb : Nat) (vU : Value) (fs : List Fld) (w' : World) : Prop where
  bel : Below w.heap.size w w'
  c3 : w'.cell? ⟨g2, p, none⟩ = some vU
  f : ∀ i (h : i < fs.length), w'.cell? ⟨bb, 0 + 2 * i + 1, none⟩ = some (.slice fs[i].A fs[i].l fs[i].c)
theorem SL.below {w w' w'' : World} {g2 p bb : Nat} {vU : Value} {fs : List Fld} (h : SL w g2 p bb vU fs w') (hb : Below w'.heap.size w' w'') : SL w g2 p bb vU fs w'' :=
  ⟨below_next h.bel hb, (hb.cell (p := ⟨g2, p, none⟩) (block_lt_of_cell h.c3)).trans h.c3, fun i hi => (hb.cell (p := ⟨bb, 0 + 2 * i + 1, none⟩) (block_lt_of_cell (h.f i hi))).trans (h.f i hi)⟩
theorem SL.grown {w w' w'' : World} {g2 p bb : Nat} {vU : Value} {fs : List Fld} {row : Option Nat} (h : SL w g2 p bb vU fs w') (hg : w'.grownBy w'' row) (h1 : some g2 ≠ row) (h2 : some bb ≠ row) (h3 : ∀ g, row = some g → w.heap.size ≤ g) : SL w g2 p bb vU fs w'' :=
  ⟨⟨hg.os.trans h.bel.os, hg.tape.trans h.bel.tape, hg.output.trans h.bel.output, Nat.le_trans h.bel.size hg.size, fun b hb => (hg.block b (Nat.lt_of_lt_of_le hb h.bel.size) (fun e => by have := h3 b e.symm; omega)).trans (h.bel.block b hb)⟩, hg.cell h.c3 h1, fun i hi => hg.cell (h.f i hi) h2⟩
theorem fs_front {fs : List Fld} {a b c d : Nat} (h : fs.map Oc.says = ([(a, []), (b, []), (c, []), (d, [])] : List (Nat × List Nat)).map Oc.lays) : ∃ f0 f1 f2 f3, fs = [f0, f1, f2, f3] ∧ f0.n = (a : Int) ∧ f1.n = (b : Int) ∧ f2.n = (c : Int) ∧ f3.n = (d : Int) := by
  match fs, h with
  | [f0, f1, f2, f3], h =>
    simp only [List.map_cons, List.map_nil, List.cons.injEq, and_true] at h
    obtain ⟨h0, h1, h2, h3⟩ := h
    injection h0 with h0 _
    injection h1 with h1 _
    injection h2 with h2 _
    injection h3 with h3 _
    exact ⟨f0, f1, f2, f3, rfl, h0, h1, h2, h3⟩
  | [], h => cases h
  | [_], h => simp at h
  | [_, _], h => simp at h
  | [_, _, _], h => simp at h
  | _ :: _ :: _ :: _ :: _ :: _, h => simp at h
theorem fs_three {fs : List Fld} {x a b : List Nat} (h : fs.map Oc.says = ([(0, x), (0, a), (0, b)] : List (Nat × List Nat)).map Oc.lays) : ∃ f0 f1 f2, fs = [f0, f1, f2] ∧ f0.bs = x ∧ f1.bs = a ∧ f2.bs = b := by
  match fs, h with
  | [f0, f1, f2], h =>
    simp only [List.map_cons, List.map_nil, List.cons.injEq, and_true] at h
    obtain ⟨h0, h1, h2⟩ := h
    injection h0 with _ h0
    injection h1 with _ h1
    injection h2 with _ h2
    exact ⟨f0, f1, f2, rfl, h0, h1, h2⟩
  | [], h => cases h
  | [_], h => simp at h
  | [_, _], h => simp at h
  | _ :: _ :: _ :: _ :: _, h => simp at h
theorem fs_oneE {fs : List Fld} {q : Nat × List Nat} (h : fs.map Oc.says = [q].map Oc.lays) : ∃ f, fs = [f] ∧ f.n = (q.1 : Int) ∧ f.bs = q.2 := by
  match fs, h with
  | [f], h =>
    simp only [List.map_cons, List.map_nil, List.cons.injEq, and_true] at h
    injection h with h0 h1
    exact ⟨f, rfl, h0, h1⟩
  | [], h => cases h
  | _ :: _ :: _, h => simp at h
set_option maxRecDepth 100000 in
set_option maxHeartbeats 16000000 in
theorem rparseE_any (xs : List Nat) (A : Option Addr) (c : Nat) (w : World) (hv : Rd w (.slice A xs.length c) xs) (hby : Oc.bytes xs) :
    Calls Tryz.prog 18 #[.slice A xs.length c] w (RParseEPost xs w) := by
  obtain ⟨w1, hw1⟩ : ∃ w1, w1 = w.alloc (.cells zR 29) := ⟨_, rfl⟩
  have b1 : Below w.heap.size w w1 := hw1 ▸ (Below.refl _ _).alloc (Nat.le_refl _) _
  have hr1 : Blk w1 w.heap.size 29 zR := hw1 ▸ Blk.new w _ _
  have HB1 := Lib.hid b1
  have HR1 := Lib.hid hr1
  have HV := Lib.hid hv
  have HY := Lib.hid hby
  obtain ⟨ip, hip, hpz, hps, hpb⟩ := info_parts rup_info
  have HIP : Hid (_ ∧ _ ∧ _ ∧ _) := Lib.hid ⟨hip, hpz, hps, hpb⟩
  obtain ⟨iq, hip2, hpz2, hps2, hpb2⟩ := info_parts bts_info
  have HIQ : Hid (_ ∧ _ ∧ _ ∧ _) := Lib.hid ⟨hip2, hpz2, hps2, hpb2⟩
  clear hip hpz hps hpb hip2 hpz2 hps2 hpb2
  obtain ⟨n, hn⟩ : ∃ n, n = xs.length := ⟨_, rfl⟩
  rw [← hn] at HV ⊢
  have HN := Lib.hid hn
  have e1 := hw1.symm
  clear hv hby b1 hr1 hw1 hn
  go_enter Tryz.func18, Tryz.ntmps18
  by_cases hl : 2800 < n
  · have i1 : (2800 : Int) < (n : Int) := by omega
    have HP : Hid (En.parse xs = .bad 13) := Lib.hid (by unfold En.parse; rw [if_pos (by rw [← HN.out]; exact hl)])
    clear hl
    go_wp2_with (with_reducible (show wpList _ _ _ (Oper.mk _ (Op.build 29 _) _ _ _ _ :: _) _ _); refine pause ?_)
    unfold Paused
    refine wpList_buildK (by rfl) 29 _ (by rfl) [] (by simp) zR rentz_empty ?_
    go_wp2_with (with_reducible (show wpList _ _ _ (Oper.mk _ (Op.store 29 _ _) _ _ _ _ :: _) _ _); refine pause ?_)
    unfold Paused
    refine wpList_store_row (by rfl) 29 (.tmp 2) (.tmp 20) (by rfl) w.heap.size zR (by rfl) (by rfl) 29 zR HR1.out (rent5_load rfl) (by rfl) (by kernel_rfl) ?_
    have HZ : Hid (Blk (w1.setRow w.heap.size zR) w.heap.size 29 zR ∧ Below w.heap.size w (w1.setRow w.heap.size zR)) := Lib.hid ⟨(HR1.out).row _, below_row HB1.out (Nat.le_refl _) _⟩
    generalize w1.setRow w.heap.size zR = w9 at HZ ⊢
    simp only [Act.put]
    go_wp2
    exact bodyPost_ret (v := .tuple #[.agg zR, .int .i64 13]) (results_cell_row2 rfl _ _ w.heap.size 29 zR _ _ (by rfl) (by rfl) HZ.out.1 (by first | exact Tryz.underlying29 | kernel_rfl) rfl (rent5_load rfl)) rfl (rparsee_bad HZ.out.2 HP.out rfl)
  have i1 : ¬ (2800 : Int) < (n : Int) := by omega
  have HL : Hid (n ≤ 2800) := Lib.hid (by omega)
  clear hl
  have hsh : shN ⟨#[98, 113, 98, 98]⟩ = [98, 113, 98, 98] := by rfl
  have CR := restG_any ⟨#[98, 113, 98, 98]⟩ xs A n c w w1 HB1.out (by decide) (by kernel_rfl) HV.out HY.out (by rw [← HN.out]; have := HL.out; omega)
  rw [hsh] at CR
  clear hsh
  go_wp2_with (go_at_call 37; refine pause ?_)
  unfold Paused
  refine CR.mono ?_
  rintro r w3 ⟨hb3, hbad, hok⟩
  have HB3 := Lib.hid (below_next HB1.out hb3)
  have HR3 := Lib.hid (HR1.out.below hb3 HR1.out.lt)
  have hgf := En.got_front xs
  cases hf : En.front xs with
  | bad k =>
    rw [hf] at hgf
    obtain rfl := hbad k hgf
    have i2 : ¬ ((k : Nat) : Int) = 0 := by have := Oc.got_pos hgf; omega
    have HP : Hid (En.parse xs = .bad k) := Lib.hid (En.parse_parts (by rw [← HN.out]; exact HL.out) (by rw [En.parts_front, hf]))
    clear hbad hok hgf hf hb3 CR HB1 HR1 e1
    clear w1
    go_wp2_with (with_reducible (show wpList _ _ _ (Oper.mk _ (Op.build 29 _) _ _ _ _ :: _) _ _); refine pause ?_)
    unfold Paused
    refine wpList_buildK (by rfl) 29 _ (by rfl) [] (by simp) zR rentz_empty ?_
    go_wp2_with (with_reducible (show wpList _ _ _ (Oper.mk _ (Op.store 29 _ _) _ _ _ _ :: _) _ _); refine pause ?_)
    unfold Paused
    refine wpList_store_row (by rfl) 29 (.tmp 2) (.tmp 29) (by rfl) w.heap.size zR (by rfl) (by rfl) 29 zR HR3.out (rent5_load rfl) (by rfl) (by kernel_rfl) ?_
    have HZ : Hid (Blk (w3.setRow w.heap.size zR) w.heap.size 29 zR ∧ Below w.heap.size w (w3.setRow w.heap.size zR)) := Lib.hid ⟨(HR3.out).row _, below_row HB3.out (Nat.le_refl _) _⟩
    generalize w3.setRow w.heap.size zR = w9 at HZ ⊢
    simp only [Act.put]
    go_wp2
    exact bodyPost_ret (v := .tuple #[.agg zR, .int .i64 ((k : Nat) : Int)]) (results_cell_row2 rfl _ _ w.heap.size 29 zR _ _ (by rfl) (by rfl) HZ.out.1 (by first | exact Tryz.underlying29 | kernel_rfl) rfl (rent5_load rfl)) rfl (rparsee_bad HZ.out.2 HP.out rfl)
  | ok q r1 =>
  obtain ⟨n1, n2, n3, nu⟩ := q
  rw [hf] at hgf
  obtain ⟨A1, bb, c1, fs, A2, c2, rfl, ⟨rfl, hbb⟩, hF, hsy, hrd, _⟩ := hok _ _ hgf
  obtain ⟨f0, f1, f2, f3, rfl, e10, e11, e12, e13⟩ := fs_front hsy
  obtain ⟨g1, g2, g3, g4, g5⟩ := En.front_good HY.out hf
  have HC0 : Hid (∀ w', Below w3.heap.size w3 w' → w'.cell? ⟨bb, 0, none⟩ = some (.int .i64 (n1 : Int))) := Lib.hid (fun w' hb => by have h1 := (hF.below hb (Nat.le_refl _)).n 0 (by simp); rw [show ([f0, f1, f2, f3] : List Fld)[0].n = f0.n from rfl, e10] at h1; exact h1)
  have HC1 : Hid (∀ w', Below w3.heap.size w3 w' → w'.cell? ⟨bb, 2, none⟩ = some (.int .i64 (n2 : Int))) := Lib.hid (fun w' hb => by have h1 := (hF.below hb (Nat.le_refl _)).n 1 (by simp); rw [show ([f0, f1, f2, f3] : List Fld)[1].n = f1.n from rfl, e11] at h1; exact h1)
  have HC2 : Hid (∀ w', Below w3.heap.size w3 w' → w'.cell? ⟨bb, 4, none⟩ = some (.int .i64 (n3 : Int))) := Lib.hid (fun w' hb => by have h1 := (hF.below hb (Nat.le_refl _)).n 2 (by simp); rw [show ([f0, f1, f2, f3] : List Fld)[2].n = f2.n from rfl, e12] at h1; exact h1)
  have HC3 : Hid (∀ w', Below w3.heap.size w3 w' → w'.cell? ⟨bb, 6, none⟩ = some (.int .i64 (nu : Int))) := Lib.hid (fun w' hb => by have h1 := (hF.below hb (Nat.le_refl _)).n 3 (by simp); rw [show ([f0, f1, f2, f3] : List Fld)[3].n = f3.n from rfl, e13] at h1; exact h1)
  have HRD := Lib.hid hrd
  have HR5 := Lib.hid g5
  have HNU : Hid (nu ≤ 255) := Lib.hid g4
  have HLR : Hid (r1.length ≤ 2800) := Lib.hid (by have := En.front_short hf; rw [← HN.out] at this; have := HL.out; omega)
  have HPT : Hid (En.parts xs = match En.many En.rdUp nu [] r1 with
      | .bad e => .bad e
      | .ok us r => match En.num 98 r with
        | .bad e => .bad e
        | .ok no r => match En.many En.txt no [] r with
          | .bad e => .bad e
          | .ok os r => .ok ⟨n1, n2, n3, us, os⟩ r) := Lib.hid (by rw [En.parts_front, hf]; rfl)
  clear hbad hok hgf hf hb3 CR HB1 HR1 e1 hbb hF hsy hrd e10 e11 e12 e13 g1 g2 g3 g4 g5
  clear w1
  simp only [List.length_cons, List.length_nil, Nat.zero_add, Nat.reduceAdd]
  go_wp2_with fail
  have HD : Hid (Below w3.heap.size w3 w3.drew) := Lib.hid (below_drewN (Below.refl _ _) 1)
  refine wp_region_held (S := fun w' => Below w3.heap.size w3 w') (by kernel_rfl) ?_
  change wpAnyH _ _ _ _ _ _ _ _ w3.drew
  refine wpAnyH_take (i := 0) (v := ?_) rfl (by kernel_rfl) (by kernel_rfl) (by kernel_rfl) (fun _ _ _ h => h) (Or.inl ⟨by rfl, ?_⟩) HD.out ?_
  rotate_left
  · intro w' hS; go_simp; with_reducible rfl
  try simp only [Act.put, List.getElem_toArray, List.getElem_cons_zero, List.setIfInBounds_toArray, List.set_cons_zero, List.set_cons_succ]
  refine wpAnyH_take (i := 1) (v := ?_) rfl (by kernel_rfl) (by kernel_rfl) (by kernel_rfl) (fun _ _ _ h => h) (Or.inl ⟨by rfl, ?_⟩) HD.out ?_
  rotate_left
  · intro w' hS; go_simp; with_reducible rfl
  try simp only [Act.put, List.getElem_toArray, List.getElem_cons_zero, List.getElem_cons_succ, List.setIfInBounds_toArray, List.set_cons_zero, List.set_cons_succ]
  refine wpAnyH_take (i := 2) (v := ?_) rfl (by kernel_rfl) (by kernel_rfl) (by kernel_rfl) (fun _ _ _ h => h) (Or.inl ⟨by rfl, ?_⟩) HD.out ?_
  rotate_left
  · intro w' hS; go_simp; with_reducible rfl
  try simp only [Act.put, List.getElem_toArray, List.getElem_cons_zero, List.getElem_cons_succ, List.setIfInBounds_toArray, List.set_cons_zero, List.set_cons_succ]
  refine wpAnyH_take (i := 3) (v := ?_) rfl (by kernel_rfl) (by kernel_rfl) (by kernel_rfl) (fun _ _ _ h => h) (Or.inl ⟨by rfl, ?_⟩) HD.out ?_
  rotate_left
  · intro w' hS; have h0 := HC0.out _ hS; go_simp; with_reducible rfl
  try simp only [Act.put, List.getElem_toArray, List.getElem_cons_zero, List.getElem_cons_succ, List.setIfInBounds_toArray, List.set_cons_zero, List.set_cons_succ]
  refine wpAnyH_take (i := 4) (v := ?_) rfl (by kernel_rfl) (by kernel_rfl) (by kernel_rfl) (fun _ _ _ h => h) (Or.inl ⟨by rfl, ?_⟩) HD.out ?_
  rotate_left
  · intro w' hS; go_simp; with_reducible rfl
  try simp only [Act.put, List.getElem_toArray, List.getElem_cons_zero, List.getElem_cons_succ, List.setIfInBounds_toArray, List.set_cons_zero, List.set_cons_succ]
  refine wpAnyH_take (i := 5) (v := ?_) rfl (by kernel_rfl) (by kernel_rfl) (by kernel_rfl) (fun _ _ _ h => h) (Or.inl ⟨by rfl, ?_⟩) HD.out ?_
  rotate_left
  · intro w' hS; go_simp; with_reducible rfl
  try simp only [Act.put, List.getElem_toArray, List.getElem_cons_zero, List.getElem_cons_succ, List.setIfInBounds_toArray, List.set_cons_zero, List.set_cons_succ]
  refine wpAnyH_take (i := 6) (v := ?_) rfl (by kernel_rfl) (by kernel_rfl) (by kernel_rfl) (fun _ _ _ h => h) (Or.inl ⟨by rfl, ?_⟩) HD.out ?_
  rotate_left
  · intro w' hS; go_simp; with_reducible rfl
  try simp only [Act.put, List.getElem_toArray, List.getElem_cons_zero, List.getElem_cons_succ, List.setIfInBounds_toArray, List.set_cons_zero, List.set_cons_succ]
  refine wpAnyH_take (i := 7) (v := ?_) rfl (by kernel_rfl) (by kernel_rfl) (by kernel_rfl) (fun _ _ _ h => h) (Or.inl ⟨by rfl, ?_⟩) HD.out ?_
  rotate_left
  · intro w' hS; have h0 := HC1.out _ hS; go_simp; with_reducible rfl
  try simp only [Act.put, List.getElem_toArray, List.getElem_cons_zero, List.getElem_cons_succ, List.setIfInBounds_toArray, List.set_cons_zero, List.set_cons_succ]
  refine wpAnyH_take (i := 8) (v := ?_) rfl (by kernel_rfl) (by kernel_rfl) (by kernel_rfl) (fun _ _ _ h => h) (Or.inl ⟨by rfl, ?_⟩) HD.out ?_
  rotate_left
  · intro w' hS; go_simp; with_reducible rfl
  try simp only [Act.put, List.getElem_toArray, List.getElem_cons_zero, List.getElem_cons_succ, List.setIfInBounds_toArray, List.set_cons_zero, List.set_cons_succ]
  refine wpAnyH_take (i := 9) (v := ?_) rfl (by kernel_rfl) (by kernel_rfl) (by kernel_rfl) (fun _ _ _ h => h) (Or.inl ⟨by rfl, ?_⟩) HD.out ?_
  rotate_left
  · intro w' hS; go_simp; with_reducible rfl
  try simp only [Act.put, List.getElem_toArray, List.getElem_cons_zero, List.getElem_cons_succ, List.setIfInBounds_toArray, List.set_cons_zero, List.set_cons_succ]
  refine wpAnyH_take (i := 10) (v := ?_) rfl (by kernel_rfl) (by kernel_rfl) (by kernel_rfl) (fun _ _ _ h => h) (Or.inl ⟨by rfl, ?_⟩) HD.out ?_
  rotate_left
  · intro w' hS; go_simp; with_reducible rfl
  try simp only [Act.put, List.getElem_toArray, List.getElem_cons_zero, List.getElem_cons_succ, List.setIfInBounds_toArray, List.set_cons_zero, List.set_cons_succ]
  refine wpAnyH_take (i := 11) (v := ?_) rfl (by kernel_rfl) (by kernel_rfl) (by kernel_rfl) (fun _ _ _ h => h) (Or.inl ⟨by rfl, ?_⟩) HD.out ?_
  rotate_left
  · intro w' hS; have h0 := HC2.out _ hS; go_simp; with_reducible rfl
  try simp only [Act.put, List.getElem_toArray, List.getElem_cons_zero, List.getElem_cons_succ, List.setIfInBounds_toArray, List.set_cons_zero, List.set_cons_succ]
  refine wpAnyH_take (i := 12) (v := .agg #[.int .i64 (n1 : Int), .int .i64 (n2 : Int), .int .i64 (n3 : Int), .slice none 0 0, .slice none 0 0]) rfl (by kernel_rfl) (by kernel_rfl) (by kernel_rfl) (fun _ _ _ h => h) (Or.inl ⟨by rfl, fun w' hS => exec_buildZ 29 _ rfl [(0, .int .i64 (n1 : Int)), (1, .int .i64 (n2 : Int)), (2, .int .i64 (n3 : Int))] (by kernel_rfl) _ (rent3_built _ _ _)⟩) HD.out ?_
  try simp only [Act.put, List.getElem_toArray, List.getElem_cons_zero, List.getElem_cons_succ, List.setIfInBounds_toArray, List.set_cons_zero, List.set_cons_succ]
  refine all_one (i := 13) (by kernel_rfl) rfl (by rfl) (fun K hK => ?_)
  go_simp
  have HS4 : Hid (Below w3.heap.size w3 (w3.drew.alloc (.cells zR 29))) := Lib.hid (below_next HD.out ((Below.refl _ _).alloc (Nat.le_refl _) _))
  have HX4 : Hid (Blk (w3.drew.alloc (.cells zR 29)) w3.heap.size 29 zR) := Lib.hid (Blk.new w3.drew 29 zR)
  refine hK _ _ HS4.out ?_; clear hK K
  try simp only [Act.put, List.getElem_toArray, List.getElem_cons_zero, List.getElem_cons_succ, List.setIfInBounds_toArray, List.set_cons_zero, List.set_cons_succ]
  change wpAnyH _ _ _ _ _ _ _ _ (w3.drew.alloc (.cells zR 29))
  obtain ⟨cs0, hcs0⟩ : ∃ cs0 : Array Value, cs0 = #[.int .i64 (n1 : Int), .int .i64 (n2 : Int), .int .i64 (n3 : Int), .slice none 0 0, .slice none 0 0] := ⟨_, rfl⟩
  have HS5 : Hid (Below w3.heap.size w3 ((w3.drew.alloc (.cells zR 29)).setRow w3.heap.size cs0)) := Lib.hid (below_row HS4.out (by show w3.heap.size ≤ w3.heap.size; exact Nat.le_refl _) _)
  have HRP : Hid (RdP w ((w3.drew.alloc (.cells zR 29)).setRow w3.heap.size cs0) w.heap.size w3.heap.size (n1 : Int) (n2 : Int) (n3 : Int) (.slice none 0 0) [] (.slice none 0 0) []) := Lib.hid ⟨below_next HB3.out HS5.out, HR3.out.below HS5.out HR3.out.lt, by rw [← hcs0]; exact HX4.out.row _, World.ownsRow_nil _ _ _ _, World.ownsRow_nil _ _ _ _, fun t ht => (by cases ht), fun u hu => (by cases hu), Nat.le_refl _, by have := HR3.out.lt; exact this, by rw [size_setRow]; simp⟩
  refine all_one (i := 14) (by kernel_rfl) rfl (by rfl) (fun K hK => ?_)
  refine wp_store_row 29 (.tmp 7) (.tmp 43) (by rfl) w3.heap.size cs0 (by rfl) (by rw [hcs0]; rfl) 29 zR HX4.out (rent5_load (by rw [hcs0]; rfl)) (by rw [hcs0]; rfl) (by rw [hcs0]; simp [Value.oneCell']) ?_
  refine hK _ _ HS5.out ?_; clear hK K
  try simp only [Act.put, List.getElem_toArray, List.getElem_cons_zero, List.getElem_cons_succ]
  generalize (w3.drew.alloc (.cells zR 29)).setRow w3.heap.size cs0 = w4 at HS5 HRP ⊢
  generalize w3.heap.size = g2 at HRP ⊢
  refine wpAnyH_done (by kernel_rfl) ?_ _
  have h6 := HC3.out _ HS5.out
  clear HC0 HC1 HC2 HC3 HD HS4 HX4 hcs0 HS5 HB3 HR3
  clear cs0 w3
  go_wp2
  clear h6
  go_loopw [5, 9] (fun vr i wr => ∃ k : Nat, k ≤ nu ∧ i = .int .i64 k ∧ ∃ vU us A2 zs c2, vr = .slice A2 zs.length c2 ∧ Hid (RdP w wr w.heap.size g2 (n1 : Int) (n2 : Int) (n3 : Int) vU us (.slice none 0 0) []) ∧ Hid (Rd w (.slice A2 zs.length c2) zs ∧ Oc.bytes zs ∧ us.length = k ∧ En.many En.rdUp (nu - k) us zs = En.many En.rdUp nu [] r1 ∧ zs.length ≤ 2800 ∧ ∀ u ∈ us, u.ref.size ≤ 3000)) (fun _ i _ => nu - (intOf i).toNat)
  case atStart => exact ⟨0, Nat.zero_le _, rfl, _, [], A2, r1, c2, rfl, HRP, Lib.hid ⟨HRD.out, HR5.out, rfl, rfl, HLR.out, fun u hu => by cases hu⟩⟩
  case round =>
    obtain ⟨k, hk, rfl, vU, us, A2, zs, c2, rfl, HRk, HU⟩ := hrel
    by_cases hlt : k < nu
    · have i1 : ((k : Nat) : Int) < nu := by omega
      have i2 : (0 : Int) ≤ ((k : Nat) : Int) := by omega
      have i3 : ((nu : Nat) : Int) ≤ 255 := by have := HNU.out; omega
      have HLT : Hid (k + 1 ≤ nu) := Lib.hid hlt
      have hsh : shN ⟨#[116, 111, 111]⟩ = [116, 111, 111] := by rfl
      have CR := restG_any ⟨#[116, 111, 111]⟩ zs A2 zs.length c2 w wr HRk.out.bel (by decide) (by kernel_rfl) HU.out.1 HU.out.2.1 (by have := HU.out.2.2.2.2.1; omega)
      rw [hsh] at CR
      obtain ⟨nz, hnz⟩ : ∃ n, n = zs.length := ⟨_, rfl⟩
      rw [← hnz] at CR ⊢
      clear hsh hk hlt hnz
      go_wp2_with (go_at_call 37; refine pause ?_)
      unfold Paused
      refine CR.mono ?_
      rintro r w5 ⟨hb5, hbad, hok⟩
      have HR5 := Lib.hid (HRk.out.below hb5)
      have hgf := En.got_three zs
      have hru := En.rdUp_three zs
      obtain ⟨m, hm⟩ : ∃ m, nu - k = m + 1 := ⟨nu - k - 1, by have := HLT.out; omega⟩
      cases hf : En.three zs with
      | bad q =>
        rw [hf] at hgf hru
        dsimp only at hru
        obtain rfl := hbad q hgf
        have i4 : ¬ ((q : Nat) : Int) = 0 := by have := Oc.got_pos hgf; omega
        have HP : Hid (En.parse xs = .bad q) := Lib.hid (En.parse_parts (by rw [← HN.out]; exact HL.out) (by
          have h1 := HU.out.2.2.2.1
          rw [hm, En.many_bad hru] at h1
          rw [HPT.out, ← h1]))
        clear hbad hok hgf hru hf hb5 CR hm
        go_wp2_with (with_reducible (show wpList _ _ _ (Oper.mk _ (Op.build 29 _) _ _ _ _ :: _) _ _); refine pause ?_)
        unfold Paused
        refine wpList_buildK (by rfl) 29 _ (by rfl) [] (by simp) zR rentz_empty ?_
        go_wp2_with (with_reducible (show wpList _ _ _ (Oper.mk _ (Op.store 29 _ _) _ _ _ _ :: _) _ _); refine pause ?_)
        unfold Paused
        refine wpList_store_row (by rfl) 29 (.tmp 2) (.tmp 61) (by rfl) w.heap.size zR (by rfl) (by rfl) 29 zR HR5.out.r1 (rent5_load rfl) (by rfl) (by kernel_rfl) ?_
        have HZ : Hid (Blk (w5.setRow w.heap.size zR) w.heap.size 29 zR ∧ Below w.heap.size w (w5.setRow w.heap.size zR)) := Lib.hid ⟨(HR5.out.r1).row _, below_row HR5.out.bel (Nat.le_refl _) _⟩
        generalize w5.setRow w.heap.size zR = w9 at HZ ⊢
        simp only [Act.put]
        go_wp2
        exact bodyPost_ret (v := .tuple #[.agg zR, .int .i64 ((q : Nat) : Int)]) (results_cell_row2 rfl _ _ w.heap.size 29 zR _ _ (by rfl) (by rfl) HZ.out.1 (by first | exact Tryz.underlying29 | kernel_rfl) rfl (rent5_load rfl)) rfl (rparsee_bad HZ.out.2 HP.out rfl)
      | ok q z1 =>
      obtain ⟨tx, o1, o2⟩ := q
      rw [hf] at hgf hru
      dsimp only at hru
      obtain ⟨A1, bb, c1, fs, A3, c3, rfl, ⟨rfl, hbb⟩, hF, hsy, hrd, hfr⟩ := hok _ _ hgf
      obtain ⟨f0, f1, f2, rfl, e10, e11, e12⟩ : ∃ f0 f1 f2, fs = [f0, f1, f2] ∧ f0.bs = tx ∧ f1.bs = o1 ∧ f2.bs = o2 := fs_three hsy
      obtain ⟨d1, d2, d3, d4⟩ := En.three_good HU.out.2.1 hf
      obtain ⟨s1, s2⟩ := En.three_short hf
      obtain ⟨u, hu⟩ : ∃ u : En.Up, u = ⟨textOf tx, o1, o2⟩ := ⟨_, rfl⟩
      have HFU : Hid (u.Fit) := Lib.hid (by rw [hu]; exact ⟨d1, d2⟩)
      have HSZ : Hid (u.ref.size ≤ 3000) := Lib.hid (by rw [hu]; show (textOf tx).size ≤ 3000; rw [textOf_size]; have h1 := HU.out.2.2.2.2.1; have h2 : tx.length ≤ zs.length := s1; omega)
      have HMN : Hid (En.many En.rdUp (nu - (k + 1)) (us ++ [u]) z1 = En.many En.rdUp nu [] r1) := Lib.hid (by rw [← HU.out.2.2.2.1, hm, En.many_next hru, show nu - (k + 1) = m by omega, hu])
      have HZ1 : Hid (Rd w (.slice A3 z1.length c3) z1 ∧ Oc.bytes z1 ∧ z1.length ≤ 2800) := Lib.hid ⟨hrd, d4, by have h1 := HU.out.2.2.2.2.1; omega⟩
      have HUL := Lib.hid HU.out.2.2.1
      have HUS := Lib.hid HU.out.2.2.2.2.2
      have l0 : f0.l = tx.length := by rw [← e10]; exact ((hF.r f0 (by simp)).2).symm
      have l1 : f1.l = 32 := by rw [← (hF.r f1 (by simp)).2, e11]; exact d1.1
      have l2 : f2.l = 32 := by rw [← (hF.r f2 (by simp)).2, e12]; exact d2.1
      have HT0 : Hid (Rd w (.slice f0.A f0.l f0.c) tx) := Lib.hid (by rw [← e10]; exact hfr f0 (by simp))
      have HT1 : Hid (Rd w (.slice f1.A 32 f1.c) o1) := Lib.hid (by rw [← l1, ← e11]; exact hfr f1 (by simp))
      have HT2 : Hid (Rd w (.slice f2.A 32 f2.c) o2) := Lib.hid (by rw [← l2, ← e12]; exact hfr f2 (by simp))
      have HO1 : Hid (Id32 o1 ∧ Id32 o2) := Lib.hid ⟨d1, d2⟩
      have HUE := Lib.hid hu
      have HBB : Hid (g2 < bb ∧ ∀ g, vU.ownBlock = some g → g < bb ∧ w.heap.size ≤ g ∧ g2 < g) := Lib.hid ⟨by have := HRk.out.ord; omega, fun g hg => by have h1 := HRk.out.ups.lt g hg; have h2 := HRk.out.ord; omega⟩
      have HSL : Hid (SL w g2 3 bb vU [f0, f1, f2] w5) := Lib.hid ⟨HR5.out.bel, HR5.out.box.cell 3, fun i hi => hF.s i hi⟩
      have HL1 := Lib.hid l1
      have HL2 := Lib.hid l2
      clear hbad hok hgf hru hf hb5 CR hm hbb hF hsy hrd hfr e10 e11 e12 d1 d2 d3 d4 s1 s2 hu HRk HU l0 l1 l2
      simp only [List.length_cons, List.length_nil, Nat.zero_add, Nat.reduceAdd]
      go_wp2_with fail
      have HSX : Hid (SL w g2 3 bb vU [f0, f1, f2] w5.drew) := Lib.hid (HSL.out.below (below_drewN (Below.refl _ w5) 1))
      have HR6 : Hid (RdP w w5.drew w.heap.size g2 (n1 : Int) (n2 : Int) (n3 : Int) vU us (.slice none 0 0) []) := Lib.hid (HR5.out.below (below_drewN (Below.refl _ w5) 1))
      clear HSL HR5
      refine wp_region_upto (S := SL w g2 3 bb vU [f0, f1, f2]) (b := 21) (by kernel_rfl) ?_
      change Upto _ _ _ _ _ _ _ _ _ w5.drew
      have HSX0 := HSX
      generalize w5.drew = w6 at HSX HSX0 HR6 ⊢
      clear w5
      refine Upto.takeY (i := 0) (v := ?_) rfl (by kernel_rfl) (by kernel_rfl) (by kernel_rfl) (by kernel_rfl) (fun _ _ _ h => h) (Or.inl ⟨by rfl, ?_⟩) (fun _ => HSX.out) ?_
      rotate_left
      · intro w' _; go_simp; with_reducible rfl
      try simp only [Act.put, List.getElem_toArray, List.getElem_cons_zero, List.setIfInBounds_toArray, List.set_cons_zero, List.set_cons_succ]
      refine Upto.take (i := 1) (v := ?_) rfl (by kernel_rfl) (by kernel_rfl) (by kernel_rfl) (by kernel_rfl) (fun _ _ _ h => h) (Or.inl ⟨by rfl, ?_⟩) HSX.out ?_
      rotate_left
      · intro w' hS; have h0 := hS.c3; go_simp; with_reducible rfl
      try simp only [Act.put, List.getElem_toArray, List.getElem_cons_zero, List.getElem_cons_succ, List.setIfInBounds_toArray, List.set_cons_zero, List.set_cons_succ]
      refine Upto.takeY (i := 2) (v := ?_) rfl (by kernel_rfl) (by kernel_rfl) (by kernel_rfl) (by kernel_rfl) (fun _ _ _ h => h) (Or.inl ⟨by rfl, ?_⟩) (fun _ => HSX.out) ?_
      rotate_left
      · intro w' _; go_simp; with_reducible rfl
      try simp only [Act.put, List.getElem_toArray, List.getElem_cons_zero, List.getElem_cons_succ, List.setIfInBounds_toArray, List.set_cons_zero, List.set_cons_succ]
      refine Upto.takeY (i := 3) (v := ?_) rfl (by kernel_rfl) (by kernel_rfl) (by kernel_rfl) (by kernel_rfl) (fun _ _ _ h => h) (Or.inl ⟨by rfl, ?_⟩) (fun _ => HSX.out) ?_
      rotate_left
      · intro w' _; go_simp; with_reducible rfl
      try simp only [Act.put, List.getElem_toArray, List.getElem_cons_zero, List.getElem_cons_succ, List.setIfInBounds_toArray, List.set_cons_zero, List.set_cons_succ]
      refine Upto.takeY (i := 4) (v := ?_) rfl (by kernel_rfl) (by kernel_rfl) (by kernel_rfl) (by kernel_rfl) (fun _ _ _ h => h) (Or.inl ⟨by rfl, ?_⟩) (fun _ => HSX.out) ?_
      rotate_left
      · intro w' _; go_simp; with_reducible rfl
      try simp only [Act.put, List.getElem_toArray, List.getElem_cons_zero, List.getElem_cons_succ, List.setIfInBounds_toArray, List.set_cons_zero, List.set_cons_succ]
      refine Upto.take (i := 5) (v := ?_) rfl (by kernel_rfl) (by kernel_rfl) (by kernel_rfl) (by kernel_rfl) (fun _ _ _ h => h) (Or.inl ⟨by rfl, ?_⟩) HSX.out ?_
      rotate_left
      · intro w' hS; have h0 : w'.cell? ⟨bb, 1, none⟩ = some (.slice f0.A f0.l f0.c) := hS.f 0 (by simp); go_simp; with_reducible rfl
      try simp only [Act.put, List.getElem_toArray, List.getElem_cons_zero, List.getElem_cons_succ, List.setIfInBounds_toArray, List.set_cons_zero, List.set_cons_succ]
      refine Upto.take (i := 6) (v := .string (textOf tx)) rfl (by kernel_rfl) (by kernel_rfl) (by kernel_rfl) (by kernel_rfl) (fun _ _ _ h => h) (Or.inl ⟨by rfl, ?_⟩) HSX.out ?_
      · intro w' hS; have q1 : (convert 32 9 (.slice f0.A f0.l f0.c)).run Tryz.prog w' = .ok (.string (textOf tx)) w' := conv_rd (HT0.out.below hS.bel (Nat.le_refl _)); first | (go_simp; done) | (go_simp; with_reducible rfl)
      try simp only [Act.put, List.getElem_toArray, List.getElem_cons_zero, List.getElem_cons_succ, List.setIfInBounds_toArray, List.set_cons_zero, List.set_cons_succ]
      refine Upto.takeY (i := 7) (v := ?_) rfl (by kernel_rfl) (by kernel_rfl) (by kernel_rfl) (by kernel_rfl) (fun _ _ _ h => h) (Or.inl ⟨by rfl, ?_⟩) (fun _ => HSX.out) ?_
      rotate_left
      · intro w' _; go_simp; with_reducible rfl
      try simp only [Act.put, List.getElem_toArray, List.getElem_cons_zero, List.getElem_cons_succ, List.setIfInBounds_toArray, List.set_cons_zero, List.set_cons_succ]
      refine Upto.takeY (i := 8) (v := ?_) rfl (by kernel_rfl) (by kernel_rfl) (by kernel_rfl) (by kernel_rfl) (fun _ _ _ h => h) (Or.inl ⟨by rfl, ?_⟩) (fun _ => HSX.out) ?_
      rotate_left
      · intro w' _; go_simp; with_reducible rfl
      try simp only [Act.put, List.getElem_toArray, List.getElem_cons_zero, List.getElem_cons_succ, List.setIfInBounds_toArray, List.set_cons_zero, List.set_cons_succ]
      refine Upto.takeY (i := 9) (v := ?_) rfl (by kernel_rfl) (by kernel_rfl) (by kernel_rfl) (by kernel_rfl) (fun _ _ _ h => h) (Or.inl ⟨by rfl, ?_⟩) (fun _ => HSX.out) ?_
      rotate_left
      · intro w' _; go_simp; with_reducible rfl
      try simp only [Act.put, List.getElem_toArray, List.getElem_cons_zero, List.getElem_cons_succ, List.setIfInBounds_toArray, List.set_cons_zero, List.set_cons_succ]
      refine Upto.take (i := 10) (v := ?_) rfl (by kernel_rfl) (by kernel_rfl) (by kernel_rfl) (by kernel_rfl) (fun _ _ _ h => h) (Or.inl ⟨by rfl, ?_⟩) HSX.out ?_
      rotate_left
      · intro w' hS; have h0 : w'.cell? ⟨bb, 3, none⟩ = some (.slice f1.A f1.l f1.c) := hS.f 1 (by simp); go_simp; with_reducible rfl
      try simp only [Act.put, List.getElem_toArray, List.getElem_cons_zero, List.getElem_cons_succ, List.setIfInBounds_toArray, List.set_cons_zero, List.set_cons_succ]
      refine Upto.takeY (i := 12) (v := ?_) rfl (by kernel_rfl) (by kernel_rfl) (by kernel_rfl) (by kernel_rfl) (fun _ _ _ h => h) (Or.inl ⟨by rfl, ?_⟩) (fun _ => HSX.out) ?_
      rotate_left
      · intro w' _; go_simp; with_reducible rfl
      try simp only [Act.put, List.getElem_toArray, List.getElem_cons_zero, List.getElem_cons_succ, List.setIfInBounds_toArray, List.set_cons_zero, List.set_cons_succ]
      refine Upto.takeY (i := 13) (v := ?_) rfl (by kernel_rfl) (by kernel_rfl) (by kernel_rfl) (by kernel_rfl) (fun _ _ _ h => h) (Or.inl ⟨by rfl, ?_⟩) (fun _ => HSX.out) ?_
      rotate_left
      · intro w' _; go_simp; with_reducible rfl
      try simp only [Act.put, List.getElem_toArray, List.getElem_cons_zero, List.getElem_cons_succ, List.setIfInBounds_toArray, List.set_cons_zero, List.set_cons_succ]
      refine Upto.takeY (i := 14) (v := ?_) rfl (by kernel_rfl) (by kernel_rfl) (by kernel_rfl) (by kernel_rfl) (fun _ _ _ h => h) (Or.inl ⟨by rfl, ?_⟩) (fun _ => HSX.out) ?_
      rotate_left
      · intro w' _; go_simp; with_reducible rfl
      try simp only [Act.put, List.getElem_toArray, List.getElem_cons_zero, List.getElem_cons_succ, List.setIfInBounds_toArray, List.set_cons_zero, List.set_cons_succ]
      refine Upto.take (i := 15) (v := ?_) rfl (by kernel_rfl) (by kernel_rfl) (by kernel_rfl) (by kernel_rfl) (fun _ _ _ h => h) (Or.inl ⟨by rfl, ?_⟩) HSX.out ?_
      rotate_left
      · intro w' hS; have h0 : w'.cell? ⟨bb, 5, none⟩ = some (.slice f2.A f2.l f2.c) := hS.f 2 (by simp); go_simp; with_reducible rfl
      try simp only [Act.put, List.getElem_toArray, List.getElem_cons_zero, List.getElem_cons_succ, List.setIfInBounds_toArray, List.set_cons_zero, List.set_cons_succ]
      rw [HL1.out, HL2.out]
      have CO := roid10_any f1.A f1.c o1 w6 (HT1.out.below HSX.out.bel (Nat.le_refl _)) HO1.out.1.1
      refine Upto.one (i := 11) (by kernel_rfl) rfl (by rfl) (fun K hK => ?_)
      go_simp
      refine CO.mono ?_
      rintro r w7 ⟨rfl, hb7⟩
      have HSY := Lib.hid (HSX.out.below hb7)
      have HR7 := Lib.hid (HR6.out.below hb7)
      clear hb7 CO HSX HSX0 HR6
      clear w6
      have HSX := HSY
      clear HSY
      dsimp only
      refine hK _ _ (fun _ _ => HSX.out) ?_; clear hK K
      try simp only [Act.put, List.getElem_toArray, List.getElem_cons_zero, List.getElem_cons_succ, List.setIfInBounds_toArray, List.set_cons_zero, List.set_cons_succ]
      have CO := roid10_any f2.A f2.c o2 w7 (HT2.out.below HSX.out.bel (Nat.le_refl _)) HO1.out.2.1
      refine Upto.one (i := 16) (by kernel_rfl) rfl (by rfl) (fun K hK => ?_)
      go_simp
      refine CO.mono ?_
      rintro r w8 ⟨rfl, hb8⟩
      have HSY := Lib.hid (HSX.out.below hb8)
      have HR8 := Lib.hid (HR7.out.below hb8)
      clear hb8 CO HSX HR7
      clear w7
      have HSX := HSY
      clear HSY
      dsimp only
      refine hK _ _ (fun _ _ => HSX.out) ?_; clear hK K
      try simp only [Act.put, List.getElem_toArray, List.getElem_cons_zero, List.getElem_cons_succ, List.setIfInBounds_toArray, List.set_cons_zero, List.set_cons_succ]
      refine Upto.takeY (i := 17) (v := .agg (cellsU1 u).toArray) rfl (by kernel_rfl) (by kernel_rfl) (by kernel_rfl) (by kernel_rfl) (fun _ _ _ h => h) (Or.inl ⟨by rfl, fun w' _ => exec_buildZ 58 _ rfl [(0, .string (textOf tx)), (1, .agg (cellsB o1).toArray), (2, .agg (cellsB o2).toArray)] (by kernel_rfl) _ (by have h1 := rup_built u HFU.out; rw [HUE.out] at h1 ⊢; exact h1)⟩) (fun _ => HSX.out) ?_
      try simp only [Act.put, List.getElem_toArray, List.getElem_cons_zero, List.getElem_cons_succ, List.setIfInBounds_toArray, List.set_cons_zero, List.set_cons_succ]
      have hbb : Below w8.heap.size w8 (w8.alloc (.cells (cellsU1 u).toArray 58)) := (Below.refl _ _).alloc (Nat.le_refl _) _
      have HSY := Lib.hid (HSX.out.below hbb)
      have HR9 := Lib.hid (HR8.out.below hbb)
      have HX9 := Lib.hid (Blk.new w8 58 (cellsU1 u).toArray)
      clear hbb
      refine Upto.one (i := 18) (by kernel_rfl) rfl (by rfl) (fun K hK => ?_)
      refine wp_buildSliceK 27 58 1 _ (by rfl) (cellsU1 u).toArray ip (.agg (cellsU1 ⟨⟨#[]⟩, List.replicate 32 0, List.replicate 32 0⟩).toArray) Tryz.underlying27 HIP.out.1 HIP.out.2.1 (by rw [HIP.out.2.2.1]; decide) (by rw [HIP.out.2.2.1]; decide) _ (by kernel_rfl) (by rw [HIP.out.2.2.1]; exact fill_one 65 (Value.agg (cellsU1 ⟨⟨#[]⟩, List.replicate 32 0, List.replicate 32 0⟩).toArray).cells _ (cellsU1_len HFU.out) (by rfl)) ?_
      refine hK _ _ (fun _ _ => HSY.out) ?_; clear hK K
      clear HSX HR8
      have HSX := HSY
      clear HSY
      generalize w8.alloc (.cells (cellsU1 u).toArray 58) = w9 at HSX HR9 HX9 ⊢
      generalize w8.heap.size = gs at HX9 ⊢
      clear w8
      try simp only [Act.put, List.getElem_toArray, List.getElem_cons_zero, List.getElem_cons_succ, List.setIfInBounds_toArray, List.set_cons_zero, List.set_cons_succ]
      refine Upto.one (i := 19) (by kernel_rfl) rfl (by rfl) (fun K hK => ?_)
      refine wp_append_own w9 (.tmp 64) (.tmp 81) 27 (by rfl) (g2 + 1) 58 ip _ 65 80 Tryz.underlying27 HIP.out.1 HIP.out.2.1 HIP.out.2.2.1 HIP.out.2.2.2 (by rfl) (by decide) _ us.length _ (by rfl) HR9.out.ups ⟨gs, 0, none⟩ 1 1 (cellsU1 u) (by rfl) (by rw [cellsU1_len HFU.out]) (fun j u hj => by rw [Addr.add_mid, Nat.zero_add, HX9.out.cell j]; simpa using hj) (fun x hx => by have h1 := cellsU1_one u; rw [Array.all_eq_true_iff_forall_mem] at h1; exact h1 x (by simpa using hx)) (by have := HUL.out; have := HLT.out; have := HNU.out; unfold maxLen; omega) (by have := HUL.out; have := HLT.out; have := HNU.out; omega) (by have := HR9.out.ord; omega) ?_
      intro v2 wa ho hg _
      obtain ⟨A4, c4, rfl⟩ := own_slice ho
      have HG := Lib.hid (HR9.out.appU HFU.out ho hg)
      have HSY := Lib.hid (HSX.out.grown hg (fun e => by have := HBB.out.2 _ e.symm; omega) (fun e => by have := HBB.out.2 _ e.symm; omega) (fun g e => (HBB.out.2 g e).2.1))
      clear ho hg HR9 HX9 HSX
      clear w9
      refine hK _ _ (fun _ _ => HSY.out) ?_; clear hK K
      try simp only [Act.put, List.getElem_toArray, List.getElem_cons_zero, List.getElem_cons_succ, List.setIfInBounds_toArray, List.set_cons_zero, List.set_cons_succ]
      refine Upto.one (i := 20) (by kernel_rfl) rfl (by rfl) (fun K hK => ?_)
      go_simp
      refine hK _ _ (fun _ _ => HSY.out) ?_; clear hK K
      try simp only [Act.put, List.getElem_toArray, List.getElem_cons_zero, List.getElem_cons_succ, List.setIfInBounds_toArray, List.set_cons_zero, List.set_cons_succ]
      have q4 : wa.cell? ⟨g2, 3, none⟩ = some vU := HG.out.1.cell 3
      have f4 := HG.out.1.frozen 3
      refine Upto.one (i := 21) (by kernel_rfl) rfl (by rfl) (fun K hK => ?_)
      go_simp
      refine hK _ _ (fun h => absurd rfl h) ?_; clear hK K
      try simp only [Act.put, List.getElem_toArray, List.getElem_cons_zero, List.getElem_cons_succ, List.setIfInBounds_toArray, List.set_cons_zero, List.set_cons_succ]
      have HR10 := Lib.hid HG.out.2
      refine Upto.done (by kernel_rfl) ?_ _
      clear HG HSY
      go_wp2
      go_roundw
      case rel => exact ⟨k + 1, HLT.out, by go_num, _, us ++ [u], _, z1, _, rfl, HR10, Lib.hid ⟨HZ1.out.1, HZ1.out.2.1, by rw [List.length_append, List.length_singleton, HUL.out], HMN.out, HZ1.out.2.2, fun x hx => by
        rcases List.mem_append.1 hx with hx | hx
        · exact HUS.out x hx
        · rw [List.mem_singleton.1 hx]; exact HSZ.out⟩⟩
      case measure => have h5 := HLT.out; simp [intOf]; omega
    · obtain rfl : k = nu := by omega
      have ik : ¬ ((k : Nat) : Int) < k := by omega
      have hp := HPT.out
      have h1 : En.many En.rdUp k [] r1 = .ok us zs := by rw [← HU.out.2.2.2.1, Nat.sub_self]; rfl
      rw [h1] at hp
      dsimp only at hp
      have HP2 := Lib.hid hp
      have HUF := Lib.hid (And.intro HU.out.2.2.1 (And.intro HU.out.2.2.2.2.1 HU.out.2.2.2.2.2))
      have hsh : shN ⟨#[98]⟩ = [98] := by rfl
      have CR := restG_any ⟨#[98]⟩ zs A2 zs.length c2 w wr HRk.out.bel (by decide) (by kernel_rfl) HU.out.1 HU.out.2.1 (by have := HU.out.2.2.2.2.1; omega)
      rw [hsh] at CR
      have HBZ := Lib.hid HU.out.2.1
      obtain ⟨nz, hnz⟩ : ∃ n, n = zs.length := ⟨_, rfl⟩
      rw [← hnz] at CR ⊢
      clear hsh hk hlt hnz hp h1 HU HPT
      go_wp2_with (go_at_call 37; refine pause ?_)
      unfold Paused
      refine CR.mono ?_
      rintro r w5 ⟨hb5, hbad, hok⟩
      have HR5 := Lib.hid (HRk.out.below hb5)
      have hgf := En.got_b zs
      cases hf : En.num 98 zs with
      | bad q =>
        rw [hf] at hgf
        obtain rfl := hbad q hgf
        have i4 : ¬ ((q : Nat) : Int) = 0 := by have := Oc.got_pos hgf; omega
        have HP : Hid (En.parse xs = .bad q) := Lib.hid (En.parse_parts (by rw [← HN.out]; exact HL.out) (by rw [HP2.out, hf]))
        clear hbad hok hgf hf hb5 CR
        go_wp2_with (with_reducible (show wpList _ _ _ (Oper.mk _ (Op.build 29 _) _ _ _ _ :: _) _ _); refine pause ?_)
        unfold Paused
        refine wpList_buildK (by rfl) 29 _ (by rfl) [] (by simp) zR rentz_empty ?_
        go_wp2_with (with_reducible (show wpList _ _ _ (Oper.mk _ (Op.store 29 _ _) _ _ _ _ :: _) _ _); refine pause ?_)
        unfold Paused
        refine wpList_store_row (by rfl) 29 (.tmp 2) (.tmp 93) (by rfl) w.heap.size zR (by rfl) (by rfl) 29 zR HR5.out.r1 (rent5_load rfl) (by rfl) (by kernel_rfl) ?_
        have HZ : Hid (Blk (w5.setRow w.heap.size zR) w.heap.size 29 zR ∧ Below w.heap.size w (w5.setRow w.heap.size zR)) := Lib.hid ⟨(HR5.out.r1).row _, below_row HR5.out.bel (Nat.le_refl _) _⟩
        generalize w5.setRow w.heap.size zR = w9 at HZ ⊢
        simp only [Act.put]
        go_wp2
        exact bodyPost_ret (v := .tuple #[.agg zR, .int .i64 ((q : Nat) : Int)]) (results_cell_row2 rfl _ _ w.heap.size 29 zR _ _ (by rfl) (by rfl) HZ.out.1 (by first | exact Tryz.underlying29 | kernel_rfl) rfl (rent5_load rfl)) rfl (rparsee_bad HZ.out.2 HP.out rfl)
      | ok no z5 =>
      rw [hf] at hgf
      obtain ⟨A1, bb, c1, fs, A3, c3, rfl, ⟨rfl, hbb⟩, hF, hsy, hrd, hfr⟩ := hok _ _ hgf
      obtain ⟨f0, rfl, e10, _⟩ : ∃ f0, fs = [f0] ∧ f0.n = ((no : Nat) : Int) ∧ f0.bs = [] := fs_oneE hsy
      obtain ⟨hzz, hno, hbz⟩ := En.num_inv (Or.inl rfl) HBZ.out hf
      have p6 : w5.cell? ⟨bb, 0, none⟩ = some (.int .i64 (no : Int)) := by have h1 := hF.n 0 (by simp); rw [show ([f0] : List Fld)[0].n = f0.n from rfl, e10] at h1; exact h1
      have HNO : Hid (no ≤ 255) := Lib.hid hno
      have HZ5 : Hid (Rd w (.slice A3 z5.length c3) z5 ∧ Oc.bytes z5 ∧ z5.length ≤ 2800) := Lib.hid ⟨hrd, hbz, by have := HUF.out.2.1; rw [hzz, List.length_append] at this; omega⟩
      have hp := HP2.out
      rw [hf] at hp
      dsimp only at hp
      have HP3 := Lib.hid hp
      clear hbad hok hgf hf hb5 CR hbb hF hsy hrd hfr e10 hzz hno hbz hp HP2 HBZ HRk
      clear wr
      simp only [List.length_cons, List.length_nil, Nat.zero_add]
      go_wp2
      clear p6
      go_loopw [5, 13] (fun vr i wr => ∃ k2 : Nat, k2 ≤ no ∧ i = .int .i64 k2 ∧ ∃ vO ts A2 zs c2, vr = .slice A2 zs.length c2 ∧ Hid (RdP w wr w.heap.size g2 (n1 : Int) (n2 : Int) (n3 : Int) vU us vO ts) ∧ Hid (Rd w (.slice A2 zs.length c2) zs ∧ Oc.bytes zs ∧ ts.length = k2 ∧ En.many En.txt (no - k2) (ts.map (·.text)) zs = En.many En.txt no [] z5 ∧ zs.length ≤ 2800)) (fun _ i _ => no - (intOf i).toNat)
      case atStart => exact ⟨0, Nat.zero_le _, rfl, _, [], A3, z5, c3, rfl, HR5, Lib.hid ⟨HZ5.out.1, HZ5.out.2.1, rfl, rfl, HZ5.out.2.2⟩⟩
      case round =>
        obtain ⟨k2, hk, rfl, vO, ts, A5, zs2, c5, rfl, HRk, HU⟩ := hrel
        by_cases hlt : k2 < no
        · have i1 : ((k2 : Nat) : Int) < no := by omega
          have i2 : (0 : Int) ≤ ((k2 : Nat) : Int) := by omega
          have i3 : ((no : Nat) : Int) ≤ 255 := by have := HNO.out; omega
          have HLT : Hid (k2 + 1 ≤ no) := Lib.hid hlt
          have hsh : shN ⟨#[116]⟩ = [116] := by rfl
          have CR := restG_any ⟨#[116]⟩ zs2 A5 zs2.length c5 w wr HRk.out.bel (by decide) (by kernel_rfl) HU.out.1 HU.out.2.1 (by have := HU.out.2.2.2.2; omega)
          rw [hsh] at CR
          obtain ⟨nz, hnz⟩ : ∃ n, n = zs2.length := ⟨_, rfl⟩
          rw [← hnz] at CR ⊢
          clear hsh hk hlt hnz HR5
          go_wp2_with (go_at_call 37; refine pause ?_)
          unfold Paused
          refine CR.mono ?_
          rintro r w6 ⟨hb6, hbad, hok⟩
          have HR6 := Lib.hid (HRk.out.below hb6)
          have hgf := En.got_t zs2
          obtain ⟨m, hm⟩ : ∃ m, no - k2 = m + 1 := ⟨no - k2 - 1, by have := HLT.out; omega⟩
          cases hf : En.txt zs2 with
          | bad q =>
            rw [hf] at hgf
            obtain rfl := hbad q hgf
            have i4 : ¬ ((q : Nat) : Int) = 0 := by have := Oc.got_pos hgf; omega
            have HP : Hid (En.parse xs = .bad q) := Lib.hid (En.parse_parts (by rw [← HN.out]; exact HL.out) (by
              have h1 := HU.out.2.2.2.1
              rw [hm, En.many_bad hf] at h1
              rw [HP3.out, ← h1]))
            clear hbad hok hgf hf hb6 CR hm
            go_wp2_with (with_reducible (show wpList _ _ _ (Oper.mk _ (Op.build 29 _) _ _ _ _ :: _) _ _); refine pause ?_)
            unfold Paused
            refine wpList_buildK (by rfl) 29 _ (by rfl) [] (by simp) zR rentz_empty ?_
            go_wp2_with (with_reducible (show wpList _ _ _ (Oper.mk _ (Op.store 29 _ _) _ _ _ _ :: _) _ _); refine pause ?_)
            unfold Paused
            refine wpList_store_row (by rfl) 29 (.tmp 2) (.tmp 112) (by rfl) w.heap.size zR (by rfl) (by rfl) 29 zR HR6.out.r1 (rent5_load rfl) (by rfl) (by kernel_rfl) ?_
            have HZ : Hid (Blk (w6.setRow w.heap.size zR) w.heap.size 29 zR ∧ Below w.heap.size w (w6.setRow w.heap.size zR)) := Lib.hid ⟨(HR6.out.r1).row _, below_row HR6.out.bel (Nat.le_refl _) _⟩
            generalize w6.setRow w.heap.size zR = w9 at HZ ⊢
            simp only [Act.put]
            go_wp2
            exact bodyPost_ret (v := .tuple #[.agg zR, .int .i64 ((q : Nat) : Int)]) (results_cell_row2 rfl _ _ w.heap.size 29 zR _ _ (by rfl) (by rfl) HZ.out.1 (by first | exact Tryz.underlying29 | kernel_rfl) rfl (rent5_load rfl)) rfl (rparsee_bad HZ.out.2 HP.out rfl)
          | ok tx z1 =>
          rw [hf] at hgf
          obtain ⟨A1, bx, c1, fs, A3, c3, rfl, ⟨rfl, hbb⟩, hF, hsy, hrd, hfr⟩ := hok _ _ hgf
          obtain ⟨f0, rfl, _, e11⟩ : ∃ f0, fs = [f0] ∧ f0.n = ((0 : Nat) : Int) ∧ f0.bs = tx := fs_oneE hsy
          obtain ⟨hzz, hbt, hbz⟩ := En.txt_inv HU.out.2.1 hf
          obtain ⟨s1, s2⟩ := En.txt_short hf
          have HMN : Hid (En.many En.txt (no - (k2 + 1)) (ts.map (·.text) ++ [tx]) z1 = En.many En.txt no [] z5) := Lib.hid (by rw [← HU.out.2.2.2.1, hm, En.many_next hf, show no - (k2 + 1) = m by omega])
          have HZ1 : Hid (Rd w (.slice A3 z1.length c3) z1 ∧ Oc.bytes z1 ∧ z1.length ≤ 2800) := Lib.hid ⟨hrd, hbz, by have h1 := HU.out.2.2.2.2; omega⟩
          have HTL := Lib.hid HU.out.2.2.1
          have HT0 : Hid (Rd w (.slice f0.A f0.l f0.c) tx ∧ Oc.bytes tx) := Lib.hid ⟨by rw [← e11]; exact hfr f0 (by simp), hbt⟩
          have HBB : Hid (g2 < bx ∧ ∀ g, vO.ownBlock = some g → g < bx ∧ w.heap.size ≤ g ∧ g2 < g) := Lib.hid ⟨by have := HRk.out.ord; omega, fun g hg => by have h1 := HRk.out.objs.lt g hg; have h2 := HRk.out.ord; omega⟩
          have HSL : Hid (SL w g2 4 bx vO [f0] w6) := Lib.hid ⟨HR6.out.bel, HR6.out.box.cell 4, fun i hi => hF.s i hi⟩
          clear hbad hok hgf hf hb6 CR hm hbb hF hsy hrd hfr e11 hzz hbt hbz s1 s2 HRk HU
          simp only [List.length_cons, List.length_nil, Nat.zero_add]
          go_wp2_with fail
          have HSX : Hid (SL w g2 4 bx vO [f0] w6.drew) := Lib.hid (HSL.out.below (below_drewN (Below.refl _ w6) 1))
          have HR7 : Hid (RdP w w6.drew w.heap.size g2 (n1 : Int) (n2 : Int) (n3 : Int) vU us vO ts) := Lib.hid (HR6.out.below (below_drewN (Below.refl _ w6) 1))
          clear HSL HR6
          refine wp_region_upto (S := SL w g2 4 bx vO [f0]) (b := 9) (by kernel_rfl) ?_
          change Upto _ _ _ _ _ _ _ _ _ w6.drew
          generalize w6.drew = w7 at HSX HR7 ⊢
          clear w6
          refine Upto.takeY (i := 0) (v := ?_) rfl (by kernel_rfl) (by kernel_rfl) (by kernel_rfl) (by kernel_rfl) (fun _ _ _ h => h) (Or.inl ⟨by rfl, ?_⟩) (fun _ => HSX.out) ?_
          rotate_left
          · intro w' _; go_simp; with_reducible rfl
          try simp only [Act.put, List.getElem_toArray, List.getElem_cons_zero, List.setIfInBounds_toArray, List.set_cons_zero, List.set_cons_succ]
          refine Upto.take (i := 1) (v := ?_) rfl (by kernel_rfl) (by kernel_rfl) (by kernel_rfl) (by kernel_rfl) (fun _ _ _ h => h) (Or.inl ⟨by rfl, ?_⟩) HSX.out ?_
          rotate_left
          · intro w' hS; have h0 := hS.c3; go_simp; with_reducible rfl
          try simp only [Act.put, List.getElem_toArray, List.getElem_cons_zero, List.getElem_cons_succ, List.setIfInBounds_toArray, List.set_cons_zero, List.set_cons_succ]
          refine Upto.takeY (i := 2) (v := ?_) rfl (by kernel_rfl) (by kernel_rfl) (by kernel_rfl) (by kernel_rfl) (fun _ _ _ h => h) (Or.inl ⟨by rfl, ?_⟩) (fun _ => HSX.out) ?_
          rotate_left
          · intro w' _; go_simp; with_reducible rfl
          try simp only [Act.put, List.getElem_toArray, List.getElem_cons_zero, List.getElem_cons_succ, List.setIfInBounds_toArray, List.set_cons_zero, List.set_cons_succ]
          refine Upto.takeY (i := 3) (v := ?_) rfl (by kernel_rfl) (by kernel_rfl) (by kernel_rfl) (by kernel_rfl) (fun _ _ _ h => h) (Or.inl ⟨by rfl, ?_⟩) (fun _ => HSX.out) ?_
          rotate_left
          · intro w' _; go_simp; with_reducible rfl
          try simp only [Act.put, List.getElem_toArray, List.getElem_cons_zero, List.getElem_cons_succ, List.setIfInBounds_toArray, List.set_cons_zero, List.set_cons_succ]
          refine Upto.takeY (i := 4) (v := ?_) rfl (by kernel_rfl) (by kernel_rfl) (by kernel_rfl) (by kernel_rfl) (fun _ _ _ h => h) (Or.inl ⟨by rfl, ?_⟩) (fun _ => HSX.out) ?_
          rotate_left
          · intro w' _; go_simp; with_reducible rfl
          try simp only [Act.put, List.getElem_toArray, List.getElem_cons_zero, List.getElem_cons_succ, List.setIfInBounds_toArray, List.set_cons_zero, List.set_cons_succ]
          refine Upto.take (i := 5) (v := ?_) rfl (by kernel_rfl) (by kernel_rfl) (by kernel_rfl) (by kernel_rfl) (fun _ _ _ h => h) (Or.inl ⟨by rfl, ?_⟩) HSX.out ?_
          rotate_left
          · intro w' hS; have h0 : w'.cell? ⟨bx, 1, none⟩ = some (.slice f0.A f0.l f0.c) := hS.f 0 (by simp); go_simp; with_reducible rfl
          try simp only [Act.put, List.getElem_toArray, List.getElem_cons_zero, List.getElem_cons_succ, List.setIfInBounds_toArray, List.set_cons_zero, List.set_cons_succ]
          have hbb : Below w7.heap.size w7 (w7.alloc (.cells #[.slice f0.A f0.l f0.c] 32)) := (Below.refl _ _).alloc (Nat.le_refl _) _
          have HSY := Lib.hid (HSX.out.below hbb)
          have HR9 := Lib.hid (HR7.out.below hbb)
          have HX9 := Lib.hid (Blk.new w7 32 #[.slice f0.A f0.l f0.c])
          clear hbb
          refine Upto.one (i := 6) (by kernel_rfl) rfl (by rfl) (fun K hK => ?_)
          go_simp
          refine hK _ _ (fun _ _ => HSY.out) ?_; clear hK K
          clear HSX HR7
          have HSX := HSY
          clear HSY
          generalize w7.alloc (.cells #[.slice f0.A f0.l f0.c] 32) = w9 at HSX HR9 HX9 ⊢
          generalize w7.heap.size = gs at HX9 ⊢
          clear w7
          try simp only [Act.put, List.getElem_toArray, List.getElem_cons_zero, List.getElem_cons_succ, List.setIfInBounds_toArray, List.set_cons_zero, List.set_cons_succ]
          refine Upto.one (i := 7) (by kernel_rfl) rfl (by rfl) (fun K hK => ?_)
          refine wp_append_own w9 (.tmp 115) (.tmp 120) 23 (by rfl) (g2 + 1) 32 iq (.slice none 0 0) 1 24 Tryz.underlying23 HIQ.out.1 HIQ.out.2.1 HIQ.out.2.2.1 HIQ.out.2.2.2 (by rfl) (by decide) _ ts.length _ (by rfl) HR9.out.objs ⟨gs, 0, none⟩ 1 1 [.slice f0.A f0.l f0.c] (by rfl) (by rfl) (fun j u hj => by rw [Addr.add_mid, Nat.zero_add, HX9.out.cell j]; simpa using hj) (by simp [Value.oneCell']) (by have := HTL.out; have := HLT.out; have := HNO.out; unfold maxLen; omega) (by have := HTL.out; have := HLT.out; have := HNO.out; omega) (by have := HR9.out.ord; omega) ?_
          intro v2 wa ho hg _
          obtain ⟨A4, c4, rfl⟩ := own_slice ho
          have HG := Lib.hid (HR9.out.appT (t := ⟨tx, .slice f0.A f0.l f0.c⟩) HT0.out ho hg)
          have HSY := Lib.hid (HSX.out.grown hg (fun e => by have := HBB.out.2 _ e.symm; omega) (fun e => by have := HBB.out.2 _ e.symm; omega) (fun g e => (HBB.out.2 g e).2.1))
          clear ho hg HR9 HX9 HSX
          clear w9
          refine hK _ _ (fun _ _ => HSY.out) ?_; clear hK K
          try simp only [Act.put, List.getElem_toArray, List.getElem_cons_zero, List.getElem_cons_succ, List.setIfInBounds_toArray, List.set_cons_zero, List.set_cons_succ]
          refine Upto.one (i := 8) (by kernel_rfl) rfl (by rfl) (fun K hK => ?_)
          go_simp
          refine hK _ _ (fun _ _ => HSY.out) ?_; clear hK K
          try simp only [Act.put, List.getElem_toArray, List.getElem_cons_zero, List.getElem_cons_succ, List.setIfInBounds_toArray, List.set_cons_zero, List.set_cons_succ]
          have q4 : wa.cell? ⟨g2, 4, none⟩ = some vO := HG.out.1.cell 4
          have f4 := HG.out.1.frozen 4
          refine Upto.one (i := 9) (by kernel_rfl) rfl (by rfl) (fun K hK => ?_)
          go_simp
          refine hK _ _ (fun h => absurd rfl h) ?_; clear hK K
          try simp only [Act.put, List.getElem_toArray, List.getElem_cons_zero, List.getElem_cons_succ, List.setIfInBounds_toArray, List.set_cons_zero, List.set_cons_succ]
          have HR10 := Lib.hid HG.out.2
          refine Upto.done (by kernel_rfl) ?_ _
          clear HG HSY
          go_wp2
          go_roundw
          case rel => exact ⟨k2 + 1, HLT.out, by go_num, _, ts ++ [⟨tx, .slice f0.A f0.l f0.c⟩], _, z1, _, rfl, HR10, Lib.hid ⟨HZ1.out.1, HZ1.out.2.1, by rw [List.length_append, List.length_singleton, HTL.out], by rw [List.map_append, List.map_cons, List.map_nil]; exact HMN.out, HZ1.out.2.2⟩⟩
          case measure => have h5 := HLT.out; simp [intOf]; omega
        · obtain rfl : k2 = no := by omega
          have ik2 : ¬ ((k2 : Nat) : Int) < k2 := by omega
          have hp := HP3.out
          have h1 : En.many En.txt k2 [] z5 = .ok (ts.map (·.text)) zs2 := by rw [← HU.out.2.2.2.1, Nat.sub_self]; rfl
          rw [h1] at hp
          dsimp only at hp
          have HP4 := Lib.hid hp
          have HTL := Lib.hid HU.out.2.2.1
          have HBZ := Lib.hid HU.out.2.1
          obtain ⟨nz, hnz⟩ : ∃ n, n = zs2.length := ⟨_, rfl⟩
          rw [← hnz]
          have HNZ := Lib.hid hnz
          clear hp h1 HU hk hlt hnz HP3 HR5
          by_cases hz : 0 < nz
          · have i4 : (0 : Int) < (nz : Int) := by omega
            have HP : Hid (En.parse xs = .bad 3) := Lib.hid (by unfold En.parse; rw [if_neg (by rw [← HN.out]; have := HL.out; omega), HP4.out]; dsimp only; rw [if_pos (by rw [← HNZ.out]; exact hz)])
            clear hz
            go_wp2_with (with_reducible (show wpList _ _ _ (Oper.mk _ (Op.build 29 _) _ _ _ _ :: _) _ _); refine pause ?_)
            unfold Paused
            refine wpList_buildK (by rfl) 29 _ (by rfl) [] (by simp) zR rentz_empty ?_
            go_wp2_with (with_reducible (show wpList _ _ _ (Oper.mk _ (Op.store 29 _ _) _ _ _ _ :: _) _ _); refine pause ?_)
            unfold Paused
            refine wpList_store_row (by rfl) 29 (.tmp 2) (.tmp 127) (by rfl) w.heap.size zR (by rfl) (by rfl) 29 zR HRk.out.r1 (rent5_load rfl) (by rfl) (by kernel_rfl) ?_
            have HZ : Hid (Blk (wr.setRow w.heap.size zR) w.heap.size 29 zR ∧ Below w.heap.size w (wr.setRow w.heap.size zR)) := Lib.hid ⟨(HRk.out.r1).row _, below_row HRk.out.bel (Nat.le_refl _) _⟩
            generalize wr.setRow w.heap.size zR = w9 at HZ ⊢
            simp only [Act.put]
            go_wp2
            exact bodyPost_ret (v := .tuple #[.agg zR, .int .i64 3]) (results_cell_row2 rfl _ _ w.heap.size 29 zR _ _ (by rfl) (by rfl) HZ.out.1 (by first | exact Tryz.underlying29 | kernel_rfl) rfl (rent5_load rfl)) rfl (rparsee_bad HZ.out.2 HP.out rfl)
          have i4 : ¬ (0 : Int) < (nz : Int) := by omega
          have HPR : Hid (En.parse xs = if En.right ⟨(n1 : Int), (n2 : Int), (n3 : Int), us, ts.map (·.text)⟩ = true then .ok ⟨(n1 : Int), (n2 : Int), (n3 : Int), us, ts.map (·.text)⟩ else .bad 4) := Lib.hid (by unfold En.parse; rw [if_neg (by rw [← HN.out]; have := HL.out; omega), HP4.out]; dsimp only; rw [if_neg (by rw [← HNZ.out]; exact hz)])
          clear hz
          obtain ⟨cs, hcs⟩ : ∃ cs : Array Value, cs = #[.int .i64 (n1 : Int), .int .i64 (n2 : Int), .int .i64 (n3 : Int), vU, vO] := ⟨_, rfl⟩
          obtain ⟨Ux, cux, Ox, cox, hux, hox, hco, hen⟩ := HRk.out.ent
          have hbx : Blk wr g2 29 cs := by rw [hcs]; exact HRk.out.box
          rw [← hcs] at hen
          have HEN := Lib.hid hen
          have HBX := Lib.hid hbx
          have HC5 : Hid (cs.size = 5 ∧ cs.all (·.oneCell') = true) := Lib.hid (by rw [hcs, hux, hox]; exact ⟨rfl, by simp [Value.oneCell']⟩)
          have HR1 := Lib.hid HRk.out.r1
          have HBL := Lib.hid HRk.out.bel
          have HCO := Lib.hid hco
          obtain ⟨en, hen2⟩ : ∃ en : En.E, en = ⟨(n1 : Int), (n2 : Int), (n3 : Int), us, ts.map (·.text)⟩ := ⟨_, rfl⟩
          have CQ := rright_any en cs Ux Ox cux cox ts wr (by rw [hen2]; exact hen) (by rw [hen2]; exact HUF.out.2.2) (by rw [hen2]; have h1 := HUF.out.1; have h2 := HNU.out; show us.length ≤ 1000; omega) (by rw [hen2]; have h1 := HTL.out; have h2 := HNO.out; show (ts.map (·.text)).length ≤ 1000; rw [List.length_map]; omega) (by rw [hen2]; show (ts.map (·.text)).length ≤ cox; rw [List.length_map]; exact hco)
          rw [← hen2] at HPR
          have HCS := Lib.hid hcs
          have HE2 := Lib.hid hen2
          obtain ⟨R0, hR0⟩ : ∃ b, b = En.right en := ⟨_, rfl⟩
          rw [← hR0] at CQ HPR
          clear hcs hux hox hco hen hbx hen2 hR0 HP4 HTL HBZ HEN HR1 HBL
          go_wp2_with (with_reducible (show wpList _ _ _ (Oper.mk _ (Op.load 29 _) _ _ _ _ :: _) _ _); refine pause ?_)
          unfold Paused
          refine wpList_row_w (by rfl) 29 (.tmp 7) (by rfl) g2 (by rfl) 29 cs _ HBX.out (by first | exact Tryz.underlying29 | kernel_rfl) (by rfl) (rent5_load HC5.out.1) ?_
          go_wp2_with (go_at_call 9; refine pause ?_)
          unfold Paused
          refine CQ.mono ?_
          rintro r w6 ⟨rfl, hb6⟩
          have HRQ := Lib.hid (HRk.out.below hb6)
          have HBX6 := Lib.hid (HBX.out.below hb6 HBX.out.lt)
          have HR6 := Lib.hid HRQ.out.r1
          have HBL6 := Lib.hid HRQ.out.bel
          clear hb6 CQ HBX HRk
          clear wr
          cases R0
          · have HP : Hid (En.parse xs = .bad 4) := Lib.hid (by rw [HPR.out]; rfl)
            clear HPR
            go_wp2_with (with_reducible (show wpList _ _ _ (Oper.mk _ (Op.build 29 _) _ _ _ _ :: _) _ _); refine pause ?_)
            unfold Paused
            refine wpList_buildK (by rfl) 29 _ (by rfl) [] (by simp) zR rentz_empty ?_
            go_wp2_with (with_reducible (show wpList _ _ _ (Oper.mk _ (Op.store 29 _ _) _ _ _ _ :: _) _ _); refine pause ?_)
            unfold Paused
            refine wpList_store_row (by rfl) 29 (.tmp 2) (.tmp 131) (by rfl) w.heap.size zR (by rfl) (by rfl) 29 zR HR6.out (rent5_load rfl) (by rfl) (by kernel_rfl) ?_
            have HZ : Hid (Blk (w6.setRow w.heap.size zR) w.heap.size 29 zR ∧ Below w.heap.size w (w6.setRow w.heap.size zR)) := Lib.hid ⟨(HR6.out).row _, below_row HBL6.out (Nat.le_refl _) _⟩
            generalize w6.setRow w.heap.size zR = w9 at HZ ⊢
            simp only [Act.put]
            go_wp2
            exact bodyPost_ret (v := .tuple #[.agg zR, .int .i64 4]) (results_cell_row2 rfl _ _ w.heap.size 29 zR _ _ (by rfl) (by rfl) HZ.out.1 (by first | exact Tryz.underlying29 | kernel_rfl) rfl (rent5_load rfl)) rfl (rparsee_bad HZ.out.2 HP.out rfl)
          have HP : Hid (En.parse xs = .ok en) := Lib.hid (by rw [HPR.out]; rfl)
          clear HPR
          go_wp2_with (with_reducible (show wpList _ _ _ (Oper.mk _ (Op.load 29 _) _ _ _ _ :: _) _ _); refine pause ?_)
          unfold Paused
          refine wpList_row_w (by rfl) 29 (.tmp 7) (by rfl) g2 (by rfl) 29 cs _ HBX6.out (by first | exact Tryz.underlying29 | kernel_rfl) (by rfl) (rent5_load HC5.out.1) ?_
          go_wp2_with (with_reducible (show wpList _ _ _ (Oper.mk _ (Op.store 29 _ _) _ _ _ _ :: _) _ _); refine pause ?_)
          unfold Paused
          refine wpList_store_row (by rfl) 29 (.tmp 2) (.tmp 132) (by rfl) w.heap.size cs (by rfl) (by rfl) 29 zR HR6.out (rent5_load HC5.out.1) (by rw [HC5.out.1]; rfl) HC5.out.2 ?_
          have HZ : Hid (Blk (w6.setRow w.heap.size cs) w.heap.size 29 cs ∧ Below w.heap.size w (w6.setRow w.heap.size cs) ∧ ∃ U cu O co, EnC (w6.setRow w.heap.size cs) en cs U cu O co ts) := Lib.hid ⟨HR6.out.row _, below_row HBL6.out (Nat.le_refl _) _, by
            obtain ⟨U, cu, O, co, _, _, _, h9⟩ := HRQ.out.res cs
            rw [← HCS.out, ← HE2.out] at h9
            exact ⟨U, cu, O, co, h9⟩⟩
          generalize w6.setRow w.heap.size cs = w9 at HZ ⊢
          simp only [Act.put]
          go_wp2
          exact bodyPost_ret (v := .tuple #[.agg cs, .int .i64 0]) (results_cell_row2 rfl _ _ w.heap.size 29 cs _ _ (by rfl) (by rfl) HZ.out.1 (by first | exact Tryz.underlying29 | kernel_rfl) rfl (rent5_load HC5.out.1)) rfl ⟨HZ.out.2.1, fun k' hk => (by rw [HP.out] at hk; cases hk), fun en' hk => (by rw [HP.out] at hk; injection hk with hk; subst hk; obtain ⟨U, cu, O, co, h9⟩ := HZ.out.2.2; exact ⟨cs, U, cu, O, co, ts, rfl, h9, HC5.out.2⟩)⟩
end Go.Proofs.YtjkneidoochfjaaGreatDoor
