/- Two objects compared, by the program and by the document (ObjectSame). -/
import Derived.Test.YtenodghocenjaaaDoorOb7
import Derived.Test.YtenodghocenjaaaDoorOb10
import Derived.Test.YtenodghocenjaaaDoorOb12
namespace Go.Proofs.YtenodghocenjaaaDoor
open Go Go.RowKit
/-- What the law has laid: the two boxes. -/
structure SmW (w w' : World) (ca cb : Array Value) : Prop where
  b1 : Box w w' w.heap.size 30 ca
  b2 : Box w w' (w.heap.size + 1) 30 cb
theorem SmW.go {w w' w'' : World} {ca cb : Array Value} (h : SmW w w' ca cb) (k : Below w'.heap.size w' w'') : SmW w w'' ca cb := ⟨h.b1.go k, h.b2.go k⟩
theorem zc0_alloc (w : World) : Below w.heap.size w (w.alloc (.cells zc0 38)) := (Below.refl _ _).alloc (Nat.le_refl _) _
set_option maxRecDepth 100000 in
set_option maxHeartbeats 4000000 in
theorem same_law (a b : Ob) (ca cb : Array Value) (Ta Ea Pa Tb Eb Pb : Option Addr) (ta ea pa tb eb pb : Nat) (w : World) (ha : ObC w a ca Ta ta Ea ea Pa pa) (hb : ObC w b cb Tb tb Eb eb Pb pb) (fa : a.Fit) (fb : b.Fit) :
    Calls Tryd.prog 4 #[.agg ca, .agg cb] w fun e w' => e = .returned (.bool true) ∧ Below w.heap.size w w' := by
  obtain ⟨w2, hw2⟩ : ∃ w2, w2 = (w.alloc (.cells ca 30)).alloc (.cells cb 30) := ⟨_, rfl⟩
  have B0 : Below w.heap.size w w2 := hw2 ▸ boxed ca cb _
  have S2 : SmW w w2 ca cb := ⟨⟨hw2 ▸ (Blk.new w _ ca).alloc _, B0⟩, ⟨hw2 ▸ boxed2 ca cb _, B0⟩⟩
  have HA := Lib.hid ha
  have HB := Lib.hid hb
  have HFA := Lib.hid fa
  have HFB := Lib.hid fb
  have nA : (Tryd.prog.info? 30).map (·.size) = some ca.size := by rw [ha.size fa]; kernel_rfl
  have nB : (Tryd.prog.info? 30).map (·.size) = some cb.size := by rw [hb.size fb]; kernel_rfl
  have NA := Lib.hid nA
  have NB := Lib.hid nB
  have KA := Lib.hid ha.c0
  have CA := oalive_any w2
  have HS2 := Lib.hid S2
  have e2 := hw2.symm
  clear ha hb fa fb nA nB B0 S2 hw2
  go_enter Tryd.func4, Tryd.ntmps4
  go_wp2_with (go_at_call 6; refine pause ?_)
  unfold Paused
  refine CA.mono ?_
  rintro e w3 ⟨rfl, h3⟩
  have HS3 := Lib.hid (HS2.out.go h3)
  clear h3 CA e2
  go_wp2_with (with_reducible (show wpList _ _ _ (Oper.mk _ (Op.load 30 _) _ _ _ _ :: _) _ _); refine pause ?_)
  unfold Paused
  refine wpList_row_w (by rfl) 30 (.tmp 2) (by rfl) w.heap.size (by rfl) 30 ca _ HS3.out.b1.at_ Tryd.underlying30 (by rfl) NA.out ?_
  go_wp2_with (go_at_call 12; refine pause ?_)
  unfold Paused
  refine (of_any a ca Ta Ea Pa ta ea pa w3 (HA.out.below HS3.out.b1.bel (Nat.le_refl _)) HFA.out).mono ?_
  rintro e w4 ⟨h4, cx, ok, rfl, sx, ox, hx⟩
  have HS4 := Lib.hid (HS3.out.go h4)
  have HX4 := Lib.hid hx
  have SX := Lib.hid sx
  have OX := Lib.hid ox
  clear h4 hx sx ox
  go_wp2_with (with_reducible (show wpList _ _ _ (Oper.mk _ (Op.store 38 _ _) _ _ _ _ :: _) _ _); refine pause ?_)
  unfold Paused
  change wpList _ _ _ _ _ (w4.alloc (.cells zc0 38))
  refine wpList_store_row (by rfl) 38 (.tmp 5) (.tmp 15) (by rfl) w4.heap.size cx (by rfl) (by rfl) 38 zc0 (Blk.new w4 _ _) (by rw [SX.out]; kernel_rfl) (by rw [SX.out]; rfl) OX.out ?_
  have hk : Below w4.heap.size w4 ((w4.alloc (.cells zc0 38)).setRow w4.heap.size cx) := below_row (zc0_alloc w4) (Nat.le_refl _) _
  have HS5 := Lib.hid (HS4.out.go hk)
  have HX5 : Hid (ok = true → a.small ∧ ∃ T tc E ec P pc, ObC ((w4.alloc (.cells zc0 38)).setRow w4.heap.size cx) a cx T tc E ec P pc) := Lib.hid (fun h => by
    obtain ⟨h1, T, tc, E, ec, P, pc, h2⟩ := HX4.out h
    exact ⟨h1, T, tc, E, ec, P, pc, h2.below hk (Nat.le_refl _)⟩)
  have HV5 := Lib.hid ((Blk.new w4 38 zc0).row cx)
  clear hk HX4
  generalize World.setRow _ w4.heap.size cx = w5 at HS5 HX5 HV5 ⊢
  generalize w4.heap.size = gx at HV5 ⊢
  go_wp2_with (with_reducible (show wpList _ _ _ (Oper.mk _ (Op.load 30 _) _ _ _ _ :: _) _ _); refine pause ?_)
  unfold Paused
  refine wpList_row_w (by rfl) 30 (.tmp 3) (by rfl) (w.heap.size + 1) (by rfl) 30 cb _ HS5.out.b2.at_ Tryd.underlying30 (by rfl) NB.out ?_
  go_wp2_with (go_at_call 12; refine pause ?_)
  unfold Paused
  refine (of_any b cb Tb Eb Pb tb eb pb w5 (HB.out.below HS5.out.b1.bel (Nat.le_refl _)) HFB.out).mono ?_
  rintro e w6 ⟨h6, cy, is, rfl, sy, oy, hy⟩
  have HS6 := Lib.hid (HS5.out.go h6)
  have HX6 : Hid (ok = true → a.small ∧ ∃ T tc E ec P pc, ObC w6 a cx T tc E ec P pc) := Lib.hid (fun h => by
    obtain ⟨h1, T, tc, E, ec, P, pc, h2⟩ := HX5.out h
    exact ⟨h1, T, tc, E, ec, P, pc, h2.below h6 (Nat.le_refl _)⟩)
  have HV6 := Lib.hid (HV5.out.below h6 HV5.out.lt)
  have HY6 := Lib.hid hy
  have SY := Lib.hid sy
  have OY := Lib.hid oy
  clear h6 hy sy oy HX5 HV5
  go_wp2_with (with_reducible (show wpList _ _ _ (Oper.mk _ (Op.store 38 _ _) _ _ _ _ :: _) _ _); refine pause ?_)
  unfold Paused
  change wpList _ _ _ _ _ (w6.alloc (.cells zc0 38))
  refine wpList_store_row (by rfl) 38 (.tmp 7) (.tmp 20) (by rfl) w6.heap.size cy (by rfl) (by rfl) 38 zc0 (Blk.new w6 _ _) (by rw [SY.out]; kernel_rfl) (by rw [SY.out]; rfl) OY.out ?_
  have hk : Below w6.heap.size w6 ((w6.alloc (.cells zc0 38)).setRow w6.heap.size cy) := below_row (zc0_alloc w6) (Nat.le_refl _) _
  have HS7 := Lib.hid (HS6.out.go hk)
  have HX7 : Hid (ok = true → a.small ∧ ∃ T tc E ec P pc, ObC ((w6.alloc (.cells zc0 38)).setRow w6.heap.size cy) a cx T tc E ec P pc) := Lib.hid (fun h => by
    obtain ⟨h1, T, tc, E, ec, P, pc, h2⟩ := HX6.out h
    exact ⟨h1, T, tc, E, ec, P, pc, h2.below hk (Nat.le_refl _)⟩)
  have HY7 : Hid (is = true → b.small ∧ ∃ T tc E ec P pc, ObC ((w6.alloc (.cells zc0 38)).setRow w6.heap.size cy) b cy T tc E ec P pc) := Lib.hid (fun h => by
    obtain ⟨h1, T, tc, E, ec, P, pc, h2⟩ := HY6.out h
    exact ⟨h1, T, tc, E, ec, P, pc, h2.below hk (Nat.le_refl _)⟩)
  have HV7 := Lib.hid (HV6.out.below hk HV6.out.lt)
  have HU7 := Lib.hid ((Blk.new w6 38 zc0).row cy)
  clear hk HX6 HV6 HY6
  generalize World.setRow _ w6.heap.size cy = w7 at HS7 HX7 HY7 HV7 HU7 ⊢
  generalize w6.heap.size = gy at HU7 ⊢
  have a0 : w7.cell? ⟨w.heap.size, 0, none⟩ = some (.int .i64 a.kind) := (HS7.out.b1.at_.cell 0).trans KA.out
  cases ok
  · go_wp2
    go_ret
    exact ⟨rfl, HS7.out.b1.bel⟩
  cases is
  · go_wp2
    go_ret
    exact ⟨rfl, HS7.out.b1.bel⟩
  obtain ⟨sma, Tx, tx, Ex, ex, Px, px, hox⟩ := HX7.out rfl
  obtain ⟨smb, Ty, ty, Ey, ey, Py, py, hoy⟩ := HY7.out rfl
  have HOX := Lib.hid hox
  have HOY := Lib.hid hoy
  have nX : (Tryd.prog.info? 38).map (·.size) = some cx.size := by rw [SX.out]; kernel_rfl
  have nY : (Tryd.prog.info? 38).map (·.size) = some cy.size := by rw [SY.out]; kernel_rfl
  have NX := Lib.hid nX
  have NY := Lib.hid nY
  have LA := Lib.hid (show a.ents.length ≤ 1000 ∧ a.pars.length ≤ 1000 from ⟨by have := sma.2.1; omega, by have := sma.2.2.1; omega⟩)
  have LB := Lib.hid (show b.ents.length ≤ 1000 ∧ b.pars.length ≤ 1000 from ⟨by have := smb.2.1; omega, by have := smb.2.2.1; omega⟩)
  have CS : ∀ w', Below w7.heap.size w7 w' → Calls Tryd.prog 15 #[.agg ca, .agg cb] w' _ := fun w' hb => osame_any a b ca cb Ta Ea Pa Tb Eb Pb ta ea pa tb eb pb w' (HA.out.below (HS7.out.go hb).b1.bel (Nat.le_refl _)) (HB.out.below (HS7.out.go hb).b1.bel (Nat.le_refl _)) HFA.out HFB.out LA.out.1 LA.out.2
  have CT : ∀ w', Below w7.heap.size w7 w' → Calls Tryd.prog 15 #[.agg ca, .agg ca] w' _ := fun w' hb => osame_any a a ca ca Ta Ea Pa Ta Ea Pa ta ea pa ta ea pa w' (HA.out.below (HS7.out.go hb).b1.bel (Nat.le_refl _)) (HA.out.below (HS7.out.go hb).b1.bel (Nat.le_refl _)) HFA.out HFA.out LA.out.1 LA.out.2
  have CR : ∀ w', Below w7.heap.size w7 w' → Calls Tryd.prog 14 #[.agg cx, .agg cy] w' _ := fun w' hb => rsame_any a b cx cy Tx Ex Px Ty Ey Py tx ex px ty ey py w' (HOX.out.below hb (Nat.le_refl _)) (HOY.out.below hb (Nat.le_refl _)) HFA.out HFB.out LA.out.1 LA.out.2
  have c0 : ∀ w', Below w7.heap.size w7 w' → w'.cell? ⟨w.heap.size, 0, none⟩ = some (.int .i64 a.kind) := fun w' hb => ((HS7.out.go hb).b1.at_.cell 0).trans KA.out
  have CW := fun w' => wanted_any a.kind w'
  have HV7b := HV7
  have HU7b := HU7
  clear hox hoy nX nY sma smb HX7 HY7
  rw [eqv_self] at CT
  generalize eqv a b = r at CS CR
  generalize a.kind = ak at *
  obtain ⟨wn, hwn⟩ : ∃ wn : Int, wn = if ak = 3 then 2 else 0 := ⟨_, rfl⟩
  rw [← hwn] at CW
  by_cases hk3 : ak = 3
  · have hwn2 : wn = 2 := by rw [hwn, if_pos hk3]
    subst hwn2
    have hb3 : (ak == 3) = true := by simp [hk3]
    clear hwn hk3
    go_wp2
    refine wp_region_held (S := (fun w' => Below w7.heap.size w7 w')) (by kernel_rfl) ?_
    change wpAnyH _ _ _ _ _ _ _ _ w7.drew
    have HS0 := Lib.hid (below_drewN (Below.refl w7.heap.size w7) 1)
    refine wpAnyH_take (i := 0) rfl (by kernel_rfl) (by kernel_rfl) (by kernel_rfl) (fun _ _ _ h => h) (takes_row 30 (.tmp 2) rfl (by rfl) w.heap.size rfl 30 ca _ (fun w' h => (HS7.out.go h).b1.at_) Tryd.underlying30 rfl NA.out) (HS0.out) ?_
    try simp only [Act.put, List.getElem_toArray, List.getElem_cons_zero, List.getElem_cons_succ, List.setIfInBounds_toArray, List.set_cons_zero, List.set_cons_succ]
    refine wpAnyH_take (i := 1) rfl (by kernel_rfl) (by kernel_rfl) (by kernel_rfl) (fun _ _ _ h => h) (takes_row 30 (.tmp 3) rfl (by rfl) (w.heap.size + 1) rfl 30 cb _ (fun w' h => (HS7.out.go h).b2.at_) Tryd.underlying30 rfl NB.out) (HS0.out) ?_
    try simp only [Act.put, List.getElem_toArray, List.getElem_cons_zero, List.getElem_cons_succ, List.setIfInBounds_toArray, List.set_cons_zero, List.set_cons_succ]
    refine wpAnyH_take (i := 3) rfl (by kernel_rfl) (by kernel_rfl) (by kernel_rfl) (fun _ _ _ h => h) (takes_row 38 (.tmp 5) rfl (by rfl) gx rfl 38 cx _ (fun w' h => HV7b.out.below h HV7b.out.lt) robj_under rfl NX.out) (HS0.out) ?_
    try simp only [Act.put, List.getElem_toArray, List.getElem_cons_zero, List.getElem_cons_succ, List.setIfInBounds_toArray, List.set_cons_zero, List.set_cons_succ]
    refine wpAnyH_take (i := 4) rfl (by kernel_rfl) (by kernel_rfl) (by kernel_rfl) (fun _ _ _ h => h) (takes_row 38 (.tmp 7) rfl (by rfl) gy rfl 38 cy _ (fun w' h => HU7b.out.below h HU7b.out.lt) robj_under rfl NY.out) (HS0.out) ?_
    try simp only [Act.put, List.getElem_toArray, List.getElem_cons_zero, List.getElem_cons_succ, List.setIfInBounds_toArray, List.set_cons_zero, List.set_cons_succ]
    refine all_one (i := 2) (by kernel_rfl) rfl (by rfl) (fun K hK => ?_)
    go_simp
    refine (CS _ HS0.out).mono ?_
    rintro e w11 ⟨rfl, hn⟩
    have HS11 : Hid (Below w7.heap.size w7 w11) := Lib.hid (below_next HS0.out hn)
    clear hn
    dsimp only
    refine hK _ _ HS11.out ?_; clear hK K
    try simp only [Act.put, List.getElem_toArray, List.getElem_cons_zero, List.getElem_cons_succ, List.setIfInBounds_toArray, List.set_cons_zero, List.set_cons_succ]
    refine all_one (i := 5) (by kernel_rfl) rfl (by rfl) (fun K hK => ?_)
    go_simp
    refine (CR _ HS11.out).mono ?_
    rintro e w12 ⟨rfl, hn⟩
    have HS12 : Hid (Below w7.heap.size w7 w12) := Lib.hid (below_next HS11.out hn)
    clear hn
    dsimp only
    refine hK _ _ HS12.out ?_; clear hK K
    try simp only [Act.put, List.getElem_toArray, List.getElem_cons_zero, List.getElem_cons_succ, List.setIfInBounds_toArray, List.set_cons_zero, List.set_cons_succ]
    have hrr : (r == r) = true := by simp
    refine wpAnyH_take (i := 6) (v := ?_) rfl (by kernel_rfl) (by kernel_rfl) (by kernel_rfl) (fun _ _ _ h => h) (Or.inl ⟨by rfl, ?_⟩) (HS12.out) ?_
    rotate_left
    · intro w' hw; go_simp; with_reducible rfl
    try simp only [Act.put, List.getElem_toArray, List.getElem_cons_zero, List.getElem_cons_succ, List.setIfInBounds_toArray, List.set_cons_zero, List.set_cons_succ]
    refine wpAnyH_take (i := 7) (v := ?_) rfl (by kernel_rfl) (by kernel_rfl) (by kernel_rfl) (fun _ _ _ h => h) (Or.inl ⟨by rfl, ?_⟩) (HS12.out) ?_
    rotate_left
    · intro w' hw; go_simp; with_reducible rfl
    try simp only [Act.put, List.getElem_toArray, List.getElem_cons_zero, List.getElem_cons_succ, List.setIfInBounds_toArray, List.set_cons_zero, List.set_cons_succ]
    refine wpAnyH_take (i := 8) rfl (by kernel_rfl) (by kernel_rfl) (by kernel_rfl) (fun _ _ _ h => h) (takes_row 30 (.tmp 2) rfl (by rfl) w.heap.size rfl 30 ca _ (fun w' h => (HS7.out.go h).b1.at_) Tryd.underlying30 rfl NA.out) (HS12.out) ?_
    try simp only [Act.put, List.getElem_toArray, List.getElem_cons_zero, List.getElem_cons_succ, List.setIfInBounds_toArray, List.set_cons_zero, List.set_cons_succ]
    refine wpAnyH_take (i := 9) rfl (by kernel_rfl) (by kernel_rfl) (by kernel_rfl) (fun _ _ _ h => h) (takes_row 30 (.tmp 2) rfl (by rfl) w.heap.size rfl 30 ca _ (fun w' h => (HS7.out.go h).b1.at_) Tryd.underlying30 rfl NA.out) (HS12.out) ?_
    try simp only [Act.put, List.getElem_toArray, List.getElem_cons_zero, List.getElem_cons_succ, List.setIfInBounds_toArray, List.set_cons_zero, List.set_cons_succ]
    refine all_one (i := 10) (by kernel_rfl) rfl (by rfl) (fun K hK => ?_)
    go_simp
    refine (CT _ HS12.out).mono ?_
    rintro e w13 ⟨rfl, hn⟩
    have HS13 : Hid (Below w7.heap.size w7 w13) := Lib.hid (below_next HS12.out hn)
    clear hn
    dsimp only
    refine hK _ _ HS13.out ?_; clear hK K
    try simp only [Act.put, List.getElem_toArray, List.getElem_cons_zero, List.getElem_cons_succ, List.setIfInBounds_toArray, List.set_cons_zero, List.set_cons_succ]
    refine wpAnyH_take (i := 11) (v := ?_) rfl (by kernel_rfl) (by kernel_rfl) (by kernel_rfl) (fun _ _ _ h => h) (Or.inl ⟨by rfl, ?_⟩) (HS13.out) ?_
    rotate_left
    · intro w' hw; go_simp; with_reducible rfl
    try simp only [Act.put, List.getElem_toArray, List.getElem_cons_zero, List.getElem_cons_succ, List.setIfInBounds_toArray, List.set_cons_zero, List.set_cons_succ]
    refine wpAnyH_take (i := 12) (v := ?_) rfl (by kernel_rfl) (by kernel_rfl) (by kernel_rfl) (fun _ _ _ h => h) (Or.inl ⟨by rfl, ?_⟩) (HS13.out) ?_
    rotate_left
    · intro w' hw; go_simp; with_reducible rfl
    try simp only [Act.put, List.getElem_toArray, List.getElem_cons_zero, List.getElem_cons_succ, List.setIfInBounds_toArray, List.set_cons_zero, List.set_cons_succ]
    refine wpAnyH_take (i := 13) (v := ?_) rfl (by kernel_rfl) (by kernel_rfl) (by kernel_rfl) (fun _ _ _ h => h) (Or.inl ⟨by rfl, ?_⟩) (HS13.out) ?_
    rotate_left
    · intro w' hw; go_simp; with_reducible rfl
    try simp only [Act.put, List.getElem_toArray, List.getElem_cons_zero, List.getElem_cons_succ, List.setIfInBounds_toArray, List.set_cons_zero, List.set_cons_succ]
    refine wpAnyH_take (i := 14) (v := ?_) rfl (by kernel_rfl) (by kernel_rfl) (by kernel_rfl) (fun _ _ _ h => h) (Or.inl ⟨by rfl, ?_⟩) (HS13.out) ?_
    rotate_left
    · intro w' hw; go_simp; with_reducible rfl
    try simp only [Act.put, List.getElem_toArray, List.getElem_cons_zero, List.getElem_cons_succ, List.setIfInBounds_toArray, List.set_cons_zero, List.set_cons_succ]
    refine wpAnyH_take (i := 16) (v := ?_) rfl (by kernel_rfl) (by kernel_rfl) (by kernel_rfl) (fun _ _ _ h => h) (Or.inl ⟨by rfl, ?_⟩) (HS13.out) ?_
    rotate_left
    · intro w' hw; go_simp; with_reducible rfl
    try simp only [Act.put, List.getElem_toArray, List.getElem_cons_zero, List.getElem_cons_succ, List.setIfInBounds_toArray, List.set_cons_zero, List.set_cons_succ]
    refine all_one (i := 15) (by kernel_rfl) rfl (by rfl) (fun K hK => ?_)
    go_simp
    refine (CW _).mono ?_
    rintro e w14 ⟨rfl, rfl⟩
    dsimp only
    refine hK _ _ HS13.out ?_; clear hK K
    try simp only [Act.put, List.getElem_toArray, List.getElem_cons_zero, List.getElem_cons_succ, List.setIfInBounds_toArray, List.set_cons_zero, List.set_cons_succ]
    refine wpAnyH_take (i := 17) (v := ?_) rfl (by kernel_rfl) (by kernel_rfl) (by kernel_rfl) (fun _ _ _ h => h) (Or.inl ⟨by rfl, ?_⟩) (HS13.out) ?_
    rotate_left
    · intro w' hw; go_simp; with_reducible rfl
    try simp only [Act.put, List.getElem_toArray, List.getElem_cons_zero, List.getElem_cons_succ, List.setIfInBounds_toArray, List.set_cons_zero, List.set_cons_succ]
    refine wpAnyH_take (i := 18) (v := ?_) rfl (by kernel_rfl) (by kernel_rfl) (by kernel_rfl) (fun _ _ _ h => h) (Or.inl ⟨by rfl, ?_⟩) (HS13.out) ?_
    rotate_left
    · intro w' hw; go_simp; with_reducible rfl
    try simp only [Act.put, List.getElem_toArray, List.getElem_cons_zero, List.getElem_cons_succ, List.setIfInBounds_toArray, List.set_cons_zero, List.set_cons_succ]
    refine wpAnyH_take (i := 19) (v := ?_) rfl (by kernel_rfl) (by kernel_rfl) (by kernel_rfl) (fun _ _ _ h => h) (Or.inl ⟨by rfl, ?_⟩) (HS13.out) ?_
    rotate_left
    · intro w' hw; go_simp; with_reducible rfl
    try simp only [Act.put, List.getElem_toArray, List.getElem_cons_zero, List.getElem_cons_succ, List.setIfInBounds_toArray, List.set_cons_zero, List.set_cons_succ]
    refine wpAnyH_done (by kernel_rfl) ?_ _
    go_wp2
    go_ret
    exact ⟨rfl, (HS7.out.go HS13.out).b1.bel⟩
  · have hwn2 : wn = 0 := by rw [hwn, if_neg hk3]
    subst hwn2
    have hb3 : (ak == 3) = false := by simp [hk3]
    clear hwn hk3
    go_wp2
    refine wp_region_held (S := (fun w' => Below w7.heap.size w7 w')) (by kernel_rfl) ?_
    change wpAnyH _ _ _ _ _ _ _ _ w7.drew
    have HS0 := Lib.hid (below_drewN (Below.refl w7.heap.size w7) 1)
    refine wpAnyH_take (i := 0) rfl (by kernel_rfl) (by kernel_rfl) (by kernel_rfl) (fun _ _ _ h => h) (takes_row 30 (.tmp 2) rfl (by rfl) w.heap.size rfl 30 ca _ (fun w' h => (HS7.out.go h).b1.at_) Tryd.underlying30 rfl NA.out) (HS0.out) ?_
    try simp only [Act.put, List.getElem_toArray, List.getElem_cons_zero, List.getElem_cons_succ, List.setIfInBounds_toArray, List.set_cons_zero, List.set_cons_succ]
    refine wpAnyH_take (i := 1) rfl (by kernel_rfl) (by kernel_rfl) (by kernel_rfl) (fun _ _ _ h => h) (takes_row 30 (.tmp 3) rfl (by rfl) (w.heap.size + 1) rfl 30 cb _ (fun w' h => (HS7.out.go h).b2.at_) Tryd.underlying30 rfl NB.out) (HS0.out) ?_
    try simp only [Act.put, List.getElem_toArray, List.getElem_cons_zero, List.getElem_cons_succ, List.setIfInBounds_toArray, List.set_cons_zero, List.set_cons_succ]
    refine wpAnyH_take (i := 3) rfl (by kernel_rfl) (by kernel_rfl) (by kernel_rfl) (fun _ _ _ h => h) (takes_row 38 (.tmp 5) rfl (by rfl) gx rfl 38 cx _ (fun w' h => HV7b.out.below h HV7b.out.lt) robj_under rfl NX.out) (HS0.out) ?_
    try simp only [Act.put, List.getElem_toArray, List.getElem_cons_zero, List.getElem_cons_succ, List.setIfInBounds_toArray, List.set_cons_zero, List.set_cons_succ]
    refine wpAnyH_take (i := 4) rfl (by kernel_rfl) (by kernel_rfl) (by kernel_rfl) (fun _ _ _ h => h) (takes_row 38 (.tmp 7) rfl (by rfl) gy rfl 38 cy _ (fun w' h => HU7b.out.below h HU7b.out.lt) robj_under rfl NY.out) (HS0.out) ?_
    try simp only [Act.put, List.getElem_toArray, List.getElem_cons_zero, List.getElem_cons_succ, List.setIfInBounds_toArray, List.set_cons_zero, List.set_cons_succ]
    refine all_one (i := 2) (by kernel_rfl) rfl (by rfl) (fun K hK => ?_)
    go_simp
    refine (CS _ HS0.out).mono ?_
    rintro e w11 ⟨rfl, hn⟩
    have HS11 : Hid (Below w7.heap.size w7 w11) := Lib.hid (below_next HS0.out hn)
    clear hn
    dsimp only
    refine hK _ _ HS11.out ?_; clear hK K
    try simp only [Act.put, List.getElem_toArray, List.getElem_cons_zero, List.getElem_cons_succ, List.setIfInBounds_toArray, List.set_cons_zero, List.set_cons_succ]
    refine all_one (i := 5) (by kernel_rfl) rfl (by rfl) (fun K hK => ?_)
    go_simp
    refine (CR _ HS11.out).mono ?_
    rintro e w12 ⟨rfl, hn⟩
    have HS12 : Hid (Below w7.heap.size w7 w12) := Lib.hid (below_next HS11.out hn)
    clear hn
    dsimp only
    refine hK _ _ HS12.out ?_; clear hK K
    try simp only [Act.put, List.getElem_toArray, List.getElem_cons_zero, List.getElem_cons_succ, List.setIfInBounds_toArray, List.set_cons_zero, List.set_cons_succ]
    have hrr : (r == r) = true := by simp
    refine wpAnyH_take (i := 6) (v := ?_) rfl (by kernel_rfl) (by kernel_rfl) (by kernel_rfl) (fun _ _ _ h => h) (Or.inl ⟨by rfl, ?_⟩) (HS12.out) ?_
    rotate_left
    · intro w' hw; go_simp; with_reducible rfl
    try simp only [Act.put, List.getElem_toArray, List.getElem_cons_zero, List.getElem_cons_succ, List.setIfInBounds_toArray, List.set_cons_zero, List.set_cons_succ]
    refine wpAnyH_take (i := 7) (v := ?_) rfl (by kernel_rfl) (by kernel_rfl) (by kernel_rfl) (fun _ _ _ h => h) (Or.inl ⟨by rfl, ?_⟩) (HS12.out) ?_
    rotate_left
    · intro w' hw; go_simp; with_reducible rfl
    try simp only [Act.put, List.getElem_toArray, List.getElem_cons_zero, List.getElem_cons_succ, List.setIfInBounds_toArray, List.set_cons_zero, List.set_cons_succ]
    refine wpAnyH_take (i := 8) rfl (by kernel_rfl) (by kernel_rfl) (by kernel_rfl) (fun _ _ _ h => h) (takes_row 30 (.tmp 2) rfl (by rfl) w.heap.size rfl 30 ca _ (fun w' h => (HS7.out.go h).b1.at_) Tryd.underlying30 rfl NA.out) (HS12.out) ?_
    try simp only [Act.put, List.getElem_toArray, List.getElem_cons_zero, List.getElem_cons_succ, List.setIfInBounds_toArray, List.set_cons_zero, List.set_cons_succ]
    refine wpAnyH_take (i := 9) rfl (by kernel_rfl) (by kernel_rfl) (by kernel_rfl) (fun _ _ _ h => h) (takes_row 30 (.tmp 2) rfl (by rfl) w.heap.size rfl 30 ca _ (fun w' h => (HS7.out.go h).b1.at_) Tryd.underlying30 rfl NA.out) (HS12.out) ?_
    try simp only [Act.put, List.getElem_toArray, List.getElem_cons_zero, List.getElem_cons_succ, List.setIfInBounds_toArray, List.set_cons_zero, List.set_cons_succ]
    refine all_one (i := 10) (by kernel_rfl) rfl (by rfl) (fun K hK => ?_)
    go_simp
    refine (CT _ HS12.out).mono ?_
    rintro e w13 ⟨rfl, hn⟩
    have HS13 : Hid (Below w7.heap.size w7 w13) := Lib.hid (below_next HS12.out hn)
    clear hn
    dsimp only
    refine hK _ _ HS13.out ?_; clear hK K
    try simp only [Act.put, List.getElem_toArray, List.getElem_cons_zero, List.getElem_cons_succ, List.setIfInBounds_toArray, List.set_cons_zero, List.set_cons_succ]
    refine wpAnyH_take (i := 11) (v := ?_) rfl (by kernel_rfl) (by kernel_rfl) (by kernel_rfl) (fun _ _ _ h => h) (Or.inl ⟨by rfl, ?_⟩) (HS13.out) ?_
    rotate_left
    · intro w' hw; go_simp; with_reducible rfl
    try simp only [Act.put, List.getElem_toArray, List.getElem_cons_zero, List.getElem_cons_succ, List.setIfInBounds_toArray, List.set_cons_zero, List.set_cons_succ]
    refine wpAnyH_take (i := 12) (v := ?_) rfl (by kernel_rfl) (by kernel_rfl) (by kernel_rfl) (fun _ _ _ h => h) (Or.inl ⟨by rfl, ?_⟩) (HS13.out) ?_
    rotate_left
    · intro w' hw; go_simp; with_reducible rfl
    try simp only [Act.put, List.getElem_toArray, List.getElem_cons_zero, List.getElem_cons_succ, List.setIfInBounds_toArray, List.set_cons_zero, List.set_cons_succ]
    refine wpAnyH_take (i := 13) (v := ?_) rfl (by kernel_rfl) (by kernel_rfl) (by kernel_rfl) (fun _ _ _ h => h) (Or.inl ⟨by rfl, ?_⟩) (HS13.out) ?_
    rotate_left
    · intro w' hw; go_simp; with_reducible rfl
    try simp only [Act.put, List.getElem_toArray, List.getElem_cons_zero, List.getElem_cons_succ, List.setIfInBounds_toArray, List.set_cons_zero, List.set_cons_succ]
    refine wpAnyH_take (i := 14) (v := ?_) rfl (by kernel_rfl) (by kernel_rfl) (by kernel_rfl) (fun _ _ _ h => h) (Or.inl ⟨by rfl, ?_⟩) (HS13.out) ?_
    rotate_left
    · intro w' hw; go_simp; with_reducible rfl
    try simp only [Act.put, List.getElem_toArray, List.getElem_cons_zero, List.getElem_cons_succ, List.setIfInBounds_toArray, List.set_cons_zero, List.set_cons_succ]
    refine wpAnyH_take (i := 16) (v := ?_) rfl (by kernel_rfl) (by kernel_rfl) (by kernel_rfl) (fun _ _ _ h => h) (Or.inl ⟨by rfl, ?_⟩) (HS13.out) ?_
    rotate_left
    · intro w' hw; go_simp; with_reducible rfl
    try simp only [Act.put, List.getElem_toArray, List.getElem_cons_zero, List.getElem_cons_succ, List.setIfInBounds_toArray, List.set_cons_zero, List.set_cons_succ]
    refine all_one (i := 15) (by kernel_rfl) rfl (by rfl) (fun K hK => ?_)
    go_simp
    refine (CW _).mono ?_
    rintro e w14 ⟨rfl, rfl⟩
    dsimp only
    refine hK _ _ HS13.out ?_; clear hK K
    try simp only [Act.put, List.getElem_toArray, List.getElem_cons_zero, List.getElem_cons_succ, List.setIfInBounds_toArray, List.set_cons_zero, List.set_cons_succ]
    refine wpAnyH_take (i := 17) (v := ?_) rfl (by kernel_rfl) (by kernel_rfl) (by kernel_rfl) (fun _ _ _ h => h) (Or.inl ⟨by rfl, ?_⟩) (HS13.out) ?_
    rotate_left
    · intro w' hw; go_simp; with_reducible rfl
    try simp only [Act.put, List.getElem_toArray, List.getElem_cons_zero, List.getElem_cons_succ, List.setIfInBounds_toArray, List.set_cons_zero, List.set_cons_succ]
    refine wpAnyH_take (i := 18) (v := ?_) rfl (by kernel_rfl) (by kernel_rfl) (by kernel_rfl) (fun _ _ _ h => h) (Or.inl ⟨by rfl, ?_⟩) (HS13.out) ?_
    rotate_left
    · intro w' hw; go_simp; with_reducible rfl
    try simp only [Act.put, List.getElem_toArray, List.getElem_cons_zero, List.getElem_cons_succ, List.setIfInBounds_toArray, List.set_cons_zero, List.set_cons_succ]
    refine wpAnyH_take (i := 19) (v := ?_) rfl (by kernel_rfl) (by kernel_rfl) (by kernel_rfl) (fun _ _ _ h => h) (Or.inl ⟨by rfl, ?_⟩) (HS13.out) ?_
    rotate_left
    · intro w' hw; go_simp; with_reducible rfl
    try simp only [Act.put, List.getElem_toArray, List.getElem_cons_zero, List.getElem_cons_succ, List.setIfInBounds_toArray, List.set_cons_zero, List.set_cons_succ]
    refine wpAnyH_done (by kernel_rfl) ?_ _
    go_wp2
    go_ret
    exact ⟨rfl, (HS7.out.go HS13.out).b1.bel⟩
end Go.Proofs.YtenodghocenjaaaDoor
