/- The law DeltaApply. -/
import Derived.Test.YthagldpgibpbdaaDoorDl22
namespace Go.Proofs.YthagldpgibpbdaaDoor
open Go Go.RowKit Go.Shelf
/-- an error value, or none -/
def eoV (a : Nat → Addr) : Option Nat → Value
  | none => .nilIface
  | some k => ev (a k)
theorem numo_any (o : Option Nat) (h : ∀ k, o = some k → k < 22) (a : Nat → Addr) (w : World) (hs : Sents w a) :
    Calls Tryd.prog 11 #[eoV a o] w fun e w' => e = .returned (.int .i64 ((Dl.eno o : Nat) : Int)) ∧ Below w.heap.size w w' := by
  cases o with
  | none => exact (num_nil w).mono fun e w' ⟨he, hw⟩ => ⟨he, hw ▸ Below.refl _ _⟩
  | some k => exact num_any k (h k rfl) a w hs
namespace Dl
def outL : Res → List Nat
  | .err _ => []
  | .ok l => l
def outE : Res → Option Nat
  | .err k => some k
  | .ok _ => none
theorem runE_err (base d : List Nat) (to : Nat) : ∀ (l : List Ev) (out : List Nat) (k : Nat), outE (runE base d to l out) = some k → k ≤ 3
  | [], out, k, h => by
    rw [runE] at h
    split at h
    · injection h with h; omega
    · cases h
  | .bad s :: _, out, k, h => by
    rw [runE] at h
    injection h with h
    cases s <;> simp at h <;> omega
  | .copy n f :: r, out, k, h => by
    rw [runE] at h
    split at h
    · injection h with h; omega
    · split at h
      · injection h with h; omega
      · exact runE_err base d to r _ k h
  | .fresh n f :: r, out, k, h => by
    rw [runE] at h
    split at h
    · injection h with h; omega
    · exact runE_err base d to r _ k h
theorem applyP_err (base d : List Nat) (k : Nat) (h : outE (applyP base d) = some k) : k < 22 := by
  unfold applyP at h
  split at h
  · injection h with h; omega
  · split at h
    · injection h with h; omega
    · split at h
      · injection h with h; omega
      · have := runE_err _ _ _ _ _ _ h; omega
theorem cnt_err : ∀ (l : List Ev) (a b k : Nat), (cnt l a b).2.2 = some k → k ≤ 3
  | [], _, _, _, h => by cases h
  | .bad s :: _, _, _, k, h => by injection h with h; cases s <;> simp at h <;> omega
  | .copy _ _ :: r, a, b, k, h => cnt_err r (a + 1) b k h
  | .fresh _ _ :: r, a, b, k, h => cnt_err r a (b + 1) k h
theorem stepsP_err (d : List Nat) (k : Nat) (h : (stepsP d).2.2 = some k) : k < 22 := by
  unfold stepsP at h
  split at h
  · injection h with h; omega
  · have := cnt_err _ _ _ _ h; omega
end Dl
theorem rd_nilD (w : World) : Rd w (.slice none 0 0) [] := ⟨none, 0, rfl, Nat.le_refl _, fun h => absurd h (by simp)⟩
theorem ApplyPost.one {r : Dl.Res} {ea : Nat → Addr} {w : World} {e : Ending} {w' : World} (h : ApplyPost r ea w e w') : ∃ v, e = .returned (.tuple #[v, eoV ea (Dl.outE r)]) ∧ Rd w' v (Dl.outL r) ∧ Below w.heap.size w w' := by
  cases r with
  | err k => exact ⟨_, h.1, rd_nilD _, h.2⟩
  | ok l => obtain ⟨v, he, hp⟩ := h; exact ⟨v, he, hp.rd, hp.bel⟩
theorem RApplyPost.one {r : Dl.Res} {w : World} {e : Ending} {w' : World} (h : RApplyPost r w e w') : ∃ v, e = .returned (.tuple #[v, .int .i64 ((Dl.eno (Dl.outE r) : Nat) : Int)]) ∧ Rd w' v (Dl.outL r) ∧ Below w.heap.size w w' := by
  cases r with
  | err k => exact ⟨_, h.1, rd_nilD _, h.2⟩
  | ok l => obtain ⟨v, he, hp⟩ := h; exact ⟨v, he, hp.rd, hp.bel⟩
theorem StepsPost.one {r : Nat × Nat × Option Nat} {ea : Nat → Addr} {w : World} {e : Ending} {w' : World} (h : StepsPost r ea w e w') : e = .returned (.tuple #[.int .i64 (r.1 : Int), .int .i64 (r.2.1 : Int), eoV ea r.2.2]) ∧ Below w.heap.size w w' := by
  obtain ⟨a, b, o⟩ := r
  cases o <;> exact h
theorem rapply_any (A A2 : Option Addr) (nb cb n c : Nat) (base d : List Nat) (w : World) (hB : Rd w (.slice A nb cb) base) (hD : Rd w (.slice A2 n c) d) (hb : Sha.Byte d) (hbb : Sha.Byte base) (hl : n ≤ 500) (hlb : nb ≤ 400) :
    Calls Tryd.prog 10 #[.slice A nb cb, .slice A2 n c] w (RApplyPost (Dl.applyP base d) w) := by
  by_cases h : n < 4 ∨ Dl.two d 0 ≠ nb ∨ 300 < Dl.two d 2
  · exact rapply_first A A2 nb cb n c base d w hB hD hb hl hlb h
  · have h1 : 4 ≤ n ∧ Dl.two d 0 = nb ∧ Dl.two d 2 ≤ 300 := by
      refine ⟨?_, ?_, ?_⟩
      · exact Nat.le_of_not_lt fun k => h (.inl k)
      · exact Classical.not_not.1 fun k => h (.inr (.inl k))
      · exact Nat.le_of_not_lt fun k => h (.inr (.inr k))
    exact rapply_run A A2 nb cb n c base d w hB hD hb hbb hl hlb h1.1 h1.2.1 h1.2.2
theorem steps_all (A : Option Addr) (n c : Nat) (d : List Nat) (ea : Nat → Addr) (w : World) (hD : Rd w (.slice A n c) d) (hb : Sha.Byte d) (hS : SSents w ea) (hl : d.length ≤ 1000000) :
    Calls Tryd.prog 13 #[.slice A n c] w (StepsPost (Dl.stepsP d) ea w) := by
  by_cases h4 : d.length < 4
  · have en : n = d.length := by obtain ⟨_, _, hv, _⟩ := hD; injection hv
    rw [en]
    exact steps_short A c d ea w hS h4
  · exact steps_count A n c d ea w hD hb hS (by omega) hl
theorem marked_belowD {w w' : World} {v : Value} {xs : List Nat} (h : Marked w v xs) {B : Nat} (hb : Below B w w') (hB : w.heap.size ≤ B) : Marked w' v xs := by
  obtain ⟨b, c, hv, h1, h2, h3, h4⟩ := h
  exact ⟨b, c, hv, h1, h2, Nat.lt_of_lt_of_le h3 hb.size, fun i hi => (hb.cell (p := ⟨b, i, none⟩) (Nat.lt_of_lt_of_le h3 hB)).trans (h4 i hi)⟩
theorem marked_rdD {w : World} {v : Value} {xs : List Nat} (h : Marked w v xs) : Rd w v xs := by
  obtain ⟨b, c, hv, h1, h2, h3, h4⟩ := h
  refine ⟨_, c, hv, by omega, fun h0 => ⟨b, 0, rfl, h3, fun i hi => ?_⟩⟩
  rw [Nat.zero_add, h4 i (by omega)]
  rw [List.getD_eq_getElem?_getD, List.getD_eq_getElem?_getD, List.getElem?_append_left hi]
theorem two_nums {x y p : Nat} (hx : x < 256) (hy : y < 256) (t : p = x * 256 + y) :
    ∃ r : Nat, wrap64 (x : Int) = (x : Int) ∧ wrap64 (y : Int) = (y : Int) ∧ wrap64 ((x : Int) * 256) = (r : Int) ∧ wrap64 ((r : Int) + (y : Int)) = (p : Int) := by
  refine ⟨x * 256, w64m (by omega) (by omega), w64m (by omega) (by omega), (w64m (by omega) (by omega)).trans (by omega), (w64m (by omega) (by omega)).trans (by omega)⟩
set_option maxRecDepth 100000 in
set_option maxHeartbeats 2000000 in
theorem dapplylaw (A A2 : Option Addr) (nb cb n c : Nat) (base d : List Nat) (ea : Nat → Addr) (w : World) (hB : Rd w (.slice A nb cb) base) (hD : Rd w (.slice A2 n c) d) (bb : Sha.Byte base) (bd : Sha.Byte d) (hS : Sents w ea) (hm : MX w) :
    Calls Tryd.prog 3 #[.slice A nb cb, .slice A2 n c] w fun e w' => e = .returned (.bool true) ∧ Below w.heap.size w w' := by
  have en : n = d.length := by obtain ⟨_, _, hv, _⟩ := hD; injection hv
  have eb : nb = base.length := by obtain ⟨_, _, hv, _⟩ := hB; injection hv
  have AL := dalive_any w hm
  by_cases h1 : 400 < nb
  · have g1 : (400 : Int) < nb := by omega
    clear hB hD en eb bb bd hS hm
    go_enter Tryd.func3, Tryd.ntmps3
    go_wp2_with (go_at_call 7; refine AL.mono ?_; rintro e w1 ⟨rfl, hb1⟩)
    go_ret
    exact ⟨rfl, hb1⟩
  by_cases h2 : 500 < n
  · have g1 : ¬ (400 : Int) < nb := by omega
    have g2 : (500 : Int) < n := by omega
    clear hB hD en eb bb bd hS hm
    go_enter Tryd.func3, Tryd.ntmps3
    go_wp2_with (go_at_call 7; refine AL.mono ?_; rintro e w1 ⟨rfl, hb1⟩)
    go_ret
    exact ⟨rfl, hb1⟩
  have g1 : ¬ (400 : Int) < nb := by omega
  have g2 : ¬ (500 : Int) < n := by omega
  have HB := Lib.hid hB
  have HD := Lib.hid hD
  have HBB := Lib.hid bb
  have HBD := Lib.hid bd
  have HS := Lib.hid hS
  have HEN := Lib.hid en
  have HEB := Lib.hid eb
  have HLL := Lib.hid (show nb ≤ 400 ∧ n ≤ 500 from ⟨by omega, by omega⟩)
  clear hB hD en eb bb bd hS hm h1 h2
  obtain ⟨r, hr⟩ : ∃ r, r = Dl.applyP base d := ⟨_, rfl⟩
  obtain ⟨s, hs⟩ : ∃ s, s = Dl.stepsP d := ⟨_, rfl⟩
  have HR := Lib.hid hr
  have HSP := Lib.hid hs
  have rE : ∀ k, Dl.outE r = some k → k < 22 := fun k h => Dl.applyP_err base d k (by rw [← HR.out]; exact h)
  have sE : ∀ k, s.2.2 = some k → k < 22 := fun k h => Dl.stepsP_err d k (by rw [← HSP.out]; exact h)
  have HRE := Lib.hid rE
  have HSE := Lib.hid sE
  clear hr hs rE sE
  go_enter Tryd.func3, Tryd.ntmps3
  go_wp2_with (go_at_call 7; refine AL.mono ?_; rintro e w1 ⟨rfl, hb1⟩; refine pause ?_)
  unfold Paused
  have H1 := Lib.hid hb1
  clear hb1 AL
  go_wp2_with (go_at_call 8; refine pause ?_)
  unfold Paused
  refine (bytes_any _ base w1 (HB.out.below H1.out (Nat.le_refl _)) HBB.out (by rw [← HEB.out]; have := HLL.out; omega)).mono ?_
  rintro e w2 ⟨vx, rfl, hmx, hb2⟩
  have H2 := Lib.hid (H1.out.trans (hb2.mono H1.out.size))
  clear hb2
  go_wp2_with (go_at_call 8; refine pause ?_)
  unfold Paused
  refine (bytes_any _ d w2 (HD.out.below H2.out (Nat.le_refl _)) HBD.out (by rw [← HEN.out]; have := HLL.out; omega)).mono ?_
  rintro e w3 ⟨vy, rfl, hmy, hb3⟩
  have H3 := Lib.hid (H2.out.trans (hb3.mono H2.out.size))
  have HMX := Lib.hid (marked_belowD hmx hb3 (Nat.le_refl _))
  have HMY := Lib.hid hmy
  clear hb3 hmx hmy
  have hrx := marked_rdD HMX.out
  have hry := marked_rdD HMY.out
  obtain ⟨Ax, cx, rfl, _, _⟩ := hrx
  obtain ⟨Ay, cy, rfl, _, _⟩ := hry
  rw [← HEB.out, ← HEN.out]
  have HRX : Hid (Rd w3 (.slice Ax nb cx) base) := Lib.hid (by rw [HEB.out]; exact marked_rdD HMX.out)
  have HRY : Hid (Rd w3 (.slice Ay n cy) d) := Lib.hid (by rw [HEN.out]; exact marked_rdD HMY.out)
  have HMX2 : Hid (Marked w3 (.slice Ax nb cx) base) := Lib.hid (by rw [HEB.out]; exact HMX.out)
  have HMY2 : Hid (Marked w3 (.slice Ay n cy) d) := Lib.hid (by rw [HEN.out]; exact HMY.out)
  clear HMX HMY
  go_wp2_with (go_at_call 9; refine pause ?_)
  unfold Paused
  refine (dapply Ax Ay nb cx n cy base d ea w3 HRX.out HRY.out HBD.out (ASents.of (HS.out.below H3.out (Nat.le_refl _)))).mono ?_
  intro e w4 hp4
  rw [← HR.out] at hp4
  obtain ⟨v4, rfl, hr4, hb4⟩ := hp4.one
  have H4 := Lib.hid (H3.out.trans (hb4.mono H3.out.size))
  have HR4 := Lib.hid hr4
  have HB4 := Lib.hid hb4
  clear hp4 hr4 hb4
  obtain ⟨er, her⟩ : ∃ x, x = eoV ea (Dl.outE r) := ⟨_, rfl⟩
  rw [← her]
  have HER := Lib.hid her
  clear her
  go_wp2_with (go_at_call 10; refine pause ?_)
  unfold Paused
  refine (rapply_any A A2 nb cb n c base d w4 (HB.out.below H4.out (Nat.le_refl _)) (HD.out.below H4.out (Nat.le_refl _)) HBD.out HBB.out HLL.out.2 HLL.out.1).mono ?_
  intro e w5 hp5
  rw [← HR.out] at hp5
  obtain ⟨v5, rfl, hr5, hb5⟩ := hp5.one
  have H5 := Lib.hid (H4.out.trans (hb5.mono H4.out.size))
  have HR5 := Lib.hid hr5
  have HB5 := Lib.hid (HB4.out.trans (hb5.mono HB4.out.size))
  have HR45 := Lib.hid (HR4.out.below hb5 (Nat.le_refl _))
  clear hp5 hr5 hb5 HB4
  obtain ⟨en, hen⟩ : ∃ x, x = Dl.eno (Dl.outE r) := ⟨_, rfl⟩
  rw [← hen]
  have HEN2 := Lib.hid hen
  clear hen
  go_wp2_with (go_at_call 11; refine pause ?_)
  unfold Paused
  rw [HER.out]
  refine (numo_any (Dl.outE r) HRE.out ea w5 (HS.out.below H5.out (Nat.le_refl _))).mono ?_
  rintro e w6 ⟨rfl, hb6⟩
  rw [← HER.out, ← HEN2.out]
  have H6 := Lib.hid (H5.out.trans (hb6.mono H5.out.size))
  have HB6 := Lib.hid (HB5.out.trans (hb6.mono HB5.out.size))
  obtain ⟨A4, c4, rfl, _, _⟩ := HR4.out
  obtain ⟨A5, c5, rfl, _, _⟩ := HR5.out
  have q1 : (convert 22 9 (.slice A4 (Dl.outL r).length c4)).run Tryd.prog w6 = .ok (.string (textOf (Dl.outL r))) w6 := conv_rd (HR45.out.below hb6 (Nat.le_refl _))
  have q2 : (convert 22 9 (.slice A5 (Dl.outL r).length c5)).run Tryd.prog w6 = .ok (.string (textOf (Dl.outL r))) w6 := conv_rd (HR5.out.below hb6 (Nat.le_refl _))
  have KX := kept_any (.slice Ax nb cx) (.slice A nb cb) base w6 (marked_belowD HMX2.out HB6.out (Nat.le_refl _)) (HB.out.below H6.out (Nat.le_refl _)) (by rw [← HEB.out]; have := HLL.out; omega)
  have KY := fun k => kept_any (.slice Ay n cy) (.slice A2 n c) d (w6.drewN k) (marked_belowD HMY2.out (below_drewN HB6.out k) (Nat.le_refl _)) (HD.out.below (below_drewN H6.out k) (Nat.le_refl _)) (by rw [← HEN.out]; have := HLL.out; omega)
  generalize (Dl.outL r).length = l4 at *
  generalize textOf (Dl.outL r) = T4 at *
  clear hb6 HR4 HR5 HR45
  go_wp2_with (go_at_call 12; refine pause ?_)
  unfold Paused
  refine KX.mono ?_
  rintro e w7 ⟨rfl, k1, rfl⟩
  go_wp2_with (go_at_call 12; refine pause ?_)
  unfold Paused
  refine (KY k1).mono ?_
  rintro e w8 ⟨rfl, k2, rfl⟩
  have H8 := Lib.hid (below_drewN H6.out (k1 + k2))
  have e8 : (w6.drewN k1).drewN k2 = w6.drewN (k1 + k2) := by simp
  rw [e8]
  obtain ⟨w8, hw8⟩ : ∃ w8, w8 = w6.drewN (k1 + k2) := ⟨_, rfl⟩
  rw [← hw8] at H8 ⊢
  clear e8 q1 q2 KX KY hw8 HB6
  go_wp2_with (go_at_call 13; refine pause ?_)
  unfold Paused
  refine (steps_all A2 n c d ea w8 (HD.out.below H8.out (Nat.le_refl _)) HBD.out (SSents.of (ASents.of (HS.out.below H8.out (Nat.le_refl _)))) (by rw [← HEN.out]; have := HLL.out; omega)).mono ?_
  intro e w9 hp9
  rw [← HSP.out] at hp9
  obtain ⟨rfl, hb9⟩ := hp9.one
  have H9 := Lib.hid (H8.out.trans (hb9.mono H8.out.size))
  clear hp9 hb9
  obtain ⟨es, hes⟩ : ∃ x, x = eoV ea s.2.2 := ⟨_, rfl⟩
  rw [← hes]
  have HES := Lib.hid hes
  obtain ⟨s1, hs1⟩ : ∃ x, x = s.1 := ⟨_, rfl⟩
  obtain ⟨s2, hs2⟩ : ∃ x, x = s.2.1 := ⟨_, rfl⟩
  have CR := rsteps_any A2 n c d w9 (HD.out.below H9.out (Nat.le_refl _)) HBD.out (by rw [← HEN.out]; have := HLL.out; omega)
  rw [← HSP.out, ← hs1, ← hs2] at CR
  rw [← hs1, ← hs2]
  clear hes hs1 hs2
  go_wp2_with (go_at_call 14; refine pause ?_)
  unfold Paused
  refine CR.mono ?_
  rintro e w10 ⟨rfl, rfl⟩
  obtain ⟨ns, hns⟩ : ∃ x, x = Dl.eno s.2.2 := ⟨_, rfl⟩
  rw [← hns]
  have HNS := Lib.hid hns
  clear hns CR
  go_wp2_with (go_at_call 11; refine pause ?_)
  unfold Paused
  rw [HES.out]
  refine (numo_any s.2.2 HSE.out ea w10 (HS.out.below H9.out (Nat.le_refl _))).mono ?_
  rintro e w11 ⟨rfl, hb11⟩
  rw [← HES.out, ← HNS.out]
  have H11 := Lib.hid (H9.out.trans (hb11.mono H9.out.size))
  clear hb11
  by_cases h4 : n < 4
  · have SZ := sizes_short A2 c d (ea 1) w11 (by rw [← HEN.out]; exact h4) ((HS.out 1 (by omega)).below H11.out (Nat.le_refl _)).var
    rw [← HEN.out] at SZ
    have g4 : (n : Int) < 4 := by omega
    go_wp2_with (go_at_call 15; refine pause ?_)
    unfold Paused
    refine SZ.mono ?_
    rintro e w12 ⟨rfl, k3, rfl⟩
    clear SZ
    go_wp2_with (go_at_call 11; refine pause ?_)
    unfold Paused
    refine (num_any 1 (by omega) ea (w11.drewN k3) (HS.out.below (below_drewN H11.out k3) (Nat.le_refl _))).mono ?_
    rintro e w13 ⟨rfl, hb13⟩
    have H13 := Lib.hid ((below_drewN H11.out k3).trans (hb13.mono H11.out.size))
    clear hb13
    go_wp2
    go_ret
    exact ⟨rfl, H13.out⟩
  · have SZ := sizes_any A2 n c d w11 (HD.out.below H11.out (Nat.le_refl _)) HBD.out (by rw [← HEN.out]; omega)
    obtain ⟨e0, hc, b, o, rfl, hbw, hx⟩ := HD.out.blk (by rw [← HEN.out]; omega)
    clear e0
    have x0 : w11.cell? ⟨b, o, none⟩ = some (.int .u8 ((d.getD 0 0 : Nat) : Int)) := (H11.out.cell (p := ⟨b, o, none⟩) hbw).trans (hx 0 (by rw [← HEN.out]; omega))
    have x1 := (H11.out.cell (p := ⟨b, o + 1, none⟩) hbw).trans (hx 1 (by rw [← HEN.out]; omega))
    have x2 := (H11.out.cell (p := ⟨b, o + 2, none⟩) hbw).trans (hx 2 (by rw [← HEN.out]; omega))
    have x3 := (H11.out.cell (p := ⟨b, o + 3, none⟩) hbw).trans (hx 3 (by rw [← HEN.out]; omega))
    have y0 := HBD.out 0
    have y1 := HBD.out 1
    have y2 := HBD.out 2
    have y3 := HBD.out 3
    have t0 : Dl.two d 0 = d.getD 0 0 * 256 + d.getD 1 0 := rfl
    have t2 : Dl.two d 2 = d.getD 2 0 * 256 + d.getD 3 0 := rfl
    obtain ⟨p0, hp0⟩ : ∃ x, x = Dl.two d 0 := ⟨_, rfl⟩
    obtain ⟨p2, hp2⟩ : ∃ x, x = Dl.two d 2 := ⟨_, rfl⟩
    rw [← hp0, ← hp2] at SZ
    rw [← hp0] at t0
    rw [← hp2] at t2
    clear hp0 hp2 hx
    generalize d.getD 0 0 = d0 at *
    generalize d.getD 1 0 = d1 at *
    generalize d.getD 2 0 = d2 at *
    generalize d.getD 3 0 = d3 at *
    obtain ⟨r0, v0, v1, u0, u1⟩ := two_nums y0 y1 t0
    obtain ⟨r2, v2, v3, u2, u3⟩ := two_nums y2 y3 t2
    have U0 := Lib.hid (And.intro (And.intro v0 v1) (And.intro u0 u1))
    have U2 := Lib.hid (And.intro (And.intro v2 v3) (And.intro u2 u3))
    clear v0 v1 v2 v3 u0 u1 u2 u3 y0 y1 y2 y3 t0 t2
    have g4 : ¬ (n : Int) < 4 := by omega
    have U := Lib.hid (show (0 < n ∧ 1 < n) ∧ 2 < n ∧ 3 < n from ⟨⟨by omega, by omega⟩, by omega, by omega⟩)
    clear h4 hc hbw
    go_wp2_with (go_at_call 15; refine pause ?_)
    unfold Paused
    refine SZ.mono ?_
    rintro e w12 ⟨rfl, k3, rfl⟩
    clear SZ
    go_wp2
    obtain ⟨⟨l0, l1⟩, l2, l3⟩ := U.out
    obtain ⟨⟨v0, v1⟩, u0, u1⟩ := U0.out
    obtain ⟨⟨v2, v3⟩, u2, u3⟩ := U2.out
    clear U U0 U2
    go_quiet (fail)
    go_wp2
    go_ret
    refine ⟨?_, below_drewN (below_drewN H11.out _) _⟩
    first | rfl | (simp [v0, v1, v2, v3, u0, u1, u2, u3, Array.getD]; done)
end Go.Proofs.YthagldpgibpbdaaDoor
