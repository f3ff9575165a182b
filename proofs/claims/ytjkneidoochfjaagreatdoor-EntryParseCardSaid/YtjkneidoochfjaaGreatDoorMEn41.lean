/- The law EntryParse. -/
import Derived.Test.YtjkneidoochfjaaGreatDoorMEn38
import Derived.Test.YtjkneidoochfjaaGreatDoorMEn40
namespace Go.Proofs.YtjkneidoochfjaaGreatDoor
open Go Go.RowKit
theorem marked_rdN {w : World} {v : Value} {xs : List Nat} (h : Marked w v xs) : Rd w v xs := by
  obtain ⟨b, c, rfl, hc, _, hb, hx⟩ := h
  refine ⟨_, c, rfl, by omega, fun _ => ⟨b, 0, rfl, hb, fun i hi => ?_⟩⟩
  rw [Nat.zero_add, hx i (by omega)]
  simp [List.getD, List.getElem?_append_left hi]
theorem marked_belowN {w w' : World} {v : Value} {xs : List Nat} (h : Marked w v xs) (hb : Below w.heap.size w w') : Marked w' v xs := by
  obtain ⟨b, c, hv, hc, hm, hbl, hx⟩ := h
  exact ⟨b, c, hv, hc, hm, Nat.lt_of_lt_of_le hbl hb.size, fun i hi => (hb.cell (p := ⟨b, i, none⟩) hbl).trans (hx i hi)⟩
namespace En
theorem step_small {c e : Nat} {ys : List Nat} (h : Oc.step c ys = .bad e) : e ≤ 3 := by
  unfold Oc.step at h
  repeat' split at h
  all_goals first | (injection h with h; omega) | (cases h)
theorem num_small {c e : Nat} {ys : List Nat} (h : num c ys = .bad e) : 0 < e ∧ e ≤ 3 := by
  unfold num at h
  split at h
  · rename_i k hk
    injection h with h
    subst h
    exact ⟨Oc.step_pos hk, step_small hk⟩
  · cases h
theorem txt_small {e : Nat} {ys : List Nat} (h : txt ys = .bad e) : 0 < e ∧ e ≤ 3 := by
  unfold txt at h
  split at h
  · rename_i k hk
    injection h with h
    subst h
    exact ⟨Oc.step_pos hk, step_small hk⟩
  · cases h
theorem oid_small {e : Nat} {ys : List Nat} (h : oid ys = .bad e) : 0 < e ∧ e ≤ 3 := by
  unfold oid at h
  split at h
  · rename_i k hk
    injection h with h
    subst h
    exact ⟨Oc.step_pos hk, step_small hk⟩
  · cases h
theorem rdUp_small {e : Nat} {ys : List Nat} (h : rdUp ys = .bad e) : 0 < e ∧ e ≤ 3 := by
  unfold rdUp at h
  split at h
  · rename_i k hk; injection h with h; subst h; exact txt_small hk
  · split at h
    · rename_i k hk; injection h with h; subst h; exact oid_small hk
    · split at h
      · rename_i k hk; injection h with h; subst h; exact oid_small hk
      · cases h
theorem many_small {α : Type} {f : List Nat → P α} (hf : ∀ ys e, f ys = .bad e → 0 < e ∧ e ≤ 3) : ∀ (n : Nat) (l : List α) (ys : List Nat) (e : Nat), many f n l ys = .bad e → 0 < e ∧ e ≤ 3
  | 0, l, ys, e, h => by unfold many at h; cases h
  | n + 1, l, ys, e, h => by
    cases hh : f ys with
    | bad k => rw [many_bad hh] at h; injection h with h; subst h; exact hf _ _ hh
    | ok a r => rw [many_next hh] at h; exact many_small hf n _ _ _ h
theorem parts_small {e : Nat} {ys : List Nat} (h : parts ys = .bad e) : 0 < e ∧ e ≤ 3 := by
  unfold parts at h
  split at h
  · rename_i k hk; injection h with h; subst h; exact num_small hk
  · split at h
    · rename_i k hk; injection h with h; subst h; exact num_small hk
    · split at h
      · rename_i k hk; injection h with h; subst h; exact num_small hk
      · split at h
        · rename_i k hk; injection h with h; subst h; exact num_small hk
        · split at h
          · rename_i k hk; injection h with h; subst h; exact many_small (fun _ _ h => rdUp_small h) _ _ _ _ hk
          · split at h
            · rename_i k hk; injection h with h; subst h; exact num_small hk
            · split at h
              · rename_i k hk; injection h with h; subst h; exact many_small (fun _ _ h => txt_small h) _ _ _ _ hk
              · cases h
theorem parse_small {e : Nat} {ys : List Nat} (h : parse ys = .bad e) : 0 < e ∧ e ≤ 13 := by
  unfold parse at h
  split at h
  · injection h with h; omega
  · split at h
    · rename_i k hk; injection h with h; subst h; have := parts_small hk; omega
    · split at h
      · injection h with h; omega
      · split at h
        · cases h
        · injection h with h; omega
end En
set_option maxRecDepth 100000 in
set_option maxHeartbeats 16000000 in
theorem eparse_law (xs : List Nat) (A : Option Addr) (c : Nat) (s : Nat → Addr) (w : World) (hv : Rd w (.slice A xs.length c) xs) (hb : Sha.Byte xs) (hS : Sents w s) (hm : MaxAt w) :
    Calls Tryz.prog 4 #[.slice A xs.length c] w fun r w' => r = .returned (.bool true) ∧ Below w.heap.size w w' := by
  have HV := Lib.hid hv
  have HY := Lib.hid hb
  have HSS := Lib.hid hS
  have HM := Lib.hid hm
  have CA := ealive_any s w (ESL.of hS).s hm
  obtain ⟨n, hn⟩ : ∃ n, n = xs.length := ⟨_, rfl⟩
  rw [← hn] at HV ⊢
  have HN := Lib.hid hn
  clear hv hb hS hm hn
  go_enter Tryz.func4, Tryz.ntmps4
  go_wp2_with (go_at_call 5; refine pause ?_)
  unfold Paused
  refine CA.mono ?_
  rintro r w3 ⟨rfl, hb3⟩
  have HB3 := Lib.hid hb3
  clear hb3 CA
  by_cases hl : 3500 < n
  · have i1 : (3500 : Int) < (n : Int) := by omega
    go_wp2
    go_ret
    exact ⟨rfl, HB3.out⟩
  have i1 : ¬ (3500 : Int) < (n : Int) := by omega
  have HL : Hid (n ≤ 3500) := Lib.hid (by omega)
  clear hl
  have HV3 : Hid (Rd w3 (.slice A n c) xs) := Lib.hid (HV.out.below HB3.out (Nat.le_refl _))
  go_wp2_with (go_at_call 17; refine pause ?_)
  unfold Paused
  refine (bytes_any (.slice A n c) xs w3 HV3.out HY.out (by rw [← HN.out]; have := HL.out; omega)).mono ?_
  rintro r w4 ⟨v4, rfl, hm4, hb4⟩
  obtain ⟨b4, c4, hv4⟩ : ∃ b c, v4 = .slice (some ⟨b, 0, none⟩) xs.length c := by obtain ⟨b, c, h, _⟩ := hm4; exact ⟨b, c, h⟩
  subst hv4
  have HB4 := Lib.hid (below_next HB3.out hb4)
  have HK4 := Lib.hid hm4
  have HV4 : Hid (Rd w4 (.slice A n c) xs) := Lib.hid (HV3.out.below hb4 (Nat.le_refl _))
  clear hb4 hm4 HB3 HV3 i1
  clear w3
  rw [← HN.out]
  have CP := eparse_any xs s (.slice (some ⟨b4, 0, none⟩) n c4) w4 (by rw [HN.out]; exact marked_rdN HK4.out) (Oc.bytes_of HY.out) ((ESL.of HSS.out).at_ HB4.out) (HM.out.below HB4.out (Nat.le_refl _))
  have CR := fun w' (hb : Below w4.heap.size w4 w') => rparseE_any xs A c w' (by rw [← HN.out]; exact HV4.out.below hb (Nat.le_refl _)) (Oc.bytes_of HY.out)
  rw [← HN.out] at CR
  have hk : (∃ k, En.parse xs = .bad k) ∨ ∃ en, En.parse xs = .ok en := by cases En.parse xs with | bad k => exact Or.inl ⟨k, rfl⟩ | ok en => exact Or.inr ⟨en, rfl⟩
  have HLE : Hid (xs.length ≤ 1099511627776) := Lib.hid (by rw [← HN.out]; have := HL.out; omega)
  rcases hk with ⟨k, hk⟩ | ⟨en, hk⟩
  · obtain ⟨k1, k2⟩ := En.parse_small hk
    have HPK := Lib.hid hk
    clear hk
    go_wp2_with (go_at_call 14; refine pause ?_)
    unfold Paused
    refine CP.mono ?_
    rintro r w5 ⟨hb5, hbad5, hx5⟩
    obtain rfl := hbad5 k HPK.out
    have HB5 := Lib.hid hb5
    clear hb5 hbad5 CP hx5
    go_wp2_with (with_reducible (show wpList _ _ _ (Oper.mk _ (Op.store 25 _ _) _ _ _ _ :: _) _ _); refine pause ?_)
    unfold Paused
    change wpList _ _ _ _ _ (w5.alloc (.cells zE 25))
    refine wpList_store_row (by rfl) 25 (.tmp 4) (.tmp 21) (by rfl) w5.heap.size zE (by rfl) (by rfl) 25 zE (Blk.new w5 _ _) (by kernel_rfl) (by rfl) zE_one ?_
    have HN6 := Lib.hid (boxed_in (w := w5) (T := 25) (zs := zE) (cs := zE))
    generalize (w5.alloc (.cells zE 25)).setRow w5.heap.size zE = w6 at HN6 ⊢
    have HB6 := Lib.hid (below_next HB5.out HN6.out.1)
    have HX6 := Lib.hid HN6.out.2
    clear HN6 HB5
    generalize w5.heap.size = g4 at HX6 ⊢
    clear w5
    simp only [Act.put]
    go_wp2_with (go_at_call 18; refine pause ?_)
    unfold Paused
    refine (CR w6 HB6.out).mono ?_
    rintro r w7 ⟨hb7, hbad7, hx7⟩
    obtain rfl := hbad7 k HPK.out
    have HB7 := Lib.hid (below_next HB6.out hb7)
    have HX7 := Lib.hid (HX6.out.up hb7)
    clear hb7 hbad7 CR HB6 HX6 hx7
    clear w6
    go_wp2_with (with_reducible (show wpList _ _ _ (Oper.mk _ (Op.store 29 _ _) _ _ _ _ :: _) _ _); refine pause ?_)
    unfold Paused
    change wpList _ _ _ _ _ (w7.alloc (.cells zR 29))
    refine wpList_store_row (by rfl) 29 (.tmp 6) (.tmp 26) (by rfl) w7.heap.size zR (by rfl) (by rfl) 29 zR (Blk.new w7 _ _) (rent5_load rfl) (by rfl) (by kernel_rfl) ?_
    have HN8 := Lib.hid (boxed_in (w := w7) (T := 29) (zs := zR) (cs := zR))
    generalize (w7.alloc (.cells zR 29)).setRow w7.heap.size zR = w8 at HN8 ⊢
    have HB8 := Lib.hid (below_next HB7.out HN8.out.1)
    have HX8 := Lib.hid (HX7.out.up HN8.out.1)
    clear HN8 HB7 HX7
    generalize w7.heap.size = g6
    clear w7
    simp only [Act.put]
    obtain ⟨j, rfl⟩ : ∃ j, k = j + 1 := ⟨k - 1, by omega⟩
    rw [show j + 1 - 1 = j by omega]
    have HJ : Hid (j < 22) := Lib.hid (by omega)
    clear k1 k2 HPK
    go_wp2_with (go_at_call 13; refine pause ?_)
    unfold Paused
    refine (num_any j HJ.out s w8 (HSS.out.below (below_next HB4.out HB8.out) (Nat.le_refl _))).mono ?_
    rintro r w9 ⟨rfl, hb9⟩
    have HB9 := Lib.hid (below_next HB8.out hb9)
    have HX9 := Lib.hid (HX8.out.up hb9)
    clear hb9 HB8 HX8
    clear w8
    have HV9 : Hid (Rd w9 (.slice A n c) xs) := Lib.hid (HV4.out.below HB9.out (Nat.le_refl _))
    have HK9 : Hid (Marked w9 (.slice (some ⟨b4, 0, none⟩) n c4) xs) := Lib.hid (by rw [HN.out]; exact marked_belowN HK4.out HB9.out)
    have i2 : ¬ ((j + 1 : Nat) : Int) = 0 := by omega
    obtain ⟨kk, hkk⟩ : ∃ kk : Int, kk = ((j + 1 : Nat) : Int) := ⟨_, rfl⟩
    rw [← hkk] at i2 ⊢
    clear hkk
    go_wp2_with (go_at_call 19; refine pause ?_)
    unfold Paused
    refine (kept_any _ _ xs w9 HK9.out HV9.out HLE.out).mono ?_
    rintro r w10 ⟨rfl, m, rfl⟩
    have HBa := Lib.hid (below_drewN HB9.out m)
    have HXa := Lib.hid (HX9.out.up (below_drewN (Below.refl _ w9) m))
    have p1 : (w9.drewN m).cell? ⟨g4, 1, none⟩ = some (.int .i64 0) := HXa.out.cell 1
    have p3 : (w9.drewN m).cell? ⟨g4, 3, none⟩ = some (.slice none 0 0) := HXa.out.cell 3
    have p4 : (w9.drewN m).cell? ⟨g4, 4, none⟩ = some (.slice none 0 0) := HXa.out.cell 4
    have HF := Lib.hid (below_next HB4.out HBa.out)
    clear HB9 HX9 HV9 HK9 HBa HXa
    generalize w9.drewN m = wa at p1 p3 p4 HF ⊢
    clear w9
    go_wp2
    go_ret
    exact ⟨rfl, HF.out⟩
  · obtain ⟨hlaid, hright, hrd⟩ := En.parse_inv (Oc.bytes_of HY.out) hk
    have HPK := Lib.hid hk
    have HLA := Lib.hid hlaid
    have HRI := Lib.hid hright
    clear hk hlaid hright hrd
    go_wp2_with (go_at_call 14; refine pause ?_)
    unfold Paused
    refine CP.mono ?_
    rintro r w5 ⟨hb5, hx5, hok5⟩
    obtain ⟨ce, Ue, cue, Oe, coe, te, rfl, heo⟩ := hok5 en HPK.out
    have HB5 := Lib.hid hb5
    have HE5 := Lib.hid heo.enc
    have HC5 := Lib.hid (And.intro heo.size heo.one)
    clear hb5 hok5 CP heo hx5
    go_wp2_with (with_reducible (show wpList _ _ _ (Oper.mk _ (Op.store 25 _ _) _ _ _ _ :: _) _ _); refine pause ?_)
    unfold Paused
    change wpList _ _ _ _ _ (w5.alloc (.cells zE 25))
    refine wpList_store_row (by rfl) 25 (.tmp 4) (.tmp 21) (by rfl) w5.heap.size ce (by rfl) (by rfl) 25 zE (Blk.new w5 _ _) (ent_load HC5.out.1) (by rw [HC5.out.1]; rfl) HC5.out.2 ?_
    have HN6 := Lib.hid (boxed_in (w := w5) (T := 25) (zs := zE) (cs := ce))
    generalize (w5.alloc (.cells zE 25)).setRow w5.heap.size ce = w6 at HN6 ⊢
    have HB6 := Lib.hid (below_next HB5.out HN6.out.1)
    have HX6 := Lib.hid HN6.out.2
    have HE6 := Lib.hid (HE5.out.below HN6.out.1)
    clear HN6 HB5 HE5
    generalize w5.heap.size = g4 at HX6 ⊢
    clear w5
    simp only [Act.put]
    go_wp2_with (go_at_call 18; refine pause ?_)
    unfold Paused
    refine (CR w6 HB6.out).mono ?_
    rintro r w7 ⟨hb7, hx7, hok7⟩
    obtain ⟨cr, Ur, cur, Or_, cor, tr, rfl, her, h1r⟩ := hok7 en HPK.out
    have HB7 := Lib.hid (below_next HB6.out hb7)
    have HX7 := Lib.hid (HX6.out.up hb7)
    have HE7 := Lib.hid (HE6.out.below hb7)
    have HR7 := Lib.hid her
    have HC7 : Hid (cr.size = 5 ∧ cr.all (·.oneCell') = true) := Lib.hid ⟨her.size, h1r⟩
    clear hb7 hok7 CR HB6 HX6 HE6 her h1r hx7
    clear w6
    go_wp2_with (with_reducible (show wpList _ _ _ (Oper.mk _ (Op.store 29 _ _) _ _ _ _ :: _) _ _); refine pause ?_)
    unfold Paused
    change wpList _ _ _ _ _ (w7.alloc (.cells zR 29))
    refine wpList_store_row (by rfl) 29 (.tmp 6) (.tmp 26) (by rfl) w7.heap.size cr (by rfl) (by rfl) 29 zR (Blk.new w7 _ _) (rent5_load HC7.out.1) (by rw [HC7.out.1]; rfl) HC7.out.2 ?_
    have HN8 := Lib.hid (boxed_in (w := w7) (T := 29) (zs := zR) (cs := cr))
    generalize (w7.alloc (.cells zR 29)).setRow w7.heap.size cr = w8 at HN8 ⊢
    have HB8 := Lib.hid (below_next HB7.out HN8.out.1)
    have HX8 := Lib.hid (HX7.out.up HN8.out.1)
    have HE8 := Lib.hid (HE7.out.below HN8.out.1)
    have HR8 := Lib.hid (HR7.out.below HN8.out.1)
    have HXR := Lib.hid HN8.out.2
    clear HN8 HB7 HX7 HE7 HR7
    generalize w7.heap.size = g6 at HXR ⊢
    clear w7
    simp only [Act.put]
    go_wp2_with (go_at_call 13; refine pause ?_)
    unfold Paused
    refine (num_nil w8).mono ?_
    rintro r w9 ⟨rfl, rfl⟩
    have HV9 : Hid (Rd w9 (.slice A n c) xs) := Lib.hid (HV4.out.below HB8.out (Nat.le_refl _))
    have HK9 : Hid (Marked w9 (.slice (some ⟨b4, 0, none⟩) n c4) xs) := Lib.hid (by rw [HN.out]; exact marked_belowN HK4.out HB8.out)
    go_wp2_with (go_at_call 19; refine pause ?_)
    unfold Paused
    refine (kept_any _ _ xs w9 HK9.out HV9.out HLE.out).mono ?_
    rintro r w10 ⟨rfl, m, rfl⟩
    have hd : Below w9.heap.size w9 (w9.drewN m) := below_drewN (Below.refl _ w9) m
    have HBa := Lib.hid (below_next HB8.out hd)
    have HXa := Lib.hid (HX8.out.up hd)
    have HEa := Lib.hid (HE8.out.below hd)
    have HRa := Lib.hid (HR8.out.below hd)
    have HXS := Lib.hid (HXR.out.up hd)
    clear hd HB8 HX8 HE8 HR8 HXR HV9 HK9
    generalize w9.drewN m = wa at HBa HXa HEa HRa HXS ⊢
    clear w9
    go_wp2_with (with_reducible (show wpList _ _ _ (Oper.mk _ (Op.load 25 _) _ _ _ _ :: _) _ _); refine pause ?_)
    unfold Paused
    refine wpList_row_w (by rfl) 25 (.tmp 4) (by rfl) g4 (by rfl) 25 ce _ HXa.out (by first | exact Tryz.underlying25 | kernel_rfl) (by rfl) (ent_load HC5.out.1) ?_
    go_wp2_with (go_at_call 6; refine pause ?_)
    unfold Paused
    refine (eof_any en ce Ue Oe cue coe te wa HEa.out).mono ?_
    rintro r wb ⟨hbb, hok4, hno4⟩
    have hk4 : ∃ cx ok, r = .returned (.tuple #[.agg cx, .bool ok]) ∧ cx.size = 5 ∧ cx.all (·.oneCell') = true ∧ ok = En.few en ∧ (ok = true → ∃ Ux cux, EnC wb en cx Ux cux Oe coe te) := by
      cases hf : En.few en with
      | true =>
        obtain ⟨Ux, cux, hr, hx⟩ := hok4 hf
        exact ⟨_, true, hr, rfl, ecs1 _ _ _ _ _ _, rfl, fun _ => ⟨Ux, cux, hx⟩⟩
      | false =>
        obtain ⟨cs, hr, h5, h1⟩ := hno4 hf
        exact ⟨cs, false, hr, h5, h1, rfl, fun h => by cases h⟩
    obtain ⟨cx, okx, rfl, h5x, h1x, hokx, hex⟩ := hk4
    have H5X := Lib.hid h5x
    have H1X := Lib.hid h1x
    have HOKX := Lib.hid hokx
    have HEX := Lib.hid hex
    have HBb := Lib.hid (below_next HBa.out hbb)
    have HXb := Lib.hid (HXa.out.up hbb)
    have HEb := Lib.hid (HEa.out.below hbb)
    have HRb := Lib.hid (HRa.out.below hbb)
    have HXT := Lib.hid (HXS.out.up hbb)
    clear hbb hok4 hno4 h5x h1x hokx hex HBa HXa HEa HRa HXS
    clear wa
    go_wp2_with (with_reducible (show wpList _ _ _ (Oper.mk _ (Op.store 29 _ _) _ _ _ _ :: _) _ _); refine pause ?_)
    unfold Paused
    change wpList _ _ _ _ _ (wb.alloc (.cells zR 29))
    refine wpList_store_row (by rfl) 29 (.tmp 8) (.tmp 56) (by rfl) wb.heap.size cx (by rfl) (by rfl) 29 zR (Blk.new wb _ _) (rnt_load H5X.out) (by rw [H5X.out]; rfl) H1X.out ?_
    have HNc := Lib.hid (boxed_in (w := wb) (T := 29) (zs := zR) (cs := cx))
    generalize (wb.alloc (.cells zR 29)).setRow wb.heap.size cx = wc at HNc ⊢
    have HBc := Lib.hid (below_next HBb.out HNc.out.1)
    have HXc := Lib.hid (HXb.out.up HNc.out.1)
    have HEc := Lib.hid (HEb.out.below HNc.out.1)
    have HRc := Lib.hid (HRb.out.below HNc.out.1)
    have HXU := Lib.hid (HXT.out.up HNc.out.1)
    have HXV := Lib.hid HNc.out.2
    have HEY : Hid (okx = true → ∃ Ux cux, EnC wc en cx Ux cux Oe coe te) := Lib.hid (fun h => by
      obtain ⟨Ux, cux, hx⟩ := HEX.out h
      exact ⟨Ux, cux, hx.below HNc.out.1⟩)
    clear HNc HBb HXb HEb HRb HXT HEX
    generalize wb.heap.size = g8 at HXV ⊢
    clear wb
    simp only [Act.put]
    have hfr := En.formed_frm (En.right_both HRI.out).1
    go_wp2_with (with_reducible (show wpList _ _ _ (Oper.mk _ (Op.load 25 _) _ _ _ _ :: _) _ _); refine pause ?_)
    unfold Paused
    refine wpList_row_w (by rfl) 25 (.tmp 4) (by rfl) g4 (by rfl) 25 ce _ HXc.out (by first | exact Tryz.underlying25 | kernel_rfl) (by rfl) (ent_load HC5.out.1) ?_
    have hB := below_next HB4.out HBc.out
    have CB := ebytes_any en ce Ue Oe cue coe te s wc HEc.out ((ESL.of HSS.out).s.at_ hB) (HM.out.below hB (Nat.le_refl _)) (by have := hfr.nu; omega)
    have HFR := Lib.hid hfr
    clear hB hfr
    go_wp2_with (go_at_call 7; refine pause ?_)
    unfold Paused
    refine CB.mono ?_
    rintro r wd ⟨hbd, hxd, hokd⟩
    obtain ⟨vd, rfl, hpd⟩ := hokd (En.laid en) (En.bytes_ok (En.right_both HRI.out).1 (En.right_both HRI.out).2)
    obtain ⟨Ad, cd, hvd⟩ := own_slice hpd.own
    subst hvd
    have hrd := hpd.rd
    rw [HLA.out, ← HN.out] at hrd
    have HRD := Lib.hid hrd
    have HBd := Lib.hid (below_next HBc.out hbd)
    have HVd : Hid (Rd wd (.slice A n c) xs) := Lib.hid (HV4.out.below HBd.out (Nat.le_refl _))
    have HRd := Lib.hid (HRc.out.below hbd)
    have HXW := Lib.hid (HXU.out.up hbd)
    have HXY := Lib.hid (HXV.out.up hbd)
    have HEZ : Hid (okx = true → ∃ Ux cux, EnC wd en cx Ux cux Oe coe te) := Lib.hid (fun h => by
      obtain ⟨Ux, cux, hx⟩ := HEY.out h
      exact ⟨Ux, cux, hx.below hbd⟩)
    rw [show (En.laid en).length = n by rw [HLA.out, ← HN.out]]
    obtain ⟨T, hT⟩ : ∃ T, T = textOf xs := ⟨_, rfl⟩
    have q1 : (convert 32 9 (.slice Ad n cd)).run Tryz.prog wd = .ok (.string T) wd := by rw [hT]; exact conv_rd HRD.out
    have q2 : (convert 32 9 (.slice A n c)).run Tryz.prog wd = .ok (.string T) wd := by rw [hT]; exact conv_rd HVd.out
    have HFIN : Hid (∀ w', Below wd.heap.size wd w' → Below w.heap.size w w') := Lib.hid (fun w' h => below_next (below_next HB4.out HBd.out) h)
    have HNU : Hid (en.ups.length ≤ 1000 ∧ en.objs.length ≤ 100000) := Lib.hid (by have h1 := HFR.out.nu; have h2 := HFR.out.no; omega)
    clear hbd hxd hokd hpd hrd hT CB HBc HXc HEc HRc HXU HXV HEY HBd HVd
    clear wc
    cases okx
    · go_wp2
      go_ret
      exact ⟨rfl, HFIN.out _ (Below.refl _ _)⟩
    obtain ⟨Ux, cux, hx⟩ := HEZ.out rfl
    have HX := Lib.hid hx
    clear hx HEZ
    have CE := rsame_any en en cx cr Ux Oe Ur Or_ cux coe cur cor te tr wd HX.out HRd.out HNU.out.1 HNU.out.2
    rw [eqv_refl] at CE
    go_wp2_with (with_reducible (show wpList _ _ _ (Oper.mk _ (Op.load 29 _) _ _ _ _ :: _) _ _); refine pause ?_)
    unfold Paused
    refine wpList_row_w (by rfl) 29 (.tmp 8) (by rfl) g8 (by rfl) 29 cx _ HXY.out (by first | exact Tryz.underlying29 | kernel_rfl) (by rfl) (rnt_load H5X.out) ?_
    go_wp2_with (with_reducible (show wpList _ _ _ (Oper.mk _ (Op.load 29 _) _ _ _ _ :: _) _ _); refine pause ?_)
    unfold Paused
    refine wpList_row_w (by rfl) 29 (.tmp 6) (by rfl) g6 (by rfl) 29 cr _ HXW.out (by first | exact Tryz.underlying29 | kernel_rfl) (by rfl) (rent5_load HC7.out.1) ?_
    go_wp2_with (go_at_call 20; refine pause ?_)
    unfold Paused
    refine CE.mono ?_
    rintro r we ⟨rfl, hbe⟩
    have HF := Lib.hid (HFIN.out _ hbe)
    clear hbe
    go_wp2
    go_ret
    exact ⟨rfl, HF.out⟩
end Go.Proofs.YtjkneidoochfjaaGreatDoor
