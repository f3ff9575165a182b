/- Rows of entries compared (slices.Equal). -/
import Derived.Test.YtenodghocenjaaaDoorOb3
namespace Go.Proofs.YtenodghocenjaaaDoor
open Go Go.RowKit
theorem eqE_any (A B : Option Addr) (c d : Nat) (xs ys : List Ent) (w : World) (hx : RdK w (.slice A xs.length c) xs.length (cellsE xs)) (hy : RdK w (.slice B ys.length d) ys.length (cellsE ys)) (fx : ∀ x ∈ xs, Id32 x.id) (fy : ∀ x ∈ ys, Id32 x.id) (lx : xs.length ≤ 1000) :
    Calls Tryd.prog 27 #[.slice A xs.length c, .slice B ys.length d] w fun e w' => e = .returned (.bool (eqv xs ys)) ∧ ∃ m, w' = w.drewN m := by
  have HX := Lib.hid hx
  have HY := Lib.hid hy
  clear hx hy
  by_cases hl : xs.length = ys.length
  · have b0 : ((xs.length : Int) != (ys.length : Int)) = false := by simp; omega
    have HL := Lib.hid hl
    clear hl
    go_enter Tryd.func27, Tryd.ntmps27
    go_wp2
    go_loopw [13] (fun i wr => ∃ k n : Nat, k ≤ xs.length ∧ i = .int .i64 k ∧ Hid (xs.take k = ys.take k) ∧ wr = w.drewN n) (fun i _ => xs.length - (intOf i).toNat)
    case atStart => exact ⟨0, 0, Nat.zero_le _, rfl, Lib.hid rfl, rfl⟩
    case round =>
      obtain ⟨k, n, hk, rfl, HT, rfl⟩ := hrel
      by_cases hlt : k < xs.length
      · have hlt2 : k < ys.length := by rw [← HL.out]; exact hlt
        obtain ⟨b1, o1, rfl, _, g1⟩ := HX.out.ent rfl fx hlt
        obtain ⟨b2, o2, rfl, _, g2⟩ := HY.out.ent rfl fy hlt2
        have l1 : ∀ m, (Instr.loadAt 63 (.pointer (some ⟨b1, o1 + k * 33, none⟩))).run Tryd.prog (w.drewN m) = .ok (.agg (cellsE1 xs[k]).toArray) (w.drewN m) := fun m => run_loadAt_mid (w.drewN m) b1 (o1 + k * 33) 63 _ _ g1 Tryd.underlying63 rfl (by rw [cellsE1_len (fx _ (List.getElem_mem _))]; kernel_rfl)
        have l2 : ∀ m, (Instr.loadAt 63 (.pointer (some ⟨b2, o2 + k * 33, none⟩))).run Tryd.prog (w.drewN m) = .ok (.agg (cellsE1 ys[k]).toArray) (w.drewN m) := fun m => run_loadAt_mid (w.drewN m) b2 (o2 + k * 33) 63 _ _ g2 Tryd.underlying63 rfl (by rw [cellsE1_len (fy _ (List.getElem_mem _))]; kernel_rfl)
        have q0 : ∀ m, (Op.equalIn 10000 63 (.agg (cellsE1 xs[k]).toArray) (.agg (cellsE1 ys[k]).toArray)).run Tryd.prog (w.drewN m) = .ok (eqv xs[k] ys[k]) (w.drewN m) := fun m => ent_eq _ _ _ (fx _ (List.getElem_mem _)) (fy _ (List.getElem_mem _))
        have HS := Lib.hid (show xs[k] = ys[k] → xs.take (k + 1) = ys.take (k + 1) from take_all hlt hlt2 HT.out)
        have HNE := Lib.hid (show xs[k] ≠ ys[k] → eqv xs ys = false from fun h => eqv_false fun e => by subst e; exact h rfl)
        generalize xs[k] = x at l1 q0 HS HNE
        generalize ys[k] = y at l2 q0 HS HNE
        clear g1 g2
        have i0 : ((k : Nat) : Int) < xs.length := by omega
        have i1 : (0 : Int) ≤ ((k : Nat) : Int) := by omega
        have i2 : ((k : Nat) : Int) < ys.length := by omega
        generalize (cellsE1 x).toArray = cx at l1 q0
        generalize (cellsE1 y).toArray = cy at l2 q0
        rcases Classical.em (x = y) with e | e
        · have HN := Lib.hid (HS.out e)
          have hb : eqv x y = true := eqv_true e
          rw [hb] at q0
          have HQ := Lib.hid q0
          clear HS HNE e hb q0
          go_wp2
          refine wp_region_quiet_lit (by kernel_rfl) (by kernel_rfl) ?_
          repeat (first
            | go_big_quiet_step (fail)
            | (go_big_quiet_want; refine quiet_load 63 (.tmp 18) rfl _ rfl _ (by rintro _ ⟨m, rfl⟩; rw [World.drewN_drewN]; exact l1 _) ?_; go_big_quiet_on; simp only [Act.put, List.setIfInBounds_toArray, List.set_cons_zero, List.set_cons_succ])
            | (go_big_quiet_want; refine quiet_load 63 (.tmp 22) rfl _ rfl _ (by rintro _ ⟨m, rfl⟩; rw [World.drewN_drewN]; exact l2 _) ?_; go_big_quiet_on; simp only [Act.put, List.setIfInBounds_toArray, List.set_cons_zero, List.set_cons_succ])
            | (go_big_quiet_want; refine quiet_ne 63 (.tmp 19) (.tmp 23) _ rfl cx cy rfl rfl (by kernel_rfl) true (by rintro _ ⟨m, rfl⟩; rw [World.drewN_drewN]; exact HQ.out _) ?_; go_big_quiet_on; simp only [Act.put, List.setIfInBounds_toArray, List.set_cons_zero, List.set_cons_succ]))
          refine wpQuiet_nil ?_
          rintro _ ⟨nq, rfl⟩
          go_wp2
          go_roundw
          case rel => exact ⟨k + 1, n + nq, by omega, by go_num, HN, by simp⟩
          case measure => simp [intOf]; omega
        · have HN := Lib.hid (HNE.out e)
          have hb : eqv x y = false := eqv_false e
          rw [hb] at q0
          have HQ := Lib.hid q0
          clear HS HNE e hb q0
          go_wp2
          refine wp_region_quiet_lit (by kernel_rfl) (by kernel_rfl) ?_
          repeat (first
            | go_big_quiet_step (fail)
            | (go_big_quiet_want; refine quiet_load 63 (.tmp 18) rfl _ rfl _ (by rintro _ ⟨m, rfl⟩; rw [World.drewN_drewN]; exact l1 _) ?_; go_big_quiet_on; simp only [Act.put, List.setIfInBounds_toArray, List.set_cons_zero, List.set_cons_succ])
            | (go_big_quiet_want; refine quiet_load 63 (.tmp 22) rfl _ rfl _ (by rintro _ ⟨m, rfl⟩; rw [World.drewN_drewN]; exact l2 _) ?_; go_big_quiet_on; simp only [Act.put, List.setIfInBounds_toArray, List.set_cons_zero, List.set_cons_succ])
            | (go_big_quiet_want; refine quiet_ne 63 (.tmp 19) (.tmp 23) _ rfl cx cy rfl rfl (by kernel_rfl) false (by rintro _ ⟨m, rfl⟩; rw [World.drewN_drewN]; exact HQ.out _) ?_; go_big_quiet_on; simp only [Act.put, List.setIfInBounds_toArray, List.set_cons_zero, List.set_cons_succ]))
          refine wpQuiet_nil ?_
          rintro _ ⟨nq, rfl⟩
          go_wp2
          go_ret
          exact ⟨by rw [HN.out]; rfl, _, by simp; rfl⟩
      · have H : Hid (eqv xs ys = true) := Lib.hid (eqv_true (by
          have h := HT.out
          rw [List.take_of_length_le (by omega), List.take_of_length_le (by rw [← HL.out]; omega)] at h
          exact h))
        go_wp2
        go_ret
        exact ⟨by rw [H.out]; rfl, n, rfl⟩
  · have b0 : ((xs.length : Int) != (ys.length : Int)) = true := by simp; omega
    have HN := Lib.hid (show eqv xs ys = false from eqv_false fun e => by subst e; exact hl rfl)
    clear hl
    go_enter Tryd.func27, Tryd.ntmps27
    go_wp2
    go_ret
    exact ⟨by rw [HN.out]; rfl, 0, rfl⟩
end Go.Proofs.YtenodghocenjaaaDoor
