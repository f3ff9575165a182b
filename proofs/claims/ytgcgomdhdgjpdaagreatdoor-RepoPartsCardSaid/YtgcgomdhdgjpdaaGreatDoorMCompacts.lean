/- The walk of slices.Compact at digests. -/
import Derived.Test.YtgcgomdhdgjpdaaGreatDoorMCl5s
import Derived.Test.YtgcgomdhdgjpdaaGreatDoorMOb30s
import Derived.Test.YtgcgomdhdgjpdaaGreatDoorMEn11s
import Derived.Test.YtgcgomdhdgjpdaaGreatDoorMOct4s
import Derived.Shelf.Small.Strs
import Derived.Lib.UnsafeStr
import Derived.Lib.Bytealg
import Derived.Deep.RegionWith
namespace Go.Proofs.YtgcgomdhdgjpdaaGreatDoor
open Go Go.RowKit
theorem oid_sz : ∀ w, (sizeOf 5).run Tryz.prog w = .ok 1 w := fun w => by simp [Tryz.sizeOf5]
theorem oid_info' : (Tryz.prog.info? 41).map (·.size) = some 32 := by kernel_rfl
theorem eq_oid (xs ys : List Nat) (hx : xs.length = 32 ∧ Sha.Byte xs) (hy : ys.length = 32 ∧ Sha.Byte ys) (w : World) :
  (Op.equalIn 10000 41 (.agg (u8s xs)) (.agg (u8s ys))).run Tryz.prog w = .ok (xs == ys) w :=
 run_equalIn_u8s w 41 5 32 Tryz.underlying41 Tryz.underlying5 oid_sz xs ys hx.1 hy.1 hx.2 hy.2
theorem zc_len (n : Nat) : (Builtin.zeroCells (Value.agg (u8s (List.replicate 32 0))).cells n).toList.length = 32 * n := by
 have h : (Value.agg (u8s (List.replicate 32 0))).cells = u8s (List.replicate 32 0) := rfl
 have hz : (u8s (List.replicate 32 0)).size = 32 := by rw [u8s_size]; rfl
 rw [h]
 generalize u8s (List.replicate 32 0) = z at hz ⊢
 simp [Builtin.zeroCells, hz, Nat.mul_comm]
theorem zc_one (n : Nat) : ∀ v ∈ (Builtin.zeroCells (Value.agg (u8s (List.replicate 32 0))).cells n).toList, v.oneCell' = true := by
 have h : (Value.agg (u8s (List.replicate 32 0))).cells = u8s (List.replicate 32 0) := rfl
 have hz : (u8s (List.replicate 32 0)).size = 32 := by rw [u8s_size]; rfl
 have ho := u8s_one (List.replicate 32 0)
 rw [h]
 generalize u8s (List.replicate 32 0) = z at hz ho ⊢
 intro v hv
 simp only [Builtin.zeroCells, Array.toList_map, List.mem_map] at hv
 obtain ⟨i, _, rfl⟩ := hv
 have hi : i % z.size < z.size := Nat.mod_lt _ (by omega)
 rw [getElem!_pos z _ hi]
 exact (Array.all_eq_true_iff_forall_mem.1 ho) _ (Array.getElem_mem hi)
structure Kept (w0 : World) (B b : Nat) (r : List (List Nat)) (w' : World) : Prop where
 row : ∀ i, i < r.length → w'.rangeAt b (32 * i) (cellsN (r.getD i []))
 bel : Below B w0 w'
set_option maxRecDepth 100000 in
set_option maxHeartbeats 2000000 in
theorem compact_any (b c : Nat) (l : List (List Nat)) (w0 w : World) (B : Nat) (hl : Sha.Oids l) (hz : l.length < 1099511627776) (hr : OidRow w b l) (hc : l.length ≤ c) (hc2 : c < 1099511627776) (hB : B ≤ b) (hbel : Below B w0 w) :
  Calls Tryz.prog 68 #[.slice (some ⟨b, 0, none⟩) l.length c] w fun e w' => e = .returned (.slice (some ⟨b, 0, none⟩) (Sha.compK l l.length).length c) ∧ Kept w0 B b (Sha.compK l l.length) w' := by
 have HR := Lib.hid hr
 have HBEL := Lib.hid hbel
 have HL := Lib.hid hl
 clear hr hbel hl
 obtain ⟨n, hn⟩ : ∃ n, n = l.length := ⟨_, rfl⟩
 rw [← hn] at hz hc ⊢
 have HN := Lib.hid hn
 clear hn
 by_cases h2 : n < 2
 ·go_enter Tryz.func68, Tryz.ntmps68
  go_wp2_with fail
  go_ret
  have e : Sha.compK l n = l := by
   rw [Sha.compK_take l n (by rw [HN.out]; omega) (fun i h1 h3 => by omega), HN.out, List.take_length]
  rw [e]
  exact ⟨by rw [HN.out]; rfl, HR.out.at_, HBEL.out⟩
 ·go_enter Tryz.func68, Tryz.ntmps68
  go_wp2_with fail
  go_loopw [3] (fun i wr => ∃ k : Nat, 1 ≤ k ∧ k ≤ n ∧ i = .int .i64 k ∧ (∀ j, 0 < j → j < k → l.getD j [] ≠ l.getD (j - 1) []) ∧ ∃ m, wr = w.drewN m) (fun i _ => n - (intOf i).toNat)
  case atStart => exact ⟨1, by omega, by omega, rfl, fun j h1 h3 => by omega, 0, rfl⟩
  case round =>
   obtain ⟨k, hk1, hk, rfl, hne, md, rfl⟩ := hrel
   have HNE := Lib.hid hne
   clear hne
   by_cases hlt : k < n
   ·have i0 : (0 : Int) ≤ ((k : Nat) : Int) := by omega
    have i1 : ((k : Nat) : Int) < n := by omega
    have i2 : (0 : Int) ≤ ((k : Nat) : Int) - 1 := by omega
    have i3 : ((k : Nat) : Int) - 1 < n := by omega
    have ok1 := HL.out.getD (i := k) (by rw [← HN.out]; exact hlt)
    have ok2 := HL.out.getD (i := k - 1) (by rw [← HN.out]; omega)
    have ha1 : ∀ w', (∃ m, w' = (w.drewN md).drewN m) → w'.rangeAt b (32 * k) (cellsN (l.getD k [])) := by
     rintro w' ⟨m, rfl⟩; exact ((HR.out.drewN md).drewN m).at_ k (by rw [← HN.out]; exact hlt)
    have ha2 : ∀ w', (∃ m, w' = (w.drewN md).drewN m) → w'.rangeAt b (32 * (k - 1)) (cellsN (l.getD (k - 1) [])) := by
     rintro w' ⟨m, rfl⟩; exact ((HR.out.drewN md).drewN m).at_ (k - 1) (by rw [← HN.out]; omega)
    have W1 : IntKind.i64.wrap (((k : Nat) : Int) - 1) = ((k : Nat) : Int) - 1 := IntWalk.i64_in _ (by omega)
    have x1 := fun w' => run_index_k (P := Tryz.prog) Tryz.underlying106 oid_info' b 0 n c k hlt (ii := (k : Int)) rfl w'
    have x2 := fun w' => run_index_k (P := Tryz.prog) Tryz.underlying106 oid_info' b 0 n c (k - 1) (by omega) (ii := (k : Int) - 1) (by omega) w'
    simp only [Nat.zero_add] at x1 x2
    obtain ⟨xa, hxa⟩ : ∃ x, x = l.getD k [] := ⟨_, rfl⟩
    obtain ⟨xb, hxb⟩ : ∃ x, x = l.getD (k - 1) [] := ⟨_, rfl⟩
    rw [← hxa] at ok1 ha1
    rw [← hxb] at ok2 ha2
    have HXA := Lib.hid hxa
    have HXB := Lib.hid hxb
    clear hxa hxb
    have HA1 := Lib.hid ha1
    have HA2 := Lib.hid ha2
    have OK1 := Lib.hid ok1
    have OK2 := Lib.hid ok2
    have heq := eq_oid _ _ ok1 ok2
    clear ha1 ha2 ok1 ok2
    have HLX1 := Lib.hid (show (cellsN xa).length = 32 by rw [cellsN_len]; exact OK1.out.1)
    have HLX2 := Lib.hid (show (cellsN xb).length = 32 by rw [cellsN_len]; exact OK2.out.1)
    by_cases he : xa = xb
    ·have hbq : (xa == xb) = true := by rw [he]; exact beq_self_eq_true _
     rw [hbq] at heq
     have HE : Hid (l.getD k [] = l.getD (k - 1) []) := Lib.hid (by rw [← HXA.out, ← HXB.out]; exact he)
     clear hbq he
     go_wp2_with fail
     refine wp_region_held (S := (fun w' => ∃ m, w' = (w.drewN md).drewN m)) (by kernel_rfl) ?_
     change wpAnyH _ _ _ _ _ _ _ _ (w.drewN md).drew
     refine wpAnyH_take (i := 0) (v := ?_) rfl (by kernel_rfl) (by kernel_rfl) (by kernel_rfl) (fun _ _ _ h => h) (Or.inl ⟨by rfl, ?_⟩) (⟨1, rfl⟩) ?_
     rotate_left
     ·intro w _; go_simp; with_reducible rfl
     try simp only [Act.put, List.getElem_toArray, List.getElem_cons_zero, List.setIfInBounds_toArray, List.set_cons_zero, List.set_cons_succ]
     refine wpAnyH_take (i := 1) (v := ?_) rfl (by kernel_rfl) (by kernel_rfl) (by kernel_rfl) (fun _ _ _ h => h) (Or.inl ⟨by rfl, ?_⟩) (⟨1, rfl⟩) ?_
     rotate_left
     ·intro w _; go_simp; with_reducible rfl
     try simp only [Act.put, List.getElem_toArray, List.getElem_cons_zero, List.getElem_cons_succ, List.setIfInBounds_toArray, List.set_cons_zero, List.set_cons_succ]
     refine wpAnyH_take (i := 2) (v := ?_) rfl (by kernel_rfl) (by kernel_rfl) (by kernel_rfl) (fun _ _ _ h => h) (Or.inl ⟨by rfl, ?_⟩) (⟨1, rfl⟩) ?_
     rotate_left
     ·intro w _; go_simp; with_reducible rfl
     try simp only [Act.put, List.getElem_toArray, List.getElem_cons_zero, List.getElem_cons_succ, List.setIfInBounds_toArray, List.set_cons_zero, List.set_cons_succ]
     refine wpAnyH_take (i := 3) rfl (by kernel_rfl) (by kernel_rfl) (by kernel_rfl) (fun _ _ _ h => h) (yieldsIf_load_mid (by rfl) 41 _ rfl b _ rfl _ _ HA1.out Tryz.underlying41 rfl (by rw [HLX1.out]; exact oid_info')) (⟨1, rfl⟩) ?_
     try simp only [Act.put, List.getElem_toArray, List.getElem_cons_zero, List.getElem_cons_succ, List.setIfInBounds_toArray, List.set_cons_zero, List.set_cons_succ]
     refine wpAnyH_take (i := 4) (v := ?_) rfl (by kernel_rfl) (by kernel_rfl) (by kernel_rfl) (fun _ _ _ h => h) (Or.inl ⟨by rfl, ?_⟩) (⟨1, rfl⟩) ?_
     rotate_left
     ·intro w _; go_simp; with_reducible rfl
     try simp only [Act.put, List.getElem_toArray, List.getElem_cons_zero, List.getElem_cons_succ, List.setIfInBounds_toArray, List.set_cons_zero, List.set_cons_succ]
     refine wpAnyH_take (i := 5) (v := ?_) rfl (by kernel_rfl) (by kernel_rfl) (by kernel_rfl) (fun _ _ _ h => h) (Or.inl ⟨by rfl, ?_⟩) (⟨1, rfl⟩) ?_
     rotate_left
     ·intro w _; go_simp; with_reducible rfl
     try simp only [Act.put, List.getElem_toArray, List.getElem_cons_zero, List.getElem_cons_succ, List.setIfInBounds_toArray, List.set_cons_zero, List.set_cons_succ]
     refine wpAnyH_take (i := 6) (v := ?_) rfl (by kernel_rfl) (by kernel_rfl) (by kernel_rfl) (fun _ _ _ h => h) (Or.inl ⟨by rfl, ?_⟩) (⟨1, rfl⟩) ?_
     rotate_left
     ·intro w _; go_simp; with_reducible rfl
     try simp only [Act.put, List.getElem_toArray, List.getElem_cons_zero, List.getElem_cons_succ, List.setIfInBounds_toArray, List.set_cons_zero, List.set_cons_succ]
     refine wpAnyH_take (i := 7) (v := ?_) rfl (by kernel_rfl) (by kernel_rfl) (by kernel_rfl) (fun _ _ _ h => h) (Or.inl ⟨by rfl, ?_⟩) (⟨1, rfl⟩) ?_
     rotate_left
     ·intro w _; go_simp; with_reducible rfl
     try simp only [Act.put, List.getElem_toArray, List.getElem_cons_zero, List.getElem_cons_succ, List.setIfInBounds_toArray, List.set_cons_zero, List.set_cons_succ]
     refine wpAnyH_take (i := 8) rfl (by kernel_rfl) (by kernel_rfl) (by kernel_rfl) (fun _ _ _ h => h) (yieldsIf_load_mid (by rfl) 41 _ rfl b _ rfl _ _ HA2.out Tryz.underlying41 rfl (by rw [HLX2.out]; exact oid_info')) (⟨1, rfl⟩) ?_
     try simp only [Act.put, List.getElem_toArray, List.getElem_cons_zero, List.getElem_cons_succ, List.setIfInBounds_toArray, List.set_cons_zero, List.set_cons_succ]
     rw [cellsN_arr, cellsN_arr]
     refine wpAnyH_take (i := 9) (v := ?_) rfl (by kernel_rfl) (by kernel_rfl) (by kernel_rfl) (fun _ _ _ h => h) (Or.inl ⟨by rfl, ?_⟩) (⟨1, rfl⟩) ?_
     rotate_left
     ·intro w _; go_simp; with_reducible rfl
     try simp only [Act.put, List.getElem_toArray, List.getElem_cons_zero, List.getElem_cons_succ, List.setIfInBounds_toArray, List.set_cons_zero, List.set_cons_succ]
     refine wpAnyH_done (by kernel_rfl) ?_ _
     clear heq x1 x2 W1 HA1 HA2 HLX1 HLX2 OK1 OK2 HXA HXB
     have xs2 := fun w' => run_sliceLo_k (P := Tryz.prog) Tryz.underlying106 oid_info' b 0 n c k (by omega) (by omega) (lo := (k : Int)) rfl w'
     simp only [Nat.zero_add] at xs2
     have HCK := Lib.hid (show (Sha.compK l (k + 1)).length = k by rw [Sha.compK_same l k hk1 HE.out, Sha.compK_take l k (by rw [← HN.out]; omega) HNE.out, List.length_take, ← HN.out]; omega)
     go_wp2_with fail
     have hr0 : OidRow ((w.drewN md).drew) b (Sha.contK l (k + 1)) := by
      have e : Sha.contK l (k + 1) = l := by
       unfold Sha.contK
       rw [HCK.out, Sha.compK_same l k hk1 HE.out, Sha.compK_take l k (by rw [← HN.out]; omega) HNE.out, List.take_append_drop]
      rw [e]; exact (HR.out.drewN md).drewN 1
     have HR0 := Lib.hid hr0
     clear hr0
     go_loopw [3, 5] (fun kk jj wr => ∃ j : Nat, 1 ≤ j ∧ j ≤ n - k ∧ jj = .int .i64 j ∧ kk = .int .i64 ((Sha.compK l (k + j)).length : Nat) ∧ OidRow wr b (Sha.contK l (k + j)) ∧ Below B w0 wr) (fun _ jj _ => (n - k) - (intOf jj).toNat)
     case atStart => exact ⟨1, by omega, by omega, rfl, by rw [HCK.out], HR0.out, below_drewN (below_drewN HBEL.out md) 1⟩
     case round =>
      obtain ⟨wo, rfl⟩ : ∃ wo : World, wo = wr := ⟨_, rfl⟩
      obtain ⟨j, hj1, hj, rfl, rfl, hrow, hbl⟩ := hrel
      have hsh := Sha.compK_short l k hk1 HE.out j hj1
      have HROW := Lib.hid hrow
      have HBL := Lib.hid hbl
      clear hrow hbl
      obtain ⟨m, hm⟩ : ∃ m, m = (Sha.compK l (k + j)).length := ⟨_, rfl⟩
      rw [← hm] at hsh ⊢
      have HM := Lib.hid hm
      clear hm
      by_cases hjl : j < n - k
      ·have j0 : (0 : Int) ≤ ((j : Nat) : Int) := by omega
       have j1 : ((j : Nat) : Int) < ((n - k : Nat) : Int) := by omega
       have j2 : (0 : Int) ≤ ((j : Nat) : Int) - 1 := by omega
       have j3 : ((j : Nat) : Int) - 1 < ((n - k : Nat) : Int) := by omega
       have ok1 := HL.out.getD (i := k + j) (by rw [← HN.out]; omega)
       have ok2 := HL.out.getD (i := k + j - 1) (by rw [← HN.out]; omega)
       have hcl := Lib.hid (Sha.contK_len l (k + j) (by rw [← HN.out]; omega))
       have hb1 : wo.rangeAt b (32 * k + 32 * j) (cellsN (l.getD (k + j) [])) := by
        have h := HROW.out.at_ (k + j) (by rw [hcl.out, ← HN.out]; omega)
        rw [Sha.contK_old l (k + j) (k + j) (by rw [← HM.out]; omega)] at h
        rw [show 32 * k + 32 * j = 32 * (k + j) by omega]; exact h
       have hb2 : wo.rangeAt b (32 * k + 32 * (j - 1)) (cellsN (l.getD (k + j - 1) [])) := by
        have h := HROW.out.at_ (k + j - 1) (by rw [hcl.out, ← HN.out]; omega)
        rw [Sha.contK_old l (k + j) (k + j - 1) (by rw [← HM.out]; omega)] at h
        rw [show 32 * k + 32 * (j - 1) = 32 * (k + j - 1) by omega]; exact h
       have W1 : IntKind.i64.wrap (((j : Nat) : Int) - 1) = ((j : Nat) : Int) - 1 := IntWalk.i64_in _ (by omega)
       have x1 := fun w' => run_index_k (P := Tryz.prog) Tryz.underlying106 oid_info' b (32 * k) (n - k) (c - k) j hjl (ii := (j : Int)) rfl w'
       have x2 := fun w' => run_index_k (P := Tryz.prog) Tryz.underlying106 oid_info' b (32 * k) (n - k) (c - k) (j - 1) (by omega) (ii := (j : Int) - 1) (by omega) w'
       have x3 := fun w' => run_index_k (P := Tryz.prog) Tryz.underlying106 oid_info' b 0 n c m (by omega) (ii := (m : Int)) rfl w'
       simp only [Nat.zero_add] at x3
       obtain ⟨xa, hxa⟩ : ∃ x, x = l.getD (k + j) [] := ⟨_, rfl⟩
       obtain ⟨xb, hxb⟩ : ∃ x, x = l.getD (k + j - 1) [] := ⟨_, rfl⟩
       rw [← hxa] at ok1 hb1
       rw [← hxb] at ok2 hb2
       have HXA := Lib.hid hxa
       have HXB := Lib.hid hxb
       clear hxa hxb
       have OK1 := Lib.hid ok1
       have OK2 := Lib.hid ok2
       have heq := eq_oid _ _ ok1 ok2
       clear ok1 ok2
       have HA1 : Hid (∀ w', (∃ m, w' = wo.drewN m) → w'.rangeAt b (32 * k + 32 * j) (cellsN xa)) := Lib.hid (by rintro w' ⟨m, rfl⟩; exact hb1)
       have HA2 : Hid (∀ w', (∃ m, w' = wo.drewN m) → w'.rangeAt b (32 * k + 32 * (j - 1)) (cellsN xb)) := Lib.hid (by rintro w' ⟨m, rfl⟩; exact hb2)
       have HB1 := Lib.hid hb1
       clear hb1 hb2
       have HLX1 := Lib.hid (show (cellsN xa).length = 32 by rw [cellsN_len]; exact OK1.out.1)
       have HLX2 := Lib.hid (show (cellsN xb).length = 32 by rw [cellsN_len]; exact OK2.out.1)
       by_cases he : xa = xb
       ·have hbq : (!(xa == xb)) = false := by rw [he, beq_self_eq_true]; rfl
        have hbq2 : (xa == xb) = true := by rw [he]; exact beq_self_eq_true _
        rw [hbq2] at heq
        have HEQ : Hid (l.getD (k + j) [] = l.getD (k + j - 1) []) := Lib.hid (by rw [← HXA.out, ← HXB.out]; exact he)
        clear hbq hbq2 he
        go_wp2_with fail
        refine wp_region_held (S := (fun w' => ∃ m, w' = wo.drewN m)) (by kernel_rfl) ?_
        change wpAnyH _ _ _ _ _ _ _ _ wo.drew
        refine wpAnyH_take (i := 0) (v := ?_) rfl (by kernel_rfl) (by kernel_rfl) (by kernel_rfl) (fun _ _ _ h => h) (Or.inl ⟨by rfl, ?_⟩) (⟨1, rfl⟩) ?_
        rotate_left
        ·intro w _; go_simp; with_reducible rfl
        try simp only [Act.put, List.getElem_toArray, List.getElem_cons_zero, List.setIfInBounds_toArray, List.set_cons_zero, List.set_cons_succ]
        refine wpAnyH_take (i := 1) (v := ?_) rfl (by kernel_rfl) (by kernel_rfl) (by kernel_rfl) (fun _ _ _ h => h) (Or.inl ⟨by rfl, ?_⟩) (⟨1, rfl⟩) ?_
        rotate_left
        ·intro w _; go_simp; with_reducible rfl
        try simp only [Act.put, List.getElem_toArray, List.getElem_cons_zero, List.getElem_cons_succ, List.setIfInBounds_toArray, List.set_cons_zero, List.set_cons_succ]
        refine wpAnyH_take (i := 2) (v := ?_) rfl (by kernel_rfl) (by kernel_rfl) (by kernel_rfl) (fun _ _ _ h => h) (Or.inl ⟨by rfl, ?_⟩) (⟨1, rfl⟩) ?_
        rotate_left
        ·intro w _; go_simp; with_reducible rfl
        try simp only [Act.put, List.getElem_toArray, List.getElem_cons_zero, List.getElem_cons_succ, List.setIfInBounds_toArray, List.set_cons_zero, List.set_cons_succ]
        refine wpAnyH_take (i := 3) rfl (by kernel_rfl) (by kernel_rfl) (by kernel_rfl) (fun _ _ _ h => h) (yieldsIf_load_mid (by rfl) 41 _ rfl b _ rfl _ _ HA1.out Tryz.underlying41 rfl (by rw [HLX1.out]; exact oid_info')) (⟨1, rfl⟩) ?_
        try simp only [Act.put, List.getElem_toArray, List.getElem_cons_zero, List.getElem_cons_succ, List.setIfInBounds_toArray, List.set_cons_zero, List.set_cons_succ]
        refine wpAnyH_take (i := 4) (v := ?_) rfl (by kernel_rfl) (by kernel_rfl) (by kernel_rfl) (fun _ _ _ h => h) (Or.inl ⟨by rfl, ?_⟩) (⟨1, rfl⟩) ?_
        rotate_left
        ·intro w _; go_simp; with_reducible rfl
        try simp only [Act.put, List.getElem_toArray, List.getElem_cons_zero, List.getElem_cons_succ, List.setIfInBounds_toArray, List.set_cons_zero, List.set_cons_succ]
        refine wpAnyH_take (i := 5) (v := ?_) rfl (by kernel_rfl) (by kernel_rfl) (by kernel_rfl) (fun _ _ _ h => h) (Or.inl ⟨by rfl, ?_⟩) (⟨1, rfl⟩) ?_
        rotate_left
        ·intro w _; go_simp; with_reducible rfl
        try simp only [Act.put, List.getElem_toArray, List.getElem_cons_zero, List.getElem_cons_succ, List.setIfInBounds_toArray, List.set_cons_zero, List.set_cons_succ]
        refine wpAnyH_take (i := 6) (v := ?_) rfl (by kernel_rfl) (by kernel_rfl) (by kernel_rfl) (fun _ _ _ h => h) (Or.inl ⟨by rfl, ?_⟩) (⟨1, rfl⟩) ?_
        rotate_left
        ·intro w _; go_simp; with_reducible rfl
        try simp only [Act.put, List.getElem_toArray, List.getElem_cons_zero, List.getElem_cons_succ, List.setIfInBounds_toArray, List.set_cons_zero, List.set_cons_succ]
        refine wpAnyH_take (i := 7) (v := ?_) rfl (by kernel_rfl) (by kernel_rfl) (by kernel_rfl) (fun _ _ _ h => h) (Or.inl ⟨by rfl, ?_⟩) (⟨1, rfl⟩) ?_
        rotate_left
        ·intro w _; go_simp; with_reducible rfl
        try simp only [Act.put, List.getElem_toArray, List.getElem_cons_zero, List.getElem_cons_succ, List.setIfInBounds_toArray, List.set_cons_zero, List.set_cons_succ]
        refine wpAnyH_take (i := 8) rfl (by kernel_rfl) (by kernel_rfl) (by kernel_rfl) (fun _ _ _ h => h) (yieldsIf_load_mid (by rfl) 41 _ rfl b _ rfl _ _ HA2.out Tryz.underlying41 rfl (by rw [HLX2.out]; exact oid_info')) (⟨1, rfl⟩) ?_
        try simp only [Act.put, List.getElem_toArray, List.getElem_cons_zero, List.getElem_cons_succ, List.setIfInBounds_toArray, List.set_cons_zero, List.set_cons_succ]
        rw [cellsN_arr, cellsN_arr]
        refine wpAnyH_take (i := 9) (v := ?_) rfl (by kernel_rfl) (by kernel_rfl) (by kernel_rfl) (fun _ _ _ h => h) (Or.inl ⟨by rfl, ?_⟩) (⟨1, rfl⟩) ?_
        rotate_left
        ·intro w _; go_simp; with_reducible rfl
        try simp only [Act.put, List.getElem_toArray, List.getElem_cons_zero, List.getElem_cons_succ, List.setIfInBounds_toArray, List.set_cons_zero, List.set_cons_succ]
        refine wpAnyH_done (by kernel_rfl) ?_ _
        go_wp2_with fail
        go_roundw
        case rel =>
         refine ⟨j + 1, by omega, by omega, by go_num, ?_, ?_, below_drewN HBL.out 1⟩
         ·rw [← Nat.add_assoc, Sha.compK_same l (k + j) (by omega) HEQ.out, ← HM.out]
         ·have e : Sha.contK l (k + (j + 1)) = Sha.contK l (k + j) := by
           unfold Sha.contK
           rw [← Nat.add_assoc, Sha.compK_same l (k + j) (by omega) HEQ.out]
          rw [e]; exact HROW.out.drewN 1
        case measure => simp [intOf]; omega
       ·have hbq2 : (xa == xb) = false := by rw [beq_eq_false_iff_ne]; exact he
        rw [hbq2] at heq
        have HNQ : Hid (l.getD (k + j) [] ≠ l.getD (k + j - 1) []) := Lib.hid (by rw [← HXA.out, ← HXB.out]; exact he)
        clear hbq2 he
        go_wp2_with fail
        refine wp_region_held (S := (fun w' => ∃ m, w' = wo.drewN m)) (by kernel_rfl) ?_
        change wpAnyH _ _ _ _ _ _ _ _ wo.drew
        refine wpAnyH_take (i := 0) (v := ?_) rfl (by kernel_rfl) (by kernel_rfl) (by kernel_rfl) (fun _ _ _ h => h) (Or.inl ⟨by rfl, ?_⟩) (⟨1, rfl⟩) ?_
        rotate_left
        ·intro w _; go_simp; with_reducible rfl
        try simp only [Act.put, List.getElem_toArray, List.getElem_cons_zero, List.setIfInBounds_toArray, List.set_cons_zero, List.set_cons_succ]
        refine wpAnyH_take (i := 1) (v := ?_) rfl (by kernel_rfl) (by kernel_rfl) (by kernel_rfl) (fun _ _ _ h => h) (Or.inl ⟨by rfl, ?_⟩) (⟨1, rfl⟩) ?_
        rotate_left
        ·intro w _; go_simp; with_reducible rfl
        try simp only [Act.put, List.getElem_toArray, List.getElem_cons_zero, List.getElem_cons_succ, List.setIfInBounds_toArray, List.set_cons_zero, List.set_cons_succ]
        refine wpAnyH_take (i := 2) (v := ?_) rfl (by kernel_rfl) (by kernel_rfl) (by kernel_rfl) (fun _ _ _ h => h) (Or.inl ⟨by rfl, ?_⟩) (⟨1, rfl⟩) ?_
        rotate_left
        ·intro w _; go_simp; with_reducible rfl
        try simp only [Act.put, List.getElem_toArray, List.getElem_cons_zero, List.getElem_cons_succ, List.setIfInBounds_toArray, List.set_cons_zero, List.set_cons_succ]
        refine wpAnyH_take (i := 3) rfl (by kernel_rfl) (by kernel_rfl) (by kernel_rfl) (fun _ _ _ h => h) (yieldsIf_load_mid (by rfl) 41 _ rfl b _ rfl _ _ HA1.out Tryz.underlying41 rfl (by rw [HLX1.out]; exact oid_info')) (⟨1, rfl⟩) ?_
        try simp only [Act.put, List.getElem_toArray, List.getElem_cons_zero, List.getElem_cons_succ, List.setIfInBounds_toArray, List.set_cons_zero, List.set_cons_succ]
        refine wpAnyH_take (i := 4) (v := ?_) rfl (by kernel_rfl) (by kernel_rfl) (by kernel_rfl) (fun _ _ _ h => h) (Or.inl ⟨by rfl, ?_⟩) (⟨1, rfl⟩) ?_
        rotate_left
        ·intro w _; go_simp; with_reducible rfl
        try simp only [Act.put, List.getElem_toArray, List.getElem_cons_zero, List.getElem_cons_succ, List.setIfInBounds_toArray, List.set_cons_zero, List.set_cons_succ]
        refine wpAnyH_take (i := 5) (v := ?_) rfl (by kernel_rfl) (by kernel_rfl) (by kernel_rfl) (fun _ _ _ h => h) (Or.inl ⟨by rfl, ?_⟩) (⟨1, rfl⟩) ?_
        rotate_left
        ·intro w _; go_simp; with_reducible rfl
        try simp only [Act.put, List.getElem_toArray, List.getElem_cons_zero, List.getElem_cons_succ, List.setIfInBounds_toArray, List.set_cons_zero, List.set_cons_succ]
        refine wpAnyH_take (i := 6) (v := ?_) rfl (by kernel_rfl) (by kernel_rfl) (by kernel_rfl) (fun _ _ _ h => h) (Or.inl ⟨by rfl, ?_⟩) (⟨1, rfl⟩) ?_
        rotate_left
        ·intro w _; go_simp; with_reducible rfl
        try simp only [Act.put, List.getElem_toArray, List.getElem_cons_zero, List.getElem_cons_succ, List.setIfInBounds_toArray, List.set_cons_zero, List.set_cons_succ]
        refine wpAnyH_take (i := 7) (v := ?_) rfl (by kernel_rfl) (by kernel_rfl) (by kernel_rfl) (fun _ _ _ h => h) (Or.inl ⟨by rfl, ?_⟩) (⟨1, rfl⟩) ?_
        rotate_left
        ·intro w _; go_simp; with_reducible rfl
        try simp only [Act.put, List.getElem_toArray, List.getElem_cons_zero, List.getElem_cons_succ, List.setIfInBounds_toArray, List.set_cons_zero, List.set_cons_succ]
        refine wpAnyH_take (i := 8) rfl (by kernel_rfl) (by kernel_rfl) (by kernel_rfl) (fun _ _ _ h => h) (yieldsIf_load_mid (by rfl) 41 _ rfl b _ rfl _ _ HA2.out Tryz.underlying41 rfl (by rw [HLX2.out]; exact oid_info')) (⟨1, rfl⟩) ?_
        try simp only [Act.put, List.getElem_toArray, List.getElem_cons_zero, List.getElem_cons_succ, List.setIfInBounds_toArray, List.set_cons_zero, List.set_cons_succ]
        rw [cellsN_arr, cellsN_arr]
        refine wpAnyH_take (i := 9) (v := ?_) rfl (by kernel_rfl) (by kernel_rfl) (by kernel_rfl) (fun _ _ _ h => h) (Or.inl ⟨by rfl, ?_⟩) (⟨1, rfl⟩) ?_
        rotate_left
        ·intro w _; go_simp; with_reducible rfl
        try simp only [Act.put, List.getElem_toArray, List.getElem_cons_zero, List.getElem_cons_succ, List.setIfInBounds_toArray, List.set_cons_zero, List.set_cons_succ]
        refine wpAnyH_done (by kernel_rfl) ?_ _
        have HT := Lib.hid ((HROW.out.drewN 1).there (k := m) (by rw [hcl.out, ← HN.out]; omega))
        go_wp2_with (first | (refine wpList_load_mid rfl 41 _ rfl b (32 * k + 32 * j) rfl (cellsN xa) _ (HA1.out _ ⟨1, rfl⟩) Tryz.underlying41 rfl (by rw [HLX1.out]; exact oid_info') ?_; rw [cellsN_arr]) | (refine wpList_store_mid rfl 41 _ _ rfl b (32 * m) (u8s xa) rfl rfl (by rw [u8s_size, OK1.out.1]; exact HT.out) (by rw [u8s_size, OK1.out.1]; exact oid_info') (u8s_one _) ?_))
        go_roundw
        case rel =>
         refine ⟨j + 1, by omega, by omega, by go_num, ?_, ?_, below_setCells hB _ _ _ (below_drewN HBL.out 1)⟩
         ·rw [← Nat.add_assoc, Sha.compK_next l (k + j) HNQ.out, List.length_append, ← HM.out]; go_num
         ·have h1 := (HROW.out.drewN 1).set (Sha.contK_oids HL.out (k + j) (by rw [← HN.out]; omega)) (k := m) (x := xa) (by rw [hcl.out, ← HN.out]; omega) OK1.out.1
          have e := Sha.contK_set l (k + j) (by rw [← HN.out]; omega) (by rw [← HM.out, ← HN.out]; omega) HNQ.out
          rw [← HXA.out, ← HM.out] at e
          rw [e] at h1
          exact h1
        case measure => simp [intOf]; omega
      ·obtain rfl : j = n - k := by omega
       rw [show k + (n - k) = n by omega] at HROW HM
       have HTM : Hid (wo.there b (32 * m) (32 * (n - m))) := Lib.hid fun i hi => by
        have h := HROW.out.room (32 * m + i) (by rw [Sha.contK_len l n (by rw [HN.out]; omega), ← HN.out]; omega)
        rwa [Nat.zero_add] at h
       have hclear : ∀ w', w' = wo → (Builtin.clear_ #[106] 0 #[.slice (some ⟨b, 32 * m, none⟩) (n - m) (c - m)]).run Tryz.prog w' = .ok (.tuple #[]) (w'.setCells b (32 * m) (Builtin.zeroCells (Value.agg (u8s (List.replicate 32 0))).cells (n - m)).toList) := by
        rintro w' rfl
        refine run_clear_k w' _ 41 _ (.agg (u8s (List.replicate 32 0))) (n - m) b (32 * m) (c - m) Tryz.underlying106 Tryz.zeroValue41 ?_ ?_ (by omega)
        ·exact zc_one _
        ·rw [zc_len]; exact HTM.out
       have xs2' := fun w' => run_sliceLo_k (P := Tryz.prog) Tryz.underlying106 oid_info' b 0 n c m (by omega) (by omega) (lo := (m : Int)) rfl w'
       have xs3 := fun w' => run_sliceHi_k (P := Tryz.prog) Tryz.underlying106 oid_info' b 0 n c m (by omega) (by omega) (hh := (m : Int)) rfl w'
       simp only [Nat.zero_add] at xs2'
       have hcl2 := hclear _ rfl
       clear hclear xs2
       go_wp2_with fail
       go_ret
       have hml := Sha.contK_len l n (by rw [HN.out]; omega)
       refine ⟨by rw [HM.out]; rfl, fun i hi => ?_, below_setCells hB _ _ _ HBL.out⟩
       rw [← HM.out] at hi
       have h1 := HROW.out.at_ i (by rw [hml, ← HN.out]; omega)
       rw [Sha.contK_new l n i (by rw [← HM.out]; exact hi)] at h1
       refine World.rangeAt_setCells_apart h1 b (32 * m) _ (Or.inr (Or.inl ?_))
       rw [cellsN_len]
       have ho : ((Sha.compK l n).getD i []).length = 32 := by
        have h := Sha.contK_oids HL.out n (by rw [HN.out]; omega)
        have h2 := Sha.Oids.getD (l := Sha.contK l n) h (i := i) (by rw [hml, ← HN.out]; omega)
        rw [Sha.contK_new l n i (by rw [← HM.out]; exact hi)] at h2
        exact h2.1
       omega
    ·have hbq2 : (xa == xb) = false := by rw [beq_eq_false_iff_ne]; exact he
     rw [hbq2] at heq
     have HNQ : Hid (l.getD k [] ≠ l.getD (k - 1) []) := Lib.hid (by rw [← HXA.out, ← HXB.out]; exact he)
     clear hbq2 he
     go_wp2_with fail
     refine wp_region_held (S := (fun w' => ∃ m, w' = (w.drewN md).drewN m)) (by kernel_rfl) ?_
     change wpAnyH _ _ _ _ _ _ _ _ (w.drewN md).drew
     refine wpAnyH_take (i := 0) (v := ?_) rfl (by kernel_rfl) (by kernel_rfl) (by kernel_rfl) (fun _ _ _ h => h) (Or.inl ⟨by rfl, ?_⟩) (⟨1, rfl⟩) ?_
     rotate_left
     ·intro w _; go_simp; with_reducible rfl
     try simp only [Act.put, List.getElem_toArray, List.getElem_cons_zero, List.setIfInBounds_toArray, List.set_cons_zero, List.set_cons_succ]
     refine wpAnyH_take (i := 1) (v := ?_) rfl (by kernel_rfl) (by kernel_rfl) (by kernel_rfl) (fun _ _ _ h => h) (Or.inl ⟨by rfl, ?_⟩) (⟨1, rfl⟩) ?_
     rotate_left
     ·intro w _; go_simp; with_reducible rfl
     try simp only [Act.put, List.getElem_toArray, List.getElem_cons_zero, List.getElem_cons_succ, List.setIfInBounds_toArray, List.set_cons_zero, List.set_cons_succ]
     refine wpAnyH_take (i := 2) (v := ?_) rfl (by kernel_rfl) (by kernel_rfl) (by kernel_rfl) (fun _ _ _ h => h) (Or.inl ⟨by rfl, ?_⟩) (⟨1, rfl⟩) ?_
     rotate_left
     ·intro w _; go_simp; with_reducible rfl
     try simp only [Act.put, List.getElem_toArray, List.getElem_cons_zero, List.getElem_cons_succ, List.setIfInBounds_toArray, List.set_cons_zero, List.set_cons_succ]
     refine wpAnyH_take (i := 3) rfl (by kernel_rfl) (by kernel_rfl) (by kernel_rfl) (fun _ _ _ h => h) (yieldsIf_load_mid (by rfl) 41 _ rfl b _ rfl _ _ HA1.out Tryz.underlying41 rfl (by rw [HLX1.out]; exact oid_info')) (⟨1, rfl⟩) ?_
     try simp only [Act.put, List.getElem_toArray, List.getElem_cons_zero, List.getElem_cons_succ, List.setIfInBounds_toArray, List.set_cons_zero, List.set_cons_succ]
     refine wpAnyH_take (i := 4) (v := ?_) rfl (by kernel_rfl) (by kernel_rfl) (by kernel_rfl) (fun _ _ _ h => h) (Or.inl ⟨by rfl, ?_⟩) (⟨1, rfl⟩) ?_
     rotate_left
     ·intro w _; go_simp; with_reducible rfl
     try simp only [Act.put, List.getElem_toArray, List.getElem_cons_zero, List.getElem_cons_succ, List.setIfInBounds_toArray, List.set_cons_zero, List.set_cons_succ]
     refine wpAnyH_take (i := 5) (v := ?_) rfl (by kernel_rfl) (by kernel_rfl) (by kernel_rfl) (fun _ _ _ h => h) (Or.inl ⟨by rfl, ?_⟩) (⟨1, rfl⟩) ?_
     rotate_left
     ·intro w _; go_simp; with_reducible rfl
     try simp only [Act.put, List.getElem_toArray, List.getElem_cons_zero, List.getElem_cons_succ, List.setIfInBounds_toArray, List.set_cons_zero, List.set_cons_succ]
     refine wpAnyH_take (i := 6) (v := ?_) rfl (by kernel_rfl) (by kernel_rfl) (by kernel_rfl) (fun _ _ _ h => h) (Or.inl ⟨by rfl, ?_⟩) (⟨1, rfl⟩) ?_
     rotate_left
     ·intro w _; go_simp; with_reducible rfl
     try simp only [Act.put, List.getElem_toArray, List.getElem_cons_zero, List.getElem_cons_succ, List.setIfInBounds_toArray, List.set_cons_zero, List.set_cons_succ]
     refine wpAnyH_take (i := 7) (v := ?_) rfl (by kernel_rfl) (by kernel_rfl) (by kernel_rfl) (fun _ _ _ h => h) (Or.inl ⟨by rfl, ?_⟩) (⟨1, rfl⟩) ?_
     rotate_left
     ·intro w _; go_simp; with_reducible rfl
     try simp only [Act.put, List.getElem_toArray, List.getElem_cons_zero, List.getElem_cons_succ, List.setIfInBounds_toArray, List.set_cons_zero, List.set_cons_succ]
     refine wpAnyH_take (i := 8) rfl (by kernel_rfl) (by kernel_rfl) (by kernel_rfl) (fun _ _ _ h => h) (yieldsIf_load_mid (by rfl) 41 _ rfl b _ rfl _ _ HA2.out Tryz.underlying41 rfl (by rw [HLX2.out]; exact oid_info')) (⟨1, rfl⟩) ?_
     try simp only [Act.put, List.getElem_toArray, List.getElem_cons_zero, List.getElem_cons_succ, List.setIfInBounds_toArray, List.set_cons_zero, List.set_cons_succ]
     rw [cellsN_arr, cellsN_arr]
     refine wpAnyH_take (i := 9) (v := ?_) rfl (by kernel_rfl) (by kernel_rfl) (by kernel_rfl) (fun _ _ _ h => h) (Or.inl ⟨by rfl, ?_⟩) (⟨1, rfl⟩) ?_
     rotate_left
     ·intro w _; go_simp; with_reducible rfl
     try simp only [Act.put, List.getElem_toArray, List.getElem_cons_zero, List.getElem_cons_succ, List.setIfInBounds_toArray, List.set_cons_zero, List.set_cons_succ]
     refine wpAnyH_done (by kernel_rfl) ?_ _
     go_wp2_with fail
     go_roundw
     case rel =>
      refine ⟨k + 1, by omega, by omega, by go_num, fun j h1 h3 => ?_, md + 1, rfl⟩
      rcases Nat.lt_or_ge j k with h | h
      ·exact HNE.out j h1 h
      ·obtain rfl : j = k := by omega
       exact HNQ.out
     case measure => simp [intOf]; omega
   ·obtain rfl : k = n := by omega
    go_wp2_with fail
    go_ret
    have e : Sha.compK l k = l := by rw [Sha.compK_take l k (by rw [HN.out]; omega) HNE.out, HN.out, List.take_length]
    rw [e]
    exact ⟨by rw [HN.out]; rfl, (HR.out.drewN md).at_, below_drewN HBEL.out md⟩
section
open Go.Shelf
end
def sb (s : ByteArray) : List Nat := s.data.toList.map UInt8.toNat
structure UnxW (w : World) (l : List Nat) (k : Nat) (wr : World) : Prop where
 res : ∃ cs, cs.size = 32 ∧ Blk wr w.heap.size 41 cs
 row : Blk wr (w.heap.size+1) 41 (u8s ((Sha.unhex l).take k ++ List.replicate (32 - k) 0))
 bel : Below w.heap.size w wr
theorem UnxW.start (w : World) (l : List Nat) : UnxW w l 0 ((w.alloc (.cells (u8s (List.replicate 32 0)) 41)).alloc (.cells (u8s (List.replicate 32 0)) 41)) := by
 refine ⟨⟨_, by rw [u8s_size]; rfl, (Blk.new w _ _).alloc _⟩, ?_, ?_⟩
 ·have h := Blk.new (w.alloc (.cells (u8s (List.replicate 32 0)) 41)) 41 (u8s (List.replicate 32 0))
  have e : (w.alloc (.cells (u8s (List.replicate 32 0)) 41)).heap.size = w.heap.size + 1 := by simp
  rw [e] at h
  exact h
 ·refine ((Below.refl _ _).alloc (Nat.le_refl _) _).alloc ?_ _; simp
theorem UnxW.put {w : World} {l : List Nat} {k : Nat} {wr : World} (h : UnxW w l k wr) (hk : k < 32) {v : Int} (hv : v = ((Sha.unhex l).getD k 0 : Nat)) :
  UnxW w l (k + 1) (wr.setCell ⟨w.heap.size + 1, k, none⟩ (.int .u8 v)) := by
 obtain ⟨cs, hz, hc⟩ := h.res
 refine ⟨⟨cs, hz, hc.far (by simp) _⟩, ?_, h.bel.setCell (p := ⟨w.heap.size + 1, k, none⟩) (by show w.heap.size ≤ w.heap.size + 1; omega) _⟩
 have h1 := h.row.set_ k (.int .u8 v)
 rw [hv, u8s_set, fill_take (Sha.unhex_len l) hk _ rfl] at h1
 rw [hv]
 exact h1
end Go.Proofs.YtgcgomdhdgjpdaaGreatDoor
