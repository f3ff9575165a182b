/- The walk of the law ShaSums. -/
import Derived.Test.YtgjcfmgaioiogaaDoorRefSum
import Derived.Test.YtgjcfmgaioiogaaDoorLawOpen3
import Derived.Test.YtgjcfmgaioiogaaDoorShaAlive
namespace Go.Proofs.YtgjcfmgaioiogaaDoor.lawSums
open Go Go.RowKit
theorem byte_mem {l : List Nat} : Sha.Byte l ↔ ∀ x ∈ l, x < 256 := by
  constructor
  · intro h x hx
    obtain ⟨i, hi, rfl⟩ := List.mem_iff_getElem.1 hx
    have := h i
    simpa [List.getD, hi] using this
  · intro h i
    by_cases hi : i < l.length
    · have := h l[i] (List.getElem_mem hi)
      simpa [List.getD, hi] using this
    · simp [List.getD, List.getElem?_eq_none (show l.length ≤ i by omega)]
theorem byte_flat {pss : List (List Nat)} (h : ∀ ps ∈ pss, Sha.Byte ps) : Sha.Byte pss.flatten :=
  byte_mem.2 fun x hx => by
    obtain ⟨ps, h1, h2⟩ := List.mem_flatten.1 hx
    exact byte_mem.1 (h ps h1) x h2
theorem marked_below {w w' : World} {v : Value} {xs : List Nat} (h : Marked w v xs) (hb : Below w.heap.size w w') : Marked w' v xs := by
  obtain ⟨b, c, e, h1, h2, h3, h4⟩ := h
  have := hb.size
  exact ⟨b, c, e, h1, h2, by omega, fun i hi => (hb.cell (p := ⟨b, i, none⟩) h3).trans (h4 i hi)⟩
theorem marked_rd {w : World} {v : Value} {xs : List Nat} (h : Marked w v xs) : Rd w v xs := by
  obtain ⟨b, c, rfl, h1, h2, h3, h4⟩ := h
  refine ⟨_, c, rfl, by omega, fun _ => ⟨b, 0, rfl, h3, fun i hi => ?_⟩⟩
  rw [Nat.zero_add, h4 i (by omega), List.getD_eq_getElem?_getD, List.getElem?_append_left hi, ← List.getD_eq_getElem?_getD]
theorem u8_sz : ∀ w, (sizeOf 5).run Tryd.prog w = .ok 1 w := fun w => by simp [Tryd.sizeOf5]
theorem rdL_below {w w' : World} {v : Value} {vs : List Value} (h : RdL w v vs) (hb : Below w.heap.size w w') : RdL w' v vs := by
  obtain ⟨A, c, e, h1, hA⟩ := h
  refine ⟨A, c, e, h1, fun h0 => ?_⟩
  obtain ⟨b, o, ha, hl, hx⟩ := hA h0
  have := hb.size
  exact ⟨b, o, ha, by omega, fun i u hu => (hb.cell (p := ⟨b, o + i, none⟩) hl).trans (hx i u hu)⟩
/-- What has been gathered of the first k parts. -/
def Gath (w : World) (pss : List (List Nat)) (k : Nat) (s : Value) (wr : World) : Prop :=
  wr.ownsRow w.heap.size 5 1 s (pss.take k).flatten.length (cellsB (pss.take k).flatten) ∧ Below w.heap.size w wr ∧ (∀ ps ∈ pss.take k, ps.length ≤ 300)
theorem own_form {w : World} {base n : Nat} {s : Value} {l : List Value} (h : w.ownsRow base 5 1 s n l) : ∃ A c, s = .slice A n c := by
  rcases h.2 with ⟨hv, hn⟩ | ⟨g, cap, cur, hv, _⟩
  · exact ⟨none, 0, by rw [hv, hn]⟩
  · exact ⟨_, cap, hv⟩
theorem take_flat (pss : List (List Nat)) (k : Nat) (h : k < pss.length) : (pss.take (k + 1)).flatten = (pss.take k).flatten ++ pss.getD k [] := by
  rw [List.take_succ_eq_append_getElem h, List.flatten_append, List.getD_eq_getElem?_getD, List.getElem?_eq_getElem h]; simp
theorem take_all300 (pss : List (List Nat)) (k : Nat) (h : k < pss.length) (h1 : ∀ ps ∈ pss.take k, ps.length ≤ 300) (h2 : (pss.getD k []).length ≤ 300) : ∀ ps ∈ pss.take (k + 1), ps.length ≤ 300 := by
  intro ps hp
  rw [List.take_succ_eq_append_getElem h] at hp
  rcases List.mem_append.1 hp with hp | hp
  · exact h1 ps hp
  · obtain rfl := List.mem_singleton.1 hp
    rwa [List.getD_eq_getElem?_getD, List.getElem?_eq_getElem h] at h2
set_option maxRecDepth 100000 in
set_option maxHeartbeats 4000000 in
theorem law_any (v : Value) (vs : List Value) (pss : List (List Nat)) (w : World) (hv : RdL w v vs) (hl : pss.length = vs.length) (hr : ∀ i u, vs[i]? = some u → Rd w u (pss.getD i [])) (hb : ∀ ps ∈ pss, Sha.Byte ps) (ht : Tabs w)
    (hz : vs.length ≤ 9223372036854775807) (hsz : ∀ ps ∈ pss, ps.length ≤ 9223372036854775807) :
    Calls Tryd.prog 3 #[v] w fun e w' => e = .returned (.bool true) ∧ Below w.heap.size w w' := by
  have HV := Lib.hid hv
  obtain ⟨A, c, rfl, hc, hA⟩ := hv
  have HA := Lib.hid hA
  have HL := Lib.hid hl
  have HR := Lib.hid hr
  have HB := Lib.hid hb
  have HSZ := Lib.hid hsz
  clear hA hl hr hb hsz
  obtain ⟨n, hn⟩ : ∃ n, n = vs.length := ⟨_, rfl⟩
  rw [← hn] at hz hc HL HA HV ⊢
  have HN := Lib.hid hn
  clear hn
  go_enter Tryd.func3, Tryd.ntmps3
  go_wp2_with fail
  refine (alive_any w ht).mono ?_
  rintro e w1 ⟨rfl, hb1⟩
  have HB1 := Lib.hid hb1
  have HT1 := Lib.hid (ht.below hb1 (Nat.le_refl _))
  have HT0 := Lib.hid ht
  clear hb1 ht
  by_cases h20 : n ≤ 20
  · have HG0 : Hid (Gath w1 pss 0 (.slice (some ⟨w1.heap.size, 0, none⟩) 0 0) (w1.alloc (.cells #[] 5))) := Lib.hid ⟨⟨rfl, Or.inr ⟨w1.heap.size, 0, #[], rfl, Nat.le_refl _, heap_alloc_new w1 _, Nat.le_refl _, by decide, rfl, rfl⟩⟩, (Below.refl _ _).alloc (Nat.le_refl _) _, fun ps h => by cases h⟩
    go_wp2_with fail
    go_loopw [3, 16] (fun s i wr => ∃ k : Nat, k ≤ n ∧ i = .int .i64 k ∧ Hid (Gath w1 pss k s wr)) (fun _ i _ => n - (intOf i).toNat)
    case atStart => exact ⟨0, Nat.zero_le _, rfl, HG0⟩
    case round =>
      obtain ⟨k, hk, rfl, HG⟩ := hrel
      obtain ⟨A3, c3, rfl⟩ := own_form HG.out.1
      have hfl := flat_len (pss.take k) 300 HG.out.2.2
      have htl : (pss.take k).length ≤ k := List.length_take_le _ _
      obtain ⟨m, hm⟩ : ∃ m, m = (pss.take k).flatten.length := ⟨_, rfl⟩
      rw [← hm] at hfl ⊢
      have HM := Lib.hid hm
      clear hm
      have hm6 : m ≤ 6000 := by have := Nat.mul_le_mul_right 300 (Nat.le_trans htl hk); omega
      clear hfl htl
      by_cases hlt : k < n
      · obtain ⟨b, o, rfl, hbl, hcs⟩ := HA.out (by omega)
        have hkv : k < vs.length := by rw [← HN.out]; exact hlt
        have hu := hcs k vs[k] (by simp [hkv])
        have HRu := Lib.hid (HR.out k vs[k] (by simp [hkv]))
        clear hcs
        generalize vs[k] = u at hu HRu
        have hbw := HB1.out.trans (HG.out.2.1.mono HB1.out.size)
        have hcell := (hbw.cell (p := ⟨b, o + k, none⟩) hbl).trans hu
        have HRw := Lib.hid (HRu.out.below hbw (Nat.le_refl _))
        have HBW := Lib.hid hbw
        have hkp : k < pss.length := by rw [HL.out]; exact hlt
        have HTF := Lib.hid (take_flat pss k hkp)
        have HT3 := Lib.hid (take_all300 pss k hkp HG.out.2.2)
        have hps := HSZ.out (pss.getD k []) (by rw [List.getD_eq_getElem?_getD, List.getElem?_eq_getElem hkp]; exact List.getElem_mem hkp)
        clear hu hbw hkp hkv hbl
        generalize pss.getD k [] = ps at HRu HRw HTF HT3 hps
        obtain ⟨A2, c2, rfl, hc2, _⟩ := HRw.out
        obtain ⟨q, hq⟩ : ∃ q, q = ps.length := ⟨_, rfl⟩
        rw [← hq] at hcell hc2 HRw hps
        have HQ := Lib.hid hq
        clear hq HRu
        by_cases h300 : q ≤ 300
        · have HOA : Hid (wr.ownsRow w1.heap.size 5 1 (.slice A3 m c3) (pss.take k).flatten.length (cellsB (pss.take k).flatten)) := Lib.hid (by have h := HG.out.1; rw [← HM.out] at h ⊢; exact h)
          have HZ2 := Lib.hid (show (pss.take k).flatten.length + ps.length ≤ 70368744177664 by rw [← HM.out, ← HQ.out]; omega)
          go_wp2_with (at_builtin; go_loud (refine wpList_appendB rfl (.tmp 23) (.tmp 24) rfl w1.heap.size _ (pss.take k).flatten rfl HOA.out HG.out.2.1.size _ rfl ps HRw.out HZ2.out ?_); intro v2 w2 ho2 hg2; rw [← HTF.out] at ho2; have HG2 : Hid (Gath w1 pss (k + 1) v2 w2) := Lib.hid ⟨ho2, below_own HG.out.2.1 HOA.out (Nat.le_refl _) hg2, HT3.out (by rw [← HQ.out]; exact h300)⟩; clear ho2 hg2)
          go_roundw
          case rel => exact ⟨k + 1, by omega, by go_num, HG2⟩
          case measure => simp [intOf]; omega
        · go_wp2_with fail
          go_ret
          exact ⟨rfl, HBW.out⟩
      · obtain rfl : k = n := by omega
        have e : pss.take k = pss := List.take_of_length_le (Nat.le_of_eq HL.out)
        have HGA : Hid (wr.ownsRow w1.heap.size 5 1 (.slice A3 m c3) pss.flatten.length (cellsB pss.flatten) ∧ Below w1.heap.size w1 wr) := Lib.hid (by have h := HG.out; unfold Gath at h; rw [e] at h; rw [e] at HM; rw [← HM.out] at h ⊢; exact ⟨h.1, h.2.1⟩)
        have HMF : Hid (m = pss.flatten.length) := Lib.hid (by rw [HM.out, e])
        have H300 : Hid (∀ ps ∈ pss, ps.length ≤ 300) := Lib.hid (by have h := HG.out.2.2; rw [e] at h; exact h)
        clear e
        have HRD := Lib.hid (rd_of_own HGA.out.1 rfl)
        have HBY := Lib.hid (byte_flat HB.out)
        have HBW := Lib.hid (HB1.out.trans (HGA.out.2.mono HB1.out.size))
        have HZF := Lib.hid (show pss.flatten.length ≤ 1099511627776 by rw [← HMF.out]; omega)
        obtain ⟨ys, hys⟩ : ∃ ys, ys = pss.flatten := ⟨_, rfl⟩
        rw [← hys] at HRD HBY HZF HMF
        have HYS := Lib.hid hys
        clear hys
        go_wp2_with fail
        refine (bytes_any _ ys wr HRD.out HBY.out HZF.out).mono ?_
        rintro e w2 ⟨v2, rfl, hmk, hb2⟩
        have hmk0 := hmk
        obtain ⟨bm, cm, rfl, _⟩ := hmk0
        have HMK := Lib.hid hmk
        have HB2 := Lib.hid (HBW.out.trans (hb2.mono HBW.out.size))
        have HRD2 := Lib.hid (HRD.out.below hb2 (Nat.le_refl _))
        clear hmk hb2
        go_wp2_with fail
        refine (refsum_any _ ys w2 HRD2.out HBY.out HZF.out).mono ?_
        rintro e w3 ⟨rfl, hb3⟩
        have HMK3 := Lib.hid (marked_below HMK.out hb3)
        have HRD3 := Lib.hid (HRD2.out.below hb3 (Nat.le_refl _))
        have HB3 := Lib.hid (HB2.out.trans (hb3.mono HB2.out.size))
        clear hb3
        have HSL := Lib.hid (show (Sha.sum ys).length = 32 from Sha.join_len _)
        have HSB := Lib.hid (show Sha.Byte (Sha.sum ys) from Sha.join_byte _)
        obtain ⟨dg, hdg⟩ : ∃ dg, dg = Sha.sum ys := ⟨_, rfl⟩
        rw [← hdg] at HSL HSB ⊢
        have HDG := Lib.hid hdg
        clear hdg
        have HO0 : Hid (Blk (w3.alloc (.cells (u8s (List.replicate 32 0)) 27)) w3.heap.size 27 (u8s (List.replicate 32 0))) := Lib.hid (Blk.new _ _ _)
        go_wp2_with (refine wpList_store_row rfl 27 (.tmp 7) (.tmp 30) rfl w3.heap.size (u8s dg) rfl rfl 27 _ HO0.out (by rw [u8s_size, HSL.out]; exact oid_info) (by rw [u8s_size, u8s_size, HSL.out]; rfl) (u8s_one _) ?_)
        have hB4 : Below w3.heap.size w3 ((w3.alloc (.cells #[.int .u8 0, .int .u8 0, .int .u8 0, .int .u8 0, .int .u8 0, .int .u8 0, .int .u8 0, .int .u8 0, .int .u8 0, .int .u8 0, .int .u8 0, .int .u8 0, .int .u8 0, .int .u8 0, .int .u8 0, .int .u8 0, .int .u8 0, .int .u8 0, .int .u8 0, .int .u8 0, .int .u8 0, .int .u8 0, .int .u8 0, .int .u8 0, .int .u8 0, .int .u8 0, .int .u8 0, .int .u8 0, .int .u8 0, .int .u8 0, .int .u8 0, .int .u8 0] 27)).setRow w3.heap.size (u8s dg)) := below_row ((Below.refl _ _).alloc (Nat.le_refl _) _) (Nat.le_refl _) _
        have HBK : Hid (Blk ((w3.alloc (.cells #[.int .u8 0, .int .u8 0, .int .u8 0, .int .u8 0, .int .u8 0, .int .u8 0, .int .u8 0, .int .u8 0, .int .u8 0, .int .u8 0, .int .u8 0, .int .u8 0, .int .u8 0, .int .u8 0, .int .u8 0, .int .u8 0, .int .u8 0, .int .u8 0, .int .u8 0, .int .u8 0, .int .u8 0, .int .u8 0, .int .u8 0, .int .u8 0, .int .u8 0, .int .u8 0, .int .u8 0, .int .u8 0, .int .u8 0, .int .u8 0, .int .u8 0, .int .u8 0] 27)).setRow w3.heap.size (u8s dg)) w3.heap.size 27 (u8s dg)) := Lib.hid (HO0.out.row _)
        have HB4 := Lib.hid (HB3.out.trans (hB4.mono HB3.out.size))
        have HMK4 := Lib.hid (marked_below HMK3.out hB4)
        have HRD4 := Lib.hid (HRD3.out.below hB4 (Nat.le_refl _))
        clear hB4
        generalize (w3.alloc (.cells #[.int .u8 0, .int .u8 0, .int .u8 0, .int .u8 0, .int .u8 0, .int .u8 0, .int .u8 0, .int .u8 0, .int .u8 0, .int .u8 0, .int .u8 0, .int .u8 0, .int .u8 0, .int .u8 0, .int .u8 0, .int .u8 0, .int .u8 0, .int .u8 0, .int .u8 0, .int .u8 0, .int .u8 0, .int .u8 0, .int .u8 0, .int .u8 0, .int .u8 0, .int .u8 0, .int .u8 0, .int .u8 0, .int .u8 0, .int .u8 0, .int .u8 0, .int .u8 0] 27)).setRow w3.heap.size (u8s dg) = w4 at HBK HB4 HMK4 HRD4 ⊢
        try simp only [Act.put, List.getElem_toArray, List.getElem_cons_zero, List.getElem_cons_succ, List.setIfInBounds_toArray, List.set_cons_zero, List.set_cons_succ]
        have HBD := Lib.hid HBK.out.drew
        have HB5 := Lib.hid (below_drewN HB4.out 1)
        have HMK5 : Hid (Marked w4.drew (.slice (some ⟨bm, 0, none⟩) ys.length cm) ys) := Lib.hid HMK4.out
        have HRD5 : Hid (Rd w4.drew (.slice A3 m c3) ys) := Lib.hid HRD4.out
        have HVD := Lib.hid (rdL_below HV.out HB5.out)
        have HRV := Lib.hid (fun i u (h : vs[i]? = some u) => (HR.out i u h).below HB5.out (Nat.le_refl _))
        have HTD := Lib.hid (HT0.out.below HB5.out (Nat.le_refl _))
        have HS32 := Lib.hid (show (u8s dg).size = 32 by rw [u8s_size, HSL.out])
        have hq1 : ∀ w, (Op.equalIn 10000 27 (.agg (u8s dg)) (.agg (u8s dg))).run Tryd.prog w = .ok true w := fun w => by rw [run_equalIn_u8s w _ _ 32 Tryd.underlying27 Tryd.underlying5 u8_sz dg dg HSL.out HSL.out HSB.out HSB.out]; simp
        have hq2 : ∀ w, (binOp .eql 27 (.agg (u8s dg)) (.agg (u8s dg))).run Tryd.prog w = .ok (.bool true) w := fun w => by rw [run_eq_u8s w _ _ 32 Tryd.underlying27 Tryd.underlying5 u8_sz dg dg HSL.out HSL.out HSB.out HSB.out]; simp
        refine wp_region_held (S := (fun w' => Below w4.drew.heap.size w4.drew w')) (by kernel_rfl) ?_
        change wpAnyH _ _ _ _ _ _ _ _ w4.drew
        refine wpAnyH_take (i := 0) (v := ?_) rfl (by kernel_rfl) (by kernel_rfl) (by kernel_rfl) (fun _ _ _ h => h) (Or.inl ⟨by rfl, ?_⟩) (Below.refl _ _) ?_
        rotate_left
        · intro w _; go_simp; with_reducible rfl
        try simp only [Act.put, List.getElem_toArray, List.getElem_cons_zero, List.getElem_cons_succ, List.setIfInBounds_toArray, List.set_cons_zero, List.set_cons_succ]
        refine wpAnyH_take (i := 2) rfl (by kernel_rfl) (by kernel_rfl) (by kernel_rfl) (fun _ _ _ h => h) (takes_row 27 (.tmp 7) rfl (by rfl) (w3.heap.size) rfl 27 (u8s dg) _ (fun w5 h => HBD.out.below h HBD.out.lt) Tryd.underlying27 rfl (by rw [HS32.out]; exact oid_info)) (Below.refl _ _) ?_
        try simp only [Act.put, List.getElem_toArray, List.getElem_cons_zero, List.getElem_cons_succ, List.setIfInBounds_toArray, List.set_cons_zero, List.set_cons_succ]
        refine all_one (i := 1) (by kernel_rfl) rfl (by rfl) (fun K hK => ?_)
        have C1 := sum_any _ vs pss w4.drew HVD.out (by rw [← HN.out]; exact HL.out) HRV.out HB.out HTD.out (by rw [← HN.out]; omega) (fun ps hp => by have := H300.out ps hp; omega)
        rw [← HYS.out, ← HDG.out] at C1
        go_simp
        refine (C1).mono ?_
        rintro e w5 ⟨rfl, hb5⟩
        dsimp only
        refine hK _ _ (hb5) ?_; clear hK K
        try simp only [Act.put, List.getElem_toArray, List.getElem_cons_zero, List.getElem_cons_succ, List.setIfInBounds_toArray, List.set_cons_zero, List.set_cons_succ]
        have HE5 := Lib.hid hb5
        clear hb5
        refine wpAnyH_take (i := 3) (v := ?_) rfl (by kernel_rfl) (by kernel_rfl) (by kernel_rfl) (fun _ _ _ h => h) (Or.inl ⟨by rfl, ?_⟩) (HE5.out) ?_
        rotate_left
        · intro w _; go_simp; with_reducible rfl
        try simp only [Act.put, List.getElem_toArray, List.getElem_cons_zero, List.getElem_cons_succ, List.setIfInBounds_toArray, List.set_cons_zero, List.set_cons_succ]
        refine wpAnyH_take (i := 4) (v := ?_) rfl (by kernel_rfl) (by kernel_rfl) (by kernel_rfl) (fun _ _ _ h => h) (Or.inl ⟨by rfl, ?_⟩) (HE5.out) ?_
        rotate_left
        · intro w _; go_simp; with_reducible rfl
        try simp only [Act.put, List.getElem_toArray, List.getElem_cons_zero, List.getElem_cons_succ, List.setIfInBounds_toArray, List.set_cons_zero, List.set_cons_succ]
        refine wpAnyH_take (i := 5) (v := ?_) rfl (by kernel_rfl) (by kernel_rfl) (by kernel_rfl) (fun _ _ _ h => h) (Or.inl ⟨by rfl, ?_⟩) (HE5.out) ?_
        rotate_left
        · intro w _; go_simp; with_reducible rfl
        try simp only [Act.put, List.getElem_toArray, List.getElem_cons_zero, List.getElem_cons_succ, List.setIfInBounds_toArray, List.set_cons_zero, List.set_cons_succ]
        refine wpAnyH_take (i := 8) rfl (by kernel_rfl) (by kernel_rfl) (by kernel_rfl) (fun _ _ _ h => h) (takes_row 27 (.tmp 7) rfl (by rfl) (w3.heap.size) rfl 27 (u8s dg) _ (fun w5 h => HBD.out.below h HBD.out.lt) Tryd.underlying27 rfl (by rw [HS32.out]; exact oid_info)) (HE5.out) ?_
        try simp only [Act.put, List.getElem_toArray, List.getElem_cons_zero, List.getElem_cons_succ, List.setIfInBounds_toArray, List.set_cons_zero, List.set_cons_succ]
        refine all_one (i := 6) (by kernel_rfl) rfl (by rfl) (fun K hK => ?_)
        go_simp
        have HE6 : Hid (Below w4.drew.heap.size w4.drew (w5.alloc (.cells #[.slice (some ⟨bm, 0, none⟩) ys.length cm] 24))) := Lib.hid (HE5.out.alloc HE5.out.size _)
        refine hK _ _ HE6.out ?_; clear hK K
        try simp only [Act.put, List.getElem_toArray, List.getElem_cons_zero, List.getElem_cons_succ, List.setIfInBounds_toArray, List.set_cons_zero, List.set_cons_succ]
        refine all_one (i := 7) (by kernel_rfl) rfl (by rfl) (fun K hK => ?_)
        have HV6 : Hid (RdL (w5.alloc (.cells #[.slice (some ⟨bm, 0, none⟩) ys.length cm] 24)) (.slice (some ⟨w5.heap.size, 0, none⟩) 1 1) [.slice (some ⟨bm, 0, none⟩) ys.length cm]) := Lib.hid ⟨_, _, rfl, Nat.le_refl _, fun _ => ⟨_, 0, rfl, by simp, fun i u hu => by rcases i with _ | i <;> simp at hu; subst hu; simp⟩⟩
        have HM6 := Lib.hid (marked_below HMK5.out HE6.out)
        have C2 := sum_any _ [.slice (some ⟨bm, 0, none⟩) ys.length cm] [ys] _ HV6.out rfl (fun i u hu => by rcases i with _ | i <;> simp at hu; subst hu; exact marked_rd HM6.out) (fun ps hp => by simp at hp; subst hp; exact HBY.out) (HTD.out.below HE6.out (Nat.le_refl _)) (by simp) (fun ps hp => by simp at hp; subst hp; rw [← HMF.out]; omega)
        rw [show [ys].flatten = ys from by simp, ← HDG.out] at C2
        go_simp
        refine (C2).mono ?_
        rintro e w7 ⟨rfl, hb7⟩
        have hb8 := HE6.out.trans (hb7.mono HE6.out.size)
        dsimp only
        refine hK _ _ (hb8) ?_; clear hK K
        try simp only [Act.put, List.getElem_toArray, List.getElem_cons_zero, List.getElem_cons_succ, List.setIfInBounds_toArray, List.set_cons_zero, List.set_cons_succ]
        have HE7 := Lib.hid hb8
        clear hb7 hb8
        refine wpAnyH_take (i := 9) (v := ?_) rfl (by kernel_rfl) (by kernel_rfl) (by kernel_rfl) (fun _ _ _ h => h) (Or.inl ⟨by rfl, ?_⟩) (HE7.out) ?_
        rotate_left
        · intro w _; go_simp; with_reducible rfl
        try simp only [Act.put, List.getElem_toArray, List.getElem_cons_zero, List.getElem_cons_succ, List.setIfInBounds_toArray, List.set_cons_zero, List.set_cons_succ]
        refine wpAnyH_take (i := 10) (v := ?_) rfl (by kernel_rfl) (by kernel_rfl) (by kernel_rfl) (fun _ _ _ h => h) (Or.inl ⟨by rfl, ?_⟩) (HE7.out) ?_
        rotate_left
        · intro w _; go_simp; with_reducible rfl
        try simp only [Act.put, List.getElem_toArray, List.getElem_cons_zero, List.getElem_cons_succ, List.setIfInBounds_toArray, List.set_cons_zero, List.set_cons_succ]
        refine wpAnyH_take (i := 11) (v := ?_) rfl (by kernel_rfl) (by kernel_rfl) (by kernel_rfl) (fun _ _ _ h => h) (Or.inl ⟨by rfl, ?_⟩) (HE7.out) ?_
        rotate_left
        · intro w _; go_simp; with_reducible rfl
        try simp only [Act.put, List.getElem_toArray, List.getElem_cons_zero, List.getElem_cons_succ, List.setIfInBounds_toArray, List.set_cons_zero, List.set_cons_succ]
        refine wpAnyH_take (i := 12) (v := ?_) rfl (by kernel_rfl) (by kernel_rfl) (by kernel_rfl) (fun _ _ _ h => h) (Or.inl ⟨by rfl, ?_⟩) (HE7.out) ?_
        rotate_left
        · intro w _; go_simp; with_reducible rfl
        try simp only [Act.put, List.getElem_toArray, List.getElem_cons_zero, List.getElem_cons_succ, List.setIfInBounds_toArray, List.set_cons_zero, List.set_cons_succ]
        refine wpAnyH_take (i := 13) (v := ?_) rfl (by kernel_rfl) (by kernel_rfl) (by kernel_rfl) (fun _ _ _ h => h) (Or.inl ⟨by rfl, ?_⟩) (HE7.out) ?_
        rotate_left
        · intro w _; go_simp; with_reducible rfl
        try simp only [Act.put, List.getElem_toArray, List.getElem_cons_zero, List.getElem_cons_succ, List.setIfInBounds_toArray, List.set_cons_zero, List.set_cons_succ]
        refine all_one (i := 14) (by kernel_rfl) rfl (by rfl) (fun K hK => ?_)
        go_simp
        refine ((kept_any (.slice (some ⟨bm, 0, none⟩) ys.length cm) (.slice A3 m c3) ys w7 (marked_below HMK5.out HE7.out) (HRD5.out.below HE7.out (Nat.le_refl _)) HZF.out)).mono ?_
        rintro e w8 ⟨rfl, mq, rfl⟩
        have hb9 := below_drewN HE7.out mq
        dsimp only
        refine hK _ _ (hb9) ?_; clear hK K
        try simp only [Act.put, List.getElem_toArray, List.getElem_cons_zero, List.getElem_cons_succ, List.setIfInBounds_toArray, List.set_cons_zero, List.set_cons_succ]
        have HE8 := Lib.hid hb9
        clear hb9
        refine wpAnyH_take (i := 15) (v := ?_) rfl (by kernel_rfl) (by kernel_rfl) (by kernel_rfl) (fun _ _ _ h => h) (Or.inl ⟨by rfl, ?_⟩) (HE8.out) ?_
        rotate_left
        · intro w _; go_simp; with_reducible rfl
        try simp only [Act.put, List.getElem_toArray, List.getElem_cons_zero, List.getElem_cons_succ, List.setIfInBounds_toArray, List.set_cons_zero, List.set_cons_succ]
        refine wpAnyH_take (i := 16) (v := ?_) rfl (by kernel_rfl) (by kernel_rfl) (by kernel_rfl) (fun _ _ _ h => h) (Or.inl ⟨by rfl, ?_⟩) (HE8.out) ?_
        rotate_left
        · intro w _; go_simp; with_reducible rfl
        try simp only [Act.put, List.getElem_toArray, List.getElem_cons_zero, List.getElem_cons_succ, List.setIfInBounds_toArray, List.set_cons_zero, List.set_cons_succ]
        refine wpAnyH_done (by kernel_rfl) ?_ _
        go_wp2_with fail
        go_ret
        exact ⟨rfl, HB5.out.trans (HE8.out.mono HB5.out.size)⟩
  · go_wp2_with fail
    go_ret
    exact ⟨rfl, HB1.out⟩
end Go.Proofs.YtgjcfmgaioiogaaDoor.lawSums
