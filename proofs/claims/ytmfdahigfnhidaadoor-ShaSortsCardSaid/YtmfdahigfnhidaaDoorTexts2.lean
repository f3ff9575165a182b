/- The walks of sha.Unhex of another length, of the order of digests and their first bytes, and of the reference's Hex, Unhex, Less. -/
import Derived.Test.YtmfdahigfnhidaaDoorTexts
import Derived.Lib.BytesEntry
namespace Go.Proofs.YtmfdahigfnhidaaDoor
open Go Go.RowKit

set_option maxRecDepth 100000 in
theorem unhex_long (s : ByteArray) (w : World) (hl : s.size ≠ 64) (hm : s.size ≤ 9223372036854775807) (a : Addr) (ha : w.cell? ⟨1, 0, none⟩ = some (ev a)) :
    Calls Tryd.prog 17 #[.string s] w fun e w' => e = .returned (.tuple #[.agg (u8s (List.replicate 32 0)), ev a]) ∧ Below w.heap.size w w' := by
  have hn : ((s.size : Int) != 64) = true := by rw [bne_iff_ne]; omega
  have hgl := block_lt_of_cell ha
  have hbel : Below w.heap.size w ((w.alloc (.cells (u8s (List.replicate 32 0)) 27)).alloc (.cells (u8s (List.replicate 32 0)) 27)) := (UnxW.start w []).bel
  have hres : Blk ((w.alloc (.cells (u8s (List.replicate 32 0)) 27)).alloc (.cells (u8s (List.replicate 32 0)) 27)) w.heap.size 27 (u8s (List.replicate 32 0)) := (Blk.new w _ _).alloc _
  have HA := Lib.hid ha
  have HRES := Lib.hid hres
  have HBEL := Lib.hid hbel
  clear hl ha hres hbel
  go_enter Tryd.func17, Tryd.ntmps17
  go_wp2_with fail
  change Code.wp _ _ _ _ ((w.alloc (.cells (u8s (List.replicate 32 0)) 27)).alloc (.cells (u8s (List.replicate 32 0)) 27))
  generalize ((w.alloc (.cells (u8s (List.replicate 32 0)) 27)).alloc (.cells (u8s (List.replicate 32 0)) 27)) = wr at HRES HBEL ⊢
  have hbel := HBEL.out
  have hcg := (hbel.cell (p := ⟨1, 0, none⟩) hgl).trans HA.out
  obtain ⟨zs, hzs⟩ : ∃ zs, zs = u8s (List.replicate 32 0) := ⟨_, rfl⟩
  have HZL := Lib.hid (show zs.size = 32 by rw [hzs, u8s_size]; rfl)
  have HZO := Lib.hid (show zs.all (·.oneCell') = true by rw [hzs]; exact u8s_one _)
  have HZS := Lib.hid hzs
  clear hzs
  have hcg2 : (wr.drew.setRow w.heap.size zs).cell? ⟨1, 0, none⟩ = some (ev a) := ((below_row (below_drewN hbel 1) (Nat.le_refl _) zs).cell (p := ⟨1, 0, none⟩) hgl).trans HA.out
  refine wp_region_any (by kernel_rfl) ?_
  change wpAny _ _ _ _ _ _ _ wr.drew
  refine wpAny_take (i := 0) (v := .agg zs) rfl (by kernel_rfl) (by kernel_rfl) (by kernel_rfl) (fun _ _ _ h => h) (Or.inl ⟨by rfl, fun _ => by rw [HZS.out]; kernel_rfl⟩) ?_
  simp only [Act.put, List.getElem_toArray, List.getElem_cons_zero, List.getElem_cons_succ, List.setIfInBounds_toArray, List.set_cons_zero, List.set_cons_succ]
  refine wpAny_ready (rs := [1, 2]) (by kernel_rfl) (by simp) ?_
  refine AllReady.cons rfl (fun K hK => ?_) (AllReady.cons rfl (fun K hK => ?_) AllReady.nil)
  · skip
    rw [if_pos (by rfl)]
    go_simp
    refine hK _ _ ?_; clear hK K
    try simp only [Act.put, List.getElem_toArray, List.getElem_cons_zero, List.getElem_cons_succ, List.setIfInBounds_toArray, List.set_cons_zero, List.set_cons_succ]
    refine wpAny_ready (rs := [2]) (by kernel_rfl) (by simp) ?_
    refine AllReady.cons rfl (fun K hK => ?_) AllReady.nil
    rw [if_pos (by rfl)]
    refine wp_store_row 27 _ _ rfl w.heap.size zs rfl rfl 27 _ HRES.out.drew (by rw [HZL.out]; exact oid_info) (by rw [HZL.out, u8s_size]; rfl) (HZO.out) ?_
    refine hK _ _ ?_; clear hK K
    try simp only [Act.put, List.getElem_toArray, List.getElem_cons_zero, List.getElem_cons_succ, List.setIfInBounds_toArray, List.set_cons_zero, List.set_cons_succ]
    refine wpAny_ready (rs := [3]) (by kernel_rfl) (by simp) ?_
    refine AllReady.cons rfl (fun K hK => ?_) AllReady.nil
    rw [if_pos (by rfl)]
    go_simp
    refine hK _ _ ?_; clear hK K
    try simp only [Act.put, List.getElem_toArray, List.getElem_cons_zero, List.getElem_cons_succ, List.setIfInBounds_toArray, List.set_cons_zero, List.set_cons_succ]
    refine wpAny_done (by kernel_rfl) ?_ _
    go_wp2_with fail
    refine bodyPost_ret (v := .tuple #[.agg zs, ev a]) (results_row_tmp rfl _ _ w.heap.size 27 _ (0, 0) _ _ rfl (HRES.out.drew.row _) Tryd.underlying27 rfl (by rw [HZL.out]; exact oid_info) rfl) rfl ?_
    exact ⟨by rw [HZS.out], (below_row (below_drewN hbel 1) (Nat.le_refl _) _)⟩
  · skip
    rw [if_pos (by rfl)]
    refine wp_store_row 27 _ _ rfl w.heap.size zs rfl rfl 27 _ HRES.out.drew (by rw [HZL.out]; exact oid_info) (by rw [HZL.out, u8s_size]; rfl) (HZO.out) ?_
    refine hK _ _ ?_; clear hK K
    try simp only [Act.put, List.getElem_toArray, List.getElem_cons_zero, List.getElem_cons_succ, List.setIfInBounds_toArray, List.set_cons_zero, List.set_cons_succ]
    refine wpAny_ready (rs := [1]) (by kernel_rfl) (by simp) ?_
    refine AllReady.cons rfl (fun K hK => ?_) AllReady.nil
    rw [if_pos (by rfl)]
    go_simp
    refine hK _ _ ?_; clear hK K
    try simp only [Act.put, List.getElem_toArray, List.getElem_cons_zero, List.getElem_cons_succ, List.setIfInBounds_toArray, List.set_cons_zero, List.set_cons_succ]
    refine wpAny_ready (rs := [3]) (by kernel_rfl) (by simp) ?_
    refine AllReady.cons rfl (fun K hK => ?_) AllReady.nil
    rw [if_pos (by rfl)]
    go_simp
    refine hK _ _ ?_; clear hK K
    try simp only [Act.put, List.getElem_toArray, List.getElem_cons_zero, List.getElem_cons_succ, List.setIfInBounds_toArray, List.set_cons_zero, List.set_cons_succ]
    refine wpAny_done (by kernel_rfl) ?_ _
    go_wp2_with fail
    refine bodyPost_ret (v := .tuple #[.agg zs, ev a]) (results_row_tmp rfl _ _ w.heap.size 27 _ (0, 0) _ _ rfl (HRES.out.drew.row _) Tryd.underlying27 rfl (by rw [HZL.out]; exact oid_info) rfl) rfl ?_
    exact ⟨by rw [HZS.out], (below_row (below_drewN hbel 1) (Nat.le_refl _) _)⟩

/-! the order of digests -/
theorem rd_bytes {w : World} {g : Nat} {t : TypeId} {xs : List Nat} (h : Blk w g t (u8s xs)) :
    ∀ j x, (xs.map Int.ofNat)[j]? = some x → w.cell? ((⟨g, 0, none⟩ : Addr).add j) = some (.int .u8 x) := by
  intro j x hx
  rw [List.getElem?_map] at hx
  obtain ⟨n, hn, rfl⟩ := Option.map_eq_some_iff.1 hx
  have hj := (List.getElem?_eq_some_iff.1 hn).1
  have e : ((⟨g, 0, none⟩ : Addr).add j) = ⟨g, j, none⟩ := by
    unfold Addr.add
    split
    · next h0 => rw [h0]
    · simp
  rw [e, h.cell j, u8s_get _ _ hj]
  simp [List.getD, hn]
theorem run_loadAll {P : Program} {w : World} {g : Nat} {t : TypeId} {xs : List Nat} (h : Blk w g t (u8s xs)) (n c : Nat) (hn : xs.length = n) :
    (Extern.Bytes.bytesOf (.slice (some ⟨g, 0, none⟩) n c)).run P w = .ok ⟨(xs.map UInt8.ofNat).toArray⟩ w := by
  have e := Lib.run_loadBytesX (P := P) w (xs.map Int.ofNat) ⟨g, 0, none⟩ .empty (rd_bytes h)
  rw [List.length_map, hn] at e
  show (Extern.Bytes.loadBytes ⟨g, 0, none⟩ n .empty).run P w = _
  rw [e]
  simp [ByteArray.empty, ByteArray.emptyWithCapacity, Lib.bytesOf, Function.comp_def]
  rfl
theorem compareBytes_cmpN : ∀ (a b : List Nat), (∀ x ∈ a, x < 256) → (∀ x ∈ b, x < 256) → Lib.compareBytes (a.map UInt8.ofNat) (b.map UInt8.ofNat) = Sha.cmpN a b
  | [], [], _, _ => rfl
  | [], _ :: _, _, _ => rfl
  | _ :: _, [], _, _ => rfl
  | x :: a, y :: b, ha, hb => by
    have hx := ha x (List.mem_cons_self)
    have hy := hb y (List.mem_cons_self)
    have ih := compareBytes_cmpN a b (fun z hz => ha z (List.mem_cons_of_mem _ hz)) (fun z hz => hb z (List.mem_cons_of_mem _ hz))
    have e1 : (UInt8.ofNat x < UInt8.ofNat y) ↔ x < y := by rw [UInt8.lt_iff_toNat_lt]; simp [Nat.mod_eq_of_lt hx, Nat.mod_eq_of_lt hy]
    have e2 : (UInt8.ofNat y < UInt8.ofNat x) ↔ y < x := by rw [UInt8.lt_iff_toNat_lt]; simp [Nat.mod_eq_of_lt hx, Nat.mod_eq_of_lt hy]
    simp only [List.map_cons, Lib.compareBytes, Sha.cmpN, e1, e2, ih]
theorem Byte.mem {xs : List Nat} (h : Sha.Byte xs) : ∀ x ∈ xs, x < 256 := fun x hx => by
  obtain ⟨i, hi, rfl⟩ := List.mem_iff_getElem.1 hx
  have := h i
  simpa [List.getD, hi] using this
theorem run_cmp {P : Program} {w : World} {g g' : Nat} {t t' : TypeId} {xs ys : List Nat} (h : Blk w g t (u8s xs)) (hb : Sha.Byte xs) (h' : Blk w g' t' (u8s ys)) (hb' : Sha.Byte ys) (n c n' c' : Nat) (hn : xs.length = n) (hn' : ys.length = n') :
    (Extern.BytealgCompare.compare #[.slice (some ⟨g, 0, none⟩) n c, .slice (some ⟨g', 0, none⟩) n' c']).run P w = .ok (.int .i64 (Sha.cmpN xs ys)) w := by
  change Sem.run P (do pure (goInt (Extern.BytealgCompare.cmp (← Extern.Bytes.bytesOf (.slice (some ⟨g, 0, none⟩) n c)) (← Extern.Bytes.bytesOf (.slice (some ⟨g', 0, none⟩) n' c'))))) w = _
  simp only [Sem.run_bind, Sem.run_pure, run_loadAll h n c hn, run_loadAll h' n' c' hn', Result.andThen]
  rw [Lib.cmp_eq, ← compareBytes_cmpN xs ys (Byte.mem hb) (Byte.mem hb')]
  rfl
theorem bcompare_any {w : World} {g g' : Nat} {t t' : TypeId} {xs ys : List Nat} (h : Blk w g t (u8s xs)) (hb : Sha.Byte xs) (h' : Blk w g' t' (u8s ys)) (hb' : Sha.Byte ys) (n c n' c' : Nat) (hn : xs.length = n) (hn' : ys.length = n') :
    Calls Tryd.prog 80 #[.slice (some ⟨g, 0, none⟩) n c, .slice (some ⟨g', 0, none⟩) n' c'] w fun e w' => e = .returned (.int .i64 (Sha.cmpN xs ys)) ∧ w' = w := by
  have hx := @run_callFunc_extern Tryd.prog 94 _ Extern.BytealgCompare.compare Tryd.func94 (by kernel_rfl) (by kernel_rfl) (by kernel_rfl) (by kernel_rfl)
  have hr := run_cmp (P := Tryd.prog) h hb h' hb' n c n' c' hn hn'
  clear h hb h' hb' hn hn'
  go_enter Tryd.func80, Tryd.ntmps80
  go_wp2_with fail
  go_ret
  exact ⟨rfl, rfl⟩
theorem ccompare_any (xs ys : List Nat) (w : World) (hx : xs.length = 32) (hy : ys.length = 32) (hb : Sha.Byte xs) (hb' : Sha.Byte ys) :
    Calls Tryd.prog 47 #[.agg (u8s xs), .agg (u8s ys)] w fun e w' => e = .returned (.int .i64 (Sha.cmpN xs ys)) ∧ Below w.heap.size w w' := by
  go_enter Tryd.func47, Tryd.ntmps47
  have HX : Hid (Blk ((w.alloc (.cells (u8s xs) 27)).alloc (.cells (u8s ys) 27)) w.heap.size 27 (u8s xs)) := Lib.hid ((Blk.new w _ _).alloc _)
  have HY : Hid (Blk ((w.alloc (.cells (u8s xs) 27)).alloc (.cells (u8s ys) 27)) (w.heap.size + 1) 27 (u8s ys)) := by
    have h := Blk.new (w.alloc (.cells (u8s xs) 27)) 27 (u8s ys)
    have e : (w.alloc (.cells (u8s xs) 27)).heap.size = w.heap.size + 1 := by simp
    rw [e] at h
    exact Lib.hid h
  have HB : Hid (Below w.heap.size w ((w.alloc (.cells (u8s xs) 27)).alloc (.cells (u8s ys) 27))) := by
    refine Lib.hid (((Below.refl _ _).alloc (Nat.le_refl _) _).alloc ?_ _); simp
  go_wp2_with fail
  generalize ((w.alloc (.cells (u8s xs) 27)).alloc (.cells (u8s ys) 27)) = wr at HX HY HB ⊢
  go_quiet ((go_at_call 80; exact Calls.quiet_of_same (bcompare_any (HX.out.drewN _) hb (HY.out.drewN _) hb' _ _ _ _ hx hy)))
  go_wp2
  go_ret
  exact ⟨rfl, below_drewN HB.out _⟩
set_option maxRecDepth 100000 in
theorem less_any (xs ys : List Nat) (w : World) (hx : xs.length = 32) (hy : ys.length = 32) (hb : Sha.Byte xs) (hb' : Sha.Byte ys) :
    Calls Tryd.prog 22 #[.agg (u8s xs), .agg (u8s ys)] w fun e w' => e = .returned (.bool (Sha.lexLt xs ys)) ∧ Below w.heap.size w w' := by
  have HX : Hid (Blk ((w.alloc (.cells (u8s xs) 27)).alloc (.cells (u8s ys) 27)) w.heap.size 27 (u8s xs)) := Lib.hid ((Blk.new w _ _).alloc _)
  have HY : Hid (Blk ((w.alloc (.cells (u8s xs) 27)).alloc (.cells (u8s ys) 27)) (w.heap.size + 1) 27 (u8s ys)) := by
    have h := Blk.new (w.alloc (.cells (u8s xs) 27)) 27 (u8s ys)
    have e : (w.alloc (.cells (u8s xs) 27)).heap.size = w.heap.size + 1 := by simp
    rw [e] at h
    exact Lib.hid h
  have HB : Hid (Below w.heap.size w ((w.alloc (.cells (u8s xs) 27)).alloc (.cells (u8s ys) 27))) := by
    refine Lib.hid (((Below.refl _ _).alloc (Nat.le_refl _) _).alloc ?_ _); simp
  have HLX := Lib.hid (show (u8s xs).size = 32 by rw [u8s_size, hx])
  have HLY := Lib.hid (show (u8s ys).size = 32 by rw [u8s_size, hy])
  have HHX := Lib.hid hx
  have HHY := Lib.hid hy
  clear hx hy
  go_enter Tryd.func22, Tryd.ntmps22
  go_wp2_with (first | (refine wpList_load_row rfl 27 (.tmp 2) rfl (w.heap.size) rfl 27 _ (0,0) _ HX.out Tryd.underlying27 rfl (by rw [HLX.out]; exact oid_info) ?_) | (refine wpList_load_row rfl 27 (.tmp 3) rfl (w.heap.size + 1) rfl 27 _ (0,0) _ HY.out Tryd.underlying27 rfl (by rw [HLY.out]; exact oid_info) ?_))
  refine (ccompare_any xs ys _ HHX.out HHY.out hb hb').mono ?_
  rintro e w2 ⟨rfl, hb2⟩
  have hb3 := HB.out.trans (hb2.mono (HB.out.size))
  clear hb2
  go_wp2_with fail
  go_ret
  exact ⟨rfl, hb3⟩
theorem shl_or (n b : Nat) (hb : b < 256) : n * 256 ||| b = n * 256 + b := by
  have h := Nat.shiftLeft_add_eq_or_of_lt (i := 8) (show b < 2 ^ 8 from hb) n
  rw [Nat.shiftLeft_eq] at h
  exact h.symm
set_option maxRecDepth 100000 in
theorem short_any (xs : List Nat) (w : World) (hx : xs.length = 32) (hb : Sha.Byte xs) :
    Calls Tryd.prog 24 #[.agg (u8s xs)] w fun e w' => e = .returned (.int .u64 ((Sha.shortK xs 8 : Nat) : Int)) ∧ Below w.heap.size w w' := by
  have HX : Hid (Blk (w.alloc (.cells (u8s xs) 27)) w.heap.size 27 (u8s xs)) := Lib.hid (Blk.new w _ _)
  have HB : Hid (Below w.heap.size w (w.alloc (.cells (u8s xs) 27))) := Lib.hid ((Below.refl _ _).alloc (Nat.le_refl _) _)
  have HHX := Lib.hid hx
  clear hx
  go_enter Tryd.func24, Tryd.ntmps24
  go_wp2_with fail
  change Code.wp _ _ _ _ (w.alloc (.cells (u8s xs) 27))
  generalize (w.alloc (.cells (u8s xs) 27)) = wr at HX HB ⊢

  go_loop [3, 8] (fun n i => ∃ k : Nat, k ≤ 8 ∧ i = .int .i64 k ∧ n = .int .u64 ((Sha.shortK xs k : Nat) : Int)) (fun _ i => 8 - (intOf i).toNat)
  case atStart => exact ⟨0, by omega, rfl, rfl⟩
  case round =>
    obtain ⟨k, hk, rfl, rfl⟩ := hrel
    have hs := Sha.shortK_lt hb k hk
    by_cases hlt : k < 8
    · have HS := Lib.hid (show Sha.shortK xs (k + 1) = Sha.shortK xs k * 256 + xs.getD k 0 from rfl)
      have hc := HX.out.cell k
      rw [u8s_get _ _ (by rw [HHX.out]; omega)] at hc
      have hbk := hb k
      have hs2 : Sha.shortK xs k < 72057594037927936 := Nat.lt_of_lt_of_le hs (Nat.pow_le_pow_right (j := 7) (show 0 < 256 by decide) (by omega))
      clear hs
      generalize xs.getD k 0 = c at hc hbk HS
      generalize Sha.shortK xs k = n at hs2 HS
      have HO : Hid (bits .or .u64 ((n : Int) * 256) (c : Int) = ((n * 256 + c : Nat) : Int)) := by
        have h := u64_or (n * 256) c (by omega) (by omega)
        rw [shl_or n c hbk, Int.natCast_mul] at h
        exact Lib.hid h
      go_wp2_with fail
      go_round
      case rel => exact ⟨k + 1, by omega, by go_num, by rw [HS.out, HO.out]⟩
      case measure => simp [intOf]; omega
    · have HK := Lib.hid (show k = 8 by omega)
      go_wp2_with fail
      go_ret
      exact ⟨by rw [HK.out]; rfl, HB.out⟩
/-! the reference -/
theorem take_eq_succ {xs ys : List Nat} {k : Nat} (h : xs.take k = ys.take k) (hx : k < xs.length) (hy : k < ys.length) (e : xs.getD k 0 = ys.getD k 0) : xs.take (k + 1) = ys.take (k + 1) := by
  rw [List.take_add_one, List.take_add_one, h]
  congr 1
  simp only [List.getD, List.getElem?_eq_getElem hx, List.getElem?_eq_getElem hy, Option.getD_some] at e
  rw [List.getElem?_eq_getElem hx, List.getElem?_eq_getElem hy, e]
set_option maxRecDepth 100000 in
theorem rless_any (xs ys : List Nat) (w : World) (hx : xs.length = 32) (hy : ys.length = 32) (hb : Sha.Byte xs) (hb' : Sha.Byte ys) :
    Calls Tryd.prog 23 #[.agg (u8s xs), .agg (u8s ys)] w fun e w' => e = .returned (.bool (Sha.lexLt xs ys)) ∧ Below w.heap.size w w' := by
  have HX : Hid (Blk ((w.alloc (.cells (u8s xs) 26)).alloc (.cells (u8s ys) 26)) w.heap.size 26 (u8s xs)) := Lib.hid ((Blk.new w _ _).alloc _)
  have HY : Hid (Blk ((w.alloc (.cells (u8s xs) 26)).alloc (.cells (u8s ys) 26)) (w.heap.size + 1) 26 (u8s ys)) := by
    have h := Blk.new (w.alloc (.cells (u8s xs) 26)) 26 (u8s ys)
    have e : (w.alloc (.cells (u8s xs) 26)).heap.size = w.heap.size + 1 := by simp
    rw [e] at h
    exact Lib.hid h
  have HB : Hid (Below w.heap.size w ((w.alloc (.cells (u8s xs) 26)).alloc (.cells (u8s ys) 26))) := by
    refine Lib.hid (((Below.refl _ _).alloc (Nat.le_refl _) _).alloc ?_ _); simp
  have HHX := Lib.hid hx
  have HHY := Lib.hid hy
  clear hx hy
  go_enter Tryd.func23, Tryd.ntmps23
  go_wp2_with fail
  change Code.wp _ _ _ _ ((w.alloc (.cells (u8s xs) 26)).alloc (.cells (u8s ys) 26))
  generalize ((w.alloc (.cells (u8s xs) 26)).alloc (.cells (u8s ys) 26)) = w1 at HX HY HB ⊢
  go_loopw [6] (fun i wr => ∃ k : Nat, k ≤ 32 ∧ i = .int .i64 k ∧ xs.take k = ys.take k ∧ ∃ n, wr = w1.drewN n) (fun i _ => 32 - (intOf i).toNat)
  case atStart => exact ⟨0, by omega, rfl, rfl, 0, rfl⟩
  case round =>
    obtain ⟨k, hk, rfl, ht, nd, rfl⟩ := hrel
    have HT := Lib.hid ht
    clear ht
    by_cases hlt : k < 32
    · have c1 := HX.out.cell k
      have c2 := HY.out.cell k
      rw [u8s_get _ _ (by rw [HHX.out]; omega)] at c1
      rw [u8s_get _ _ (by rw [HHY.out]; omega)] at c2
      have i0 : (0 : Int) ≤ ((k : Nat) : Int) := by omega
      have i1 : ((k : Nat) : Int) < 32 := by omega
      by_cases he : xs.getD k 0 = ys.getD k 0
      · have HE := Lib.hid (take_eq_succ HT.out (by rw [HHX.out]; omega) (by rw [HHY.out]; omega) he)
        rw [he] at c1
        clear he
        generalize ys.getD k 0 = y at c1 c2
        have hne : (((y : Nat) : Int) != ((y : Nat) : Int)) = false := by simp
        go_wp2_with fail
        go_quiet (fail)
        go_wp2_with fail
        go_roundw
        case rel => exact ⟨k + 1, by omega, by go_num, HE.out, _, rfl⟩
        case measure => simp [intOf]; omega
      · have HF := Lib.hid (Sha.cmpN_at k xs ys HT.out (by rw [HHX.out]; omega) (by rw [HHY.out]; omega) he)
        have hne : (((xs.getD k 0 : Nat) : Int) != ((ys.getD k 0 : Nat) : Int)) = true := by rw [bne_iff_ne]; omega
        clear he
        generalize xs.getD k 0 = x at c1 hne HF
        generalize ys.getD k 0 = y at c2 hne HF
        go_wp2_with fail
        go_quiet (fail)
        go_wp2_with fail
        go_quiet (fail)
        go_wp2_with fail
        go_ret
        exact ⟨by rw [HF.out]; simp, below_drewN (below_drewN (below_drewN HB.out _) _) _⟩
    · have HK := Lib.hid (show k = 32 by omega)
      go_wp2_with fail
      go_ret
      have e : xs = ys := by
        have h := HT.out
        rw [HK.out, List.take_of_length_le (by rw [HHX.out]; omega), List.take_of_length_le (by rw [HHY.out]; omega)] at h
        exact h
      exact ⟨by rw [e]; simp [Sha.lexLt, Sha.cmpN_self], below_drewN HB.out _⟩
theorem fig_extract : ∀ n : Fin 16, figS.extract n.val (n.val + 1) = textOf [Sha.fig n.val] := by decide +kernel
theorem slice_fig (i j : Int) (n : Nat) (hi : i = n) (hn : n < 16) (hj : j = n + 1) (w : World) :
    (Instr.slice 9 (.string figS) (some (.int .u8 i)) (some (.int .u8 j)) none).run Tryd.prog w = .ok (.string (textOf [Sha.fig n])) w := by
  subst hi hj
  have h16 : figS.size = 16 := rfl
  rw [run_slice_string (P := Tryd.prog) w 9 figS .u8 .u8 (n : Int) ((n : Int) + 1) Tryd.underlying9 (by omega) (by omega) (by rw [h16]; omega)]
  have e := fig_extract ⟨n, hn⟩
  have e2 : ((n : Int) + 1).toNat = n + 1 := by omega
  rw [Int.toNat_natCast, e2, e]
theorem textOf_append (a b : List Nat) : textOf (a ++ b) = textOf a ++ textOf b := by
  apply ByteArray.ext
  simp [textOf, ByteArray.data_append]
theorem textOf_size (a : List Nat) : (textOf a).size = a.length := by simp [textOf, ByteArray.size]
theorem hex_take (xs : List Nat) (k : Nat) (h : k < xs.length) : (Sha.hex xs).take (2 * (k + 1)) = (Sha.hex xs).take (2 * k) ++ [Sha.fig (xs.getD k 0 / 16), Sha.fig (xs.getD k 0 % 16)] := by
  have e1 := Sha.hex_even xs k h
  have e2 := Sha.hex_odd xs k h
  have hl := Sha.hex_len xs
  have g1 : (Sha.hex xs)[2 * k]? = some (Sha.fig (xs.getD k 0 / 16)) := by
    rw [List.getElem?_eq_getElem (by omega)]; rw [List.getD, List.getElem?_eq_getElem (by omega)] at e1; rw [← e1]; rfl
  have g2 : (Sha.hex xs)[2 * k + 1]? = some (Sha.fig (xs.getD k 0 % 16)) := by
    rw [List.getElem?_eq_getElem (by omega)]; rw [List.getD, List.getElem?_eq_getElem (by omega)] at e2; rw [← e2]; rfl
  rw [show 2 * (k + 1) = 2 * k + 1 + 1 by omega, List.take_add_one, List.take_add_one, g1, g2]
  simp
set_option maxRecDepth 100000 in
theorem rhex_any (xs : List Nat) (w : World) (hx : xs.length = 32) (hb : Sha.Byte xs) :
    Calls Tryd.prog 20 #[.agg (u8s xs)] w fun e w' => e = .returned (.string (textOf (Sha.hex xs))) ∧ Below w.heap.size w w' := by
  have HX : Hid (Blk (w.alloc (.cells (u8s xs) 26)) w.heap.size 26 (u8s xs)) := Lib.hid (Blk.new w _ _)
  have HB : Hid (Below w.heap.size w (w.alloc (.cells (u8s xs) 26))) := Lib.hid ((Below.refl _ _).alloc (Nat.le_refl _) _)
  have HLX := Lib.hid (show (u8s xs).size = 32 by rw [u8s_size, hx])
  have HHX := Lib.hid hx
  clear hx
  go_enter Tryd.func20, Tryd.ntmps20
  go_wp2_with (first | (refine wpList_load_row rfl 26 (.tmp 1) rfl (w.heap.size) rfl 26 _ (0,0) _ HX.out Tryd.underlying26 rfl (by rw [HLX.out]; kernel_rfl) ?_))
  change Code.wp _ _ _ _ (w.alloc (.cells (u8s xs) 26))
  generalize (w.alloc (.cells (u8s xs) 26)) = w1 at HX HB ⊢
  go_loopw [4, 8] (fun s i wr => ∃ k : Nat, k ≤ 32 ∧ i = .int .i64 k ∧ s = .string (textOf ((Sha.hex xs).take (2 * k))) ∧ ∃ n, wr = w1.drewN n) (fun _ i _ => 32 - (intOf i).toNat)
  case atStart => exact ⟨0, by omega, rfl, rfl, 0, rfl⟩
  case round =>
    obtain ⟨k, hk, rfl, rfl, nd, rfl⟩ := hrel
    obtain ⟨acc, hacc⟩ : ∃ acc, textOf ((Sha.hex xs).take (2 * k)) = acc := ⟨_, rfl⟩
    rw [hacc]
    have HACC := Lib.hid hacc
    clear hacc
    by_cases hlt : k < 32
    · have HT := Lib.hid (hex_take xs k (by rw [HHX.out]; omega))
      have hix : ∀ w', (Instr.index 26 (.agg (u8s xs)) (.int .i64 k)).run Tryd.prog w' = .ok (.int .u8 ((xs.getD k 0 : Nat) : Int)) w' := fun w' =>
        run_indexArr (n := 32) Tryd.underlying26 Tryd.underlying5 (by kernel_rfl) _ k _ hlt (u8s_get _ _ (by rw [HHX.out]; omega)) _ rfl w'
      have b0 := hb k
      generalize xs.getD k 0 = x at hix b0 HT
      have W1 : IntKind.u8.wrap ((x : Int) / 16) = (x : Int) / 16 := by show ((x : Int) / 16) % 256 = _; omega
      have W2 : IntKind.u8.wrap ((x : Int) / 16 + 1) = (x : Int) / 16 + 1 := by show ((x : Int) / 16 + 1) % 256 = _; omega
      have T1 : ((x : Int)).tmod 16 = (x : Int) % 16 := Int.tmod_eq_emod_of_nonneg (by omega)
      have W3 : IntKind.u8.wrap ((x : Int) % 16) = (x : Int) % 16 := by show ((x : Int) % 16) % 256 = _; omega
      have W4 : IntKind.u8.wrap ((x : Int) % 16 + 1) = (x : Int) % 16 + 1 := by show ((x : Int) % 16 + 1) % 256 = _; omega
      have s1 := fun w' => slice_fig ((x : Int) / 16) ((x : Int) / 16 + 1) (x / 16) (by omega) (by omega) (by omega) w'
      have s2 := fun w' => slice_fig ((x : Int) % 16) ((x : Int) % 16 + 1) (x % 16) (by omega) (by omega) (by omega) w'
      have ad1 := fun w' => run_string_add (P := Tryd.prog) w' (textOf [Sha.fig (x / 16)]) (textOf [Sha.fig (x % 16)]) (by rw [textOf_size]; simp) (by rw [textOf_size]; simp)
      have ad2 := fun w' => run_string_add (P := Tryd.prog) w' acc (textOf [Sha.fig (x / 16)] ++ textOf [Sha.fig (x % 16)]) (by rw [← HACC.out, textOf_size, List.length_take]; omega) (by rw [← textOf_append, textOf_size]; simp)
      go_wp2_with fail
      go_quiet (fail)
      clear W1 W2 W3 W4 T1 s1 s2 ad1 ad2
      go_wp2_with fail
      go_roundw
      case rel => exact ⟨k + 1, by omega, by go_num, by rw [HT.out, textOf_append, HACC.out, ← textOf_append [Sha.fig (x / 16)]]; rfl, _, rfl⟩
      case measure => simp [intOf]; omega
    · have HK := Lib.hid (show k = 32 by omega)
      go_wp2_with fail
      go_ret
      have e : (Sha.hex xs).take (2 * k) = Sha.hex xs := by rw [HK.out, List.take_of_length_le (by rw [Sha.hex_len, HHX.out]; omega)]
      exact ⟨by rw [← HACC.out, e]; rfl, below_drewN HB.out _⟩
end Go.Proofs.YtmfdahigfnhidaaDoor
