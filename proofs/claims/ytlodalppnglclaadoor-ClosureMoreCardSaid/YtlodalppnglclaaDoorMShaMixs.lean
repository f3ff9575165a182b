/- The walk of the 64 rounds (sha.mix). -/
import Derived.Test.YtlodalppnglclaaDoorMShaSpread
namespace Go.Proofs.YtlodalppnglclaaDoor
open Go Go.RowKit
/-- The package's two tables stand in memory. -/
structure Tabs (w : World) : Prop where
  big : 3 < w.heap.size ∧ 1 < w.heap.size
  start : ∀ i, i < 8 → w.cell? ⟨1, i, none⟩ = some (.int .u32 ((Sha.H0.getD i 0 : Nat) : Int))
  rounds : ∀ i, i < 64 → w.cell? ⟨3, i, none⟩ = some (.int .u32 ((Sha.K.getD i 0 : Nat) : Int))
theorem Tabs.below {B : Nat} {w w' : World} (h : Tabs w) (hb : Below B w w') (hB : w.heap.size ≤ B) : Tabs w' := by
  obtain ⟨⟨h1, h2⟩, h3, h4⟩ := h
  have hz := hb.size
  exact ⟨⟨by omega, by omega⟩, fun i hi => (hb.cell (p := ⟨1, i, none⟩) (by show 1 < B; omega)).trans (h3 i hi), fun i hi => (hb.cell (p := ⟨3, i, none⟩) (by show 3 < B; omega)).trans (h4 i hi)⟩
theorem S1_val (x : Nat) (h : x < 4294967296) : bits .xor .u32 (bits .xor .u32 ((Sha.rl x 26 : Nat) : Int) ((Sha.rl x 21 : Nat) : Int)) ((Sha.rl x 7 : Nat) : Int) = ((Sha.S1 x : Nat) : Int) := by
  have a := Sha.rl_lt x 26 h
  have b := Sha.rl_lt x 21 h
  rw [u32_xor _ _ a b]
  exact u32_xor _ _ (Sha.xor_lt a b) (Sha.rl_lt x 7 h)
theorem S0_val (x : Nat) (h : x < 4294967296) : bits .xor .u32 (bits .xor .u32 ((Sha.rl x 30 : Nat) : Int) ((Sha.rl x 19 : Nat) : Int)) ((Sha.rl x 10 : Nat) : Int) = ((Sha.S0 x : Nat) : Int) := by
  have a := Sha.rl_lt x 30 h
  have b := Sha.rl_lt x 19 h
  rw [u32_xor _ _ a b]
  exact u32_xor _ _ (Sha.xor_lt a b) (Sha.rl_lt x 10 h)
theorem not_nat (x : Nat) (h : x < 4294967296) : 4294967295 ^^^ x = 4294967295 - x := by
  have e := congrArg BitVec.toNat (BitVec.allOnes_xor (x := BitVec.ofNat 32 x))
  rw [BitVec.toNat_xor, BitVec.toNat_not, BitVec.toNat_ofNat, Nat.mod_eq_of_lt h] at e
  exact e
theorem ch_val (e f g : Nat) (he : e < 4294967296) (hf : f < 4294967296) (hg : g < 4294967296) :
    bits .xor .u32 (bits .and .u32 (e : Int) (f : Int)) (bits .and .u32 (bits .xor .u32 IntKind.u32.max (e : Int)) (g : Int)) = ((Sha.ch e f g : Nat) : Int) := by
  have e1 : bits .xor .u32 IntKind.u32.max (e : Int) = ((4294967295 - e : Nat) : Int) := by
    rw [← not_nat e he]; exact u32_xor 4294967295 e (by omega) he
  rw [e1, u32_and _ _ he hf, u32_and _ _ (by omega) hg]
  exact u32_xor _ _ (Sha.and_lt he) (Sha.and_lt (by omega))
theorem maj_val (a b c : Nat) (ha : a < 4294967296) (hb : b < 4294967296) (hc : c < 4294967296) :
    bits .xor .u32 (bits .xor .u32 (bits .and .u32 (a : Int) (b : Int)) (bits .and .u32 (a : Int) (c : Int))) (bits .and .u32 (b : Int) (c : Int)) = ((Sha.maj a b c : Nat) : Int) := by
  rw [u32_and _ _ ha hb, u32_and _ _ ha hc, u32_and _ _ hb hc, u32_xor _ _ (Sha.and_lt ha) (Sha.and_lt ha)]
  exact u32_xor _ _ (Sha.xor_lt (Sha.and_lt ha) (Sha.and_lt ha)) (Sha.and_lt hb)
theorem list8 {l : List Nat} (h : l.length = 8) : ∃ a b c d e f g z, l = [a, b, c, d, e, f, g, z] := by
  match l, h with
  | [a, b, c, d, e, f, g, z], _ => exact ⟨a, b, c, d, e, f, g, z, rfl⟩
theorem mix_info : (Tryd.prog.info? 93).map (·.size) = some 8 := by kernel_rfl
theorem addS_val (x0 x1 x2 x3 x4 x5 x6 x7 a b c d e f g z : Nat) :
    #[Value.int .u32 (((x0 : Int) + a) % 4294967296), .int .u32 (((x1 : Int) + b) % 4294967296), .int .u32 (((x2 : Int) + c) % 4294967296), .int .u32 (((x3 : Int) + d) % 4294967296),
      .int .u32 (((x4 : Int) + e) % 4294967296), .int .u32 (((x5 : Int) + f) % 4294967296), .int .u32 (((x6 : Int) + g) % 4294967296), .int .u32 (((x7 : Int) + z) % 4294967296)]
      = u32s (Sha.addS [x0, x1, x2, x3, x4, x5, x6, x7] ⟨a, b, c, d, e, f, g, z⟩) := by
  simp [u32s, Sha.addS]
structure MixW (w : World) (ws sch : List Nat) (wr : World) : Prop where
  src : Blk wr w.heap.size 93 (u32s ws)
  sch : Blk wr (w.heap.size+1) 113 (u32s sch)
  res : ∃ cs, cs.size = 8 ∧ Blk wr (w.heap.size+1+1) 93 cs
  bel : Below w.heap.size w wr
theorem MixW.drewN {w : World} {ws sch : List Nat} {wr : World} (h : MixW w ws sch wr) (n : Nat) : MixW w ws sch (wr.drewN n) := by
  obtain ⟨cs, hz, hc⟩ := h.res
  exact ⟨h.src.drewN n, h.sch.drewN n, ⟨cs, hz, hc.drewN n⟩, below_drewN h.bel n⟩
theorem MixW.start (w : World) (ws sch : List Nat) : MixW w ws sch (((w.alloc (.cells (u32s ws) 93)).alloc (.cells (u32s sch) 113)).alloc (.cells (u32s (List.replicate 8 0)) 93)) := by
  have hbel : Below w.heap.size w (((w.alloc (.cells (u32s ws) 93)).alloc (.cells (u32s sch) 113)).alloc (.cells (u32s (List.replicate 8 0)) 93)) := by
    refine (((Below.refl _ _).alloc (Nat.le_refl _) _).alloc ?_ _).alloc ?_ _ <;> simp <;> omega
  refine ⟨((Blk.new w _ _).alloc _).alloc _, ?_, ⟨u32s (List.replicate 8 0), by rw [u32s_size]; rfl, ?_⟩, hbel⟩
  · have h := (Blk.new (w.alloc (.cells (u32s ws) 93)) 113 (u32s sch)).alloc (.cells (u32s (List.replicate 8 0)) 93)
    simpa using h
  · have h := Blk.new ((w.alloc (.cells (u32s ws) 93)).alloc (.cells (u32s sch) 113)) 93 (u32s (List.replicate 8 0))
    have e : ((w.alloc (.cells (u32s ws) 93)).alloc (.cells (u32s sch) 113)).heap.size = w.heap.size + 1 + 1 := by simp
    rw [e] at h
    exact h
theorem MixW.word {w : World} {ws sch : List Nat} {wr : World} (h : MixW w ws sch wr) (hx : ws.length = 8) (i : Nat) (hi : i < 8) : wr.cell? ⟨w.heap.size, i, none⟩ = some (.int .u32 ((ws.getD i 0 : Nat) : Int)) := by
  rw [h.src.cell i, u32s_get _ _ (by omega)]
set_option maxRecDepth 100000 in
theorem mix_any (ws sch : List Nat) (w : World) (hx : ws.length = 8) (hs : sch.length = 64) (hw : Sha.W32 ws) (hsw : Sha.W32 sch) (ht : Tabs w) :
    Calls Tryd.prog 59 #[.agg (u32s ws), .agg (u32s sch)] w fun e w' => e = .returned (.agg (u32s (Sha.mix ws sch))) ∧ Below w.heap.size w w' := by
  go_enter Tryd.func59, Tryd.ntmps59
  go_wp2
  have hM := MixW.start w ws sch
  change MixW w ws sch (((w.alloc (.cells (u32s ws) 93)).alloc (.cells (u32s sch) 113)).alloc (.cells #[.int .u32 0, .int .u32 0, .int .u32 0, .int .u32 0, .int .u32 0, .int .u32 0, .int .u32 0, .int .u32 0] 93)) at hM
  generalize ((w.alloc (.cells (u32s ws) 93)).alloc (.cells (u32s sch) 113)).alloc (.cells #[.int .u32 0, .int .u32 0, .int .u32 0, .int .u32 0, .int .u32 0, .int .u32 0, .int .u32 0, .int .u32 0] 93) = w1 at hM ⊢
  obtain ⟨x0, x1, x2, x3, x4, x5, x6, x7, rfl⟩ := list8 hx
  have e0 : w1.cell? ⟨w.heap.size, 0, none⟩ = some (.int .u32 (x0 : Nat)) := hM.word hx 0 (by omega)
  have e1 : w1.cell? ⟨w.heap.size, 1, none⟩ = some (.int .u32 (x1 : Nat)) := hM.word hx 1 (by omega)
  have e2 : w1.cell? ⟨w.heap.size, 2, none⟩ = some (.int .u32 (x2 : Nat)) := hM.word hx 2 (by omega)
  have e3 : w1.cell? ⟨w.heap.size, 3, none⟩ = some (.int .u32 (x3 : Nat)) := hM.word hx 3 (by omega)
  have e4 : w1.cell? ⟨w.heap.size, 4, none⟩ = some (.int .u32 (x4 : Nat)) := hM.word hx 4 (by omega)
  have e5 : w1.cell? ⟨w.heap.size, 5, none⟩ = some (.int .u32 (x5 : Nat)) := hM.word hx 5 (by omega)
  have e6 : w1.cell? ⟨w.heap.size, 6, none⟩ = some (.int .u32 (x6 : Nat)) := hM.word hx 6 (by omega)
  have e7 : w1.cell? ⟨w.heap.size, 7, none⟩ = some (.int .u32 (x7 : Nat)) := hM.word hx 7 (by omega)
  go_quiet (fail)
  go_wp2
  clear e0 e1 e2 e3 e4 e5 e6 e7
  replace hM := hM.drewN nq
  generalize w1.drewN nq = w2 at hM ⊢
  go_loopw [5, 6, 7, 8, 9, 10, 11, 12, 35] (fun a b c d e f g h i wr => ∃ (k : Nat) (s : Sha.S8), k ≤ 64 ∧ i = .int .i64 k ∧ s = Sha.rounds (Sha.ofL [x0, x1, x2, x3, x4, x5, x6, x7]) sch k ∧ a = .int .u32 (s.a : Nat) ∧ b = .int .u32 (s.b : Nat) ∧ c = .int .u32 (s.c : Nat) ∧ d = .int .u32 (s.d : Nat) ∧ e = .int .u32 (s.e : Nat) ∧ f = .int .u32 (s.f : Nat) ∧ g = .int .u32 (s.g : Nat) ∧ h = .int .u32 (s.h : Nat) ∧ MixW w [x0, x1, x2, x3, x4, x5, x6, x7] sch wr) (fun _ _ _ _ _ _ _ _ i _ => 64 - (intOf i).toNat)
  case atStart => exact ⟨0, _, by omega, rfl, rfl, rfl, rfl, rfl, rfl, rfl, rfl, rfl, rfl, hM⟩
  case round =>
    obtain ⟨k, s, hk, rfl, hs8, rfl, rfl, rfl, rfl, rfl, rfl, rfl, rfl, hR⟩ := hrel
    have HS := Lib.hid hs8
    have hok : s.ok := by rw [hs8]; exact Sha.rounds_ok _ (Sha.ofL_ok hw) k
    clear hs8
    obtain ⟨a, b, c, d, e, f, g, z⟩ := s
    obtain ⟨ha, hb, hc, hd, he, hf, hg, hh⟩ := hok
    dsimp only at ha hb hc hd he hf hg hh ⊢
    have htr := ht.below hR.bel (Nat.le_refl _)
    by_cases hlt : k < 64
    · go_wp2_with (go_at_call 70; refine (rot_gen _ _ _ (by assumption) (by decide)).mono ?_; rintro e w' ⟨rfl, rfl⟩)
      simp only [show rotBy (-6) = 26 from rfl, show rotBy (-11) = 21 from rfl, show rotBy (-25) = 7 from rfl]
      rw [S1_val e he, ch_val e f g he hf hg]
      have b1 := Sha.S1_lt e he
      have b2 := Sha.ch_lt e f g he
      have HT1 := Lib.hid (show Sha.t1 ⟨a, b, c, d, e, f, g, z⟩ (Sha.K.getD k 0) (sch.getD k 0) = (z + Sha.S1 e + Sha.ch e f g + Sha.K.getD k 0 + sch.getD k 0) % 4294967296 from rfl)
      have hk1 := htr.rounds k hlt
      have hk2 := hR.sch.cell k
      rw [u32s_get _ _ (by omega)] at hk2
      have b3 := Sha.K_lt k
      have b4 := hsw k
      generalize Sha.S1 e = s1 at b1 HT1 ⊢
      generalize Sha.ch e f g = c1 at b2 HT1 ⊢
      generalize hkk : Sha.K.getD k 0 = kk at hk1 b3 HT1
      generalize hkw : sch.getD k 0 = kw at hk2 b4 HT1
      have HN : Hid (Sha.rnd ⟨a, b, c, d, e, f, g, z⟩ kk kw = Sha.rounds (Sha.ofL [x0, x1, x2, x3, x4, x5, x6, x7]) sch (k + 1)) := by
        apply Lib.hid
        show _ = Sha.rnd (Sha.rounds (Sha.ofL [x0, x1, x2, x3, x4, x5, x6, x7]) sch k) (Sha.K.getD k 0) (sch.getD k 0)
        rw [hkk, hkw, ← HS.out]
      clear hkk hkw
      have j1 : ((k : Nat) : Int) < 64 := by omega
      have j2 : (0 : Int) ≤ ((k : Nat) : Int) := by omega
      go_quiet (fail)
      have ET : ((((z : Nat) : Int) + s1 + c1 + kk) % 4294967296 + kw) % 4294967296 = ((Sha.t1 ⟨a, b, c, d, e, f, g, z⟩ kk kw : Nat) : Int) := by
        rw [HT1.out]; omega
      have b5 : Sha.t1 ⟨a, b, c, d, e, f, g, z⟩ kk kw < 4294967296 := Nat.mod_lt _ (by decide)
      rw [ET]
      clear ET
      go_wp2_with (go_at_call 70; refine (rot_gen _ _ _ (by assumption) (by decide)).mono ?_; rintro e w' ⟨rfl, rfl⟩)
      go_roundw
      case rel =>
        refine ⟨k + 1, _, by omega, by go_num, HN.out, ?_, rfl, rfl, rfl, ?_, rfl, rfl, rfl, hR.drewN _⟩
        · rw [show rotBy (-2) = 30 from rfl, show rotBy (-13) = 19 from rfl, show rotBy (-22) = 10 from rfl, S0_val a ha, maj_val a b c ha hb hc]
          show _ = Value.int .u32 (((Sha.t1 ⟨a, b, c, d, e, f, g, z⟩ kk kw + (Sha.S0 a + Sha.maj a b c) % 4294967296) % 4294967296 : Nat) : Int)
          congr 1; omega
        · show _ = Value.int .u32 (((d + Sha.t1 ⟨a, b, c, d, e, f, g, z⟩ kk kw) % 4294967296 : Nat) : Int)
          congr 1
      case measure => simp [intOf]; omega
    · obtain rfl : k = 64 := by omega
      have e0 : wr.cell? ⟨w.heap.size, 0, none⟩ = some (.int .u32 (x0 : Nat)) := hR.word hx 0 (by omega)
      have e1 : wr.cell? ⟨w.heap.size, 1, none⟩ = some (.int .u32 (x1 : Nat)) := hR.word hx 1 (by omega)
      have e2 : wr.cell? ⟨w.heap.size, 2, none⟩ = some (.int .u32 (x2 : Nat)) := hR.word hx 2 (by omega)
      have e3 : wr.cell? ⟨w.heap.size, 3, none⟩ = some (.int .u32 (x3 : Nat)) := hR.word hx 3 (by omega)
      have e4 : wr.cell? ⟨w.heap.size, 4, none⟩ = some (.int .u32 (x4 : Nat)) := hR.word hx 4 (by omega)
      have e5 : wr.cell? ⟨w.heap.size, 5, none⟩ = some (.int .u32 (x5 : Nat)) := hR.word hx 5 (by omega)
      have e6 : wr.cell? ⟨w.heap.size, 6, none⟩ = some (.int .u32 (x6 : Nat)) := hR.word hx 6 (by omega)
      have e7 : wr.cell? ⟨w.heap.size, 7, none⟩ = some (.int .u32 (x7 : Nat)) := hR.word hx 7 (by omega)
      have hbel := hR.bel
      obtain ⟨cs, hz, hres⟩ := hR.res
      have HC := Lib.hid hres
      have HZ := Lib.hid hz
      clear hz hres
      go_wp2_with (first | (refine wpList_store_row rfl 93 (.tmp 4) (.tmp 133) rfl (w.heap.size + 1 + 1) _ rfl rfl 93 _ HC.out ?_ ?_ ?_ ?_))
      case refine_1 => exact mix_info
      case refine_2 => exact HZ.out
      case refine_3 => rw [addS_val]; exact u32s_one _
      rw [addS_val]
      have em : Sha.mix [x0, x1, x2, x3, x4, x5, x6, x7] sch = Sha.addS [x0, x1, x2, x3, x4, x5, x6, x7] ⟨a, b, c, d, e, f, g, z⟩ := by
        unfold Sha.mix; rw [HS.out]
      rw [em]
      exact bodyPost_ret (v := .agg (u32s (Sha.addS [x0, x1, x2, x3, x4, x5, x6, x7] ⟨a, b, c, d, e, f, g, z⟩))) (results_cell_row rfl _ _ (w.heap.size + 1 + 1) 93 _ (0, 0) _ rfl (HC.out.row _) Tryd.underlying93 rfl mix_info) rfl ⟨rfl, below_row hbel (by omega) _⟩
end Go.Proofs.YtlodalppnglclaaDoor
/- The walks of a digest's bytes (sha.join) and of its figures (sha.Hex). -/
namespace Go.Proofs.YtlodalppnglclaaDoor
open Go Go.RowKit
structure JoinW (w : World) (ws : List Nat) (k : Nat) (wr : World) : Prop where
  src : Blk wr w.heap.size 93 (u32s ws)
  res : ∃ cs, cs.size = 32 ∧ Blk wr (w.heap.size+1) 37 cs
  row : Blk wr (w.heap.size+1+1) 37 (u8s ((Sha.join ws).take k ++ List.replicate (32 - k) 0))
  bel : Below w.heap.size w wr
theorem JoinW.start (w : World) (ws : List Nat) : JoinW w ws 0 (((w.alloc (.cells (u32s ws) 93)).alloc (.cells (u8s (List.replicate 32 0)) 37)).alloc (.cells (u8s (List.replicate 32 0)) 37)) := by
  have hbel : Below w.heap.size w (((w.alloc (.cells (u32s ws) 93)).alloc (.cells (u8s (List.replicate 32 0)) 37)).alloc (.cells (u8s (List.replicate 32 0)) 37)) := by
    refine (((Below.refl _ _).alloc (Nat.le_refl _) _).alloc ?_ _).alloc ?_ _ <;> simp <;> omega
  refine ⟨((Blk.new w _ _).alloc _).alloc _, ⟨u8s (List.replicate 32 0), by rw [u8s_size]; rfl, ?_⟩, ?_, hbel⟩
  · have h := (Blk.new (w.alloc (.cells (u32s ws) 93)) 37 (u8s (List.replicate 32 0))).alloc (.cells (u8s (List.replicate 32 0)) 37)
    simpa using h
  · have h := Blk.new ((w.alloc (.cells (u32s ws) 93)).alloc (.cells (u8s (List.replicate 32 0)) 37)) 37 (u8s (List.replicate 32 0))
    have e : ((w.alloc (.cells (u32s ws) 93)).alloc (.cells (u8s (List.replicate 32 0)) 37)).heap.size = w.heap.size + 1 + 1 := by simp
    rw [e] at h
    exact h
/-- the first k of a row of n are those of l -/
theorem fill_take {l : List Nat} {n k : Nat} (hl : l.length = n) (hk : k < n) (x : Nat) (hx : x = l.getD k 0) : (l.take k ++ List.replicate (n - k) 0).set k x = l.take (k + 1) ++ List.replicate (n - (k + 1)) 0 := by
  have e := fill_set (l.take k) (n - (k + 1)) x
  rw [List.length_take, Nat.min_eq_left (by omega)] at e
  rw [show n - k = n - (k + 1) + 1 by omega, e, hx]
  congr 1
  rw [List.take_add_one]
  simp [List.getD, show k < l.length by omega]
theorem JoinW.put {w : World} {ws : List Nat} {k : Nat} {wr : World} (h : JoinW w ws k wr) (hk : k < 32) {v : Int} (hv : v = ((Sha.join ws).getD k 0 : Nat)) :
    JoinW w ws (k + 1) (wr.setCell ⟨w.heap.size + 1 + 1, k, none⟩ (.int .u8 v)) := by
  obtain ⟨cs, hz, hc⟩ := h.res
  refine ⟨h.src.far (by simp; omega) _, ⟨cs, hz, hc.far (by simp) _⟩, ?_, h.bel.setCell (p := ⟨w.heap.size + 1 + 1, k, none⟩) (by show w.heap.size ≤ w.heap.size + 1 + 1; omega) _⟩
  have h1 := h.row.set_ k (.int .u8 v)
  rw [hv, u8s_set, fill_take (Sha.join_len ws) hk _ rfl] at h1
  rw [hv]
  exact h1
theorem oid_info : (Tryd.prog.info? 37).map (·.size) = some 32 := by kernel_rfl
set_option maxRecDepth 100000 in
theorem join_any (ws : List Nat) (w : World) (hx : ws.length = 8) (hw : Sha.W32 ws) :
    Calls Tryd.prog 61 #[.agg (u32s ws)] w fun e w' => e = .returned (.agg (u8s (Sha.join ws))) ∧ Below w.heap.size w w' := by
  go_enter Tryd.func61, Tryd.ntmps61
  go_wp2
  go_loopw [5] (fun i wr => ∃ k : Nat, k ≤ 32 ∧ i = .int .i64 k ∧ JoinW w ws k wr) (fun i _ => 32 - (intOf i).toNat)
  case atStart => exact ⟨0, by omega, rfl, JoinW.start w ws⟩
  case round =>
    obtain ⟨k, hk, rfl, hJ⟩ := hrel
    by_cases hlt : k < 32
    · have e0 := hJ.src.cell (k/4)
      rw [u32s_get _ _ (by omega)] at e0
      have b0 := hw (k/4)
      have HJ := Lib.hid (Sha.join_get ws k hlt)
      generalize ws.getD (k/4) 0 = x at e0 b0 HJ
      have e1 := hJ.row.cell k
      rw [u8s_get _ _ (by simp [Sha.join_len]; omega)] at e1
      generalize ((Sha.join ws).take k ++ List.replicate (32 - k) 0).getD k 0 = y at e1
      have e2 := hJ.row.frozen k
      have i0 : (0 : Int) ≤ ((k : Nat) : Int) := by omega
      have i1 : ((k : Nat) : Int) < 32 := by omega
      have i2 : (0 : Int) ≤ 24 - 8 * (((k : Nat) : Int) % 4) := by omega
      have i3 : 24 - 8 * (((k : Nat) : Int) % 4) < 32 := by omega
      have i4 : ((k : Nat) : Int) / 4 < 8 := by omega
      have i5 : (0 : Int) ≤ ((k : Nat) : Int) / 4 := by omega
      go_wp2
      go_roundw
      case rel => exact ⟨k + 1, by omega, by go_num, hJ.put hlt (by rw [HJ.out]; simp)⟩
      case measure => simp [intOf]; omega
    · have HK := Lib.hid (show k = 32 by omega)
      have HR : Hid (Blk wr (w.heap.size + 1 + 1) 37 (u8s (Sha.join ws))) := by
        have h := hJ.row
        rw [HK.out, List.take_of_length_le (by rw [Sha.join_len]; omega), show List.replicate (32 - 32) 0 = ([] : List Nat) from rfl, List.append_nil] at h
        exact Lib.hid h
      have HL := Lib.hid (show (u8s (Sha.join ws)).size = 32 by rw [u8s_size, Sha.join_len])
      have hbel := hJ.bel
      obtain ⟨cs, hz, hres⟩ := hJ.res
      have HC := Lib.hid hres
      have HZ := Lib.hid hz
      clear hz hres
      go_wp2_with (first | (refine wpList_load_row rfl 37 (.tmp 3) rfl (w.heap.size + 1 + 1) rfl 37 _ (0,0) _ HR.out Tryd.underlying37 rfl (by rw [HL.out]; exact oid_info) ?_) | (refine wpList_store_row rfl 37 (.tmp 2) (.tmp 21) rfl (w.heap.size + 1) _ rfl rfl 37 _ HC.out (by rw [HL.out]; exact oid_info) (by rw [HL.out]; exact HZ.out) (u8s_one _) ?_))
      exact bodyPost_ret (v := .agg (u8s (Sha.join ws))) (results_cell_row rfl _ _ (w.heap.size + 1) 37 _ (0, 0) _ rfl (HC.out.row _) Tryd.underlying37 rfl (by rw [HL.out]; exact oid_info)) rfl ⟨rfl, below_row hbel (by omega) _⟩
structure HexW (w : World) (bs : List Nat) (k : Nat) (wr : World) : Prop where
  src : Blk wr w.heap.size 37 (u8s bs)
  row : Blk wr (w.heap.size+1) 94 (u8s ((Sha.hex bs).take k ++ List.replicate (64 - k) 0))
  bel : Below w.heap.size w wr
theorem HexW.start (w : World) (bs : List Nat) : HexW w bs 0 ((w.alloc (.cells (u8s bs) 37)).alloc (.cells (u8s (List.replicate 64 0)) 94)) := by
  have hbel : Below w.heap.size w ((w.alloc (.cells (u8s bs) 37)).alloc (.cells (u8s (List.replicate 64 0)) 94)) := by
    refine ((Below.refl _ _).alloc (Nat.le_refl _) _).alloc ?_ _ <;> simp
  refine ⟨(Blk.new w _ _).alloc _, ?_, hbel⟩
  have h := Blk.new (w.alloc (.cells (u8s bs) 37)) 94 (u8s (List.replicate 64 0))
  have e : (w.alloc (.cells (u8s bs) 37)).heap.size = w.heap.size + 1 := by simp
  rw [e] at h
  exact h
theorem HexW.put {w : World} {bs : List Nat} {k : Nat} {wr : World} (h : HexW w bs k wr) (hb : bs.length = 32) (hk : k < 64) {v : Int} (hv : v = ((Sha.hex bs).getD k 0 : Nat)) :
    HexW w bs (k + 1) (wr.setCell ⟨w.heap.size + 1, k, none⟩ (.int .u8 v)) := by
  refine ⟨h.src.far (by simp) _, ?_, h.bel.setCell (p := ⟨w.heap.size + 1, k, none⟩) (by show w.heap.size ≤ w.heap.size + 1; omega) _⟩
  have h1 := h.row.set_ k (.int .u8 v)
  rw [hv, u8s_set, fill_take (by rw [Sha.hex_len, hb]) hk _ rfl] at h1
  rw [hv]
  exact h1
end Go.Proofs.YtlodalppnglclaaDoor
