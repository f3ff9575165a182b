/- The walks of bits.RotateLeft32 and of the words of a block (sha.spread). -/
import Derived.Test.YtdokojlgcplefaaDoorMBases
namespace Go.Proofs.YtdokojlgcplefaaDoor
open Go Go.RowKit
theorem rot_any (x : Nat) (n : Int) (s : Nat) (w : World) (hx2 : x < 4294967296) (hs : bits BinOp.and IntKind.u64 (IntKind.u64.wrap n) 31 = (s : Int)) (h1 : 1 ≤ s) (h31 : s ≤ 31) :
  Calls Tryd.prog 93 #[.int .u32 x, .int .i64 n] w fun e w' => e = .returned (.int .u32 (Sha.rl x s : Nat)) ∧ w = w' := by
 go_enter Tryd.func93, Tryd.ntmps93
 go_wp2
 go_ret
 refine ⟨?_, rfl⟩
 congr 2
 have h1 : x / 2^(32-s) ≤ x := Nat.div_le_self _ _
 have e := u32_or (x * 2^s % 4294967296) (x / 2^(32-s)) (by omega) (by omega)
 unfold Sha.rl
 rw [← e]
 simp
theorem or_disj (a b i : Nat) (h : b < 2 ^ i) : 2 ^ i * a ||| b = 2 ^ i * a + b := (Nat.two_pow_add_eq_or_of_lt h a).symm
theorem word_val (x0 x1 x2 x3 : Nat) (h0 : x0 < 256) (h1 : x1 < 256) (h2 : x2 < 256) (h3 : x3 < 256) :
  bits .or .u32 (bits .or .u32 (bits .or .u32 ((x0 : Int) * 16777216) ((x1 : Int) * 65536)) ((x2 : Int) * 256)) (x3 : Int) = ((x0 * 16777216 + x1 * 65536 + x2 * 256 + x3 : Nat) : Int) := by
 have e1 : bits .or .u32 ((x0 : Int) * 16777216) ((x1 : Int) * 65536) = ((x0 * 16777216 + x1 * 65536 : Nat) : Int) := by
  have h := u32_or (x0 * 16777216) (x1 * 65536) (by omega) (by omega)
  have h' := or_disj x0 (x1 * 65536) 24 (by omega)
  rw [show 2 ^ 24 * x0 = x0 * 16777216 by omega] at h'
  rw [h'] at h
  simpa using h
 rw [e1]
 have e2 : bits .or .u32 ((x0 * 16777216 + x1 * 65536 : Nat) : Int) ((x2 : Int) * 256) = ((x0 * 16777216 + x1 * 65536 + x2 * 256 : Nat) : Int) := by
  have h := u32_or (x0 * 16777216 + x1 * 65536) (x2 * 256) (by omega) (by omega)
  have h' := or_disj (x0 * 256 + x1) (x2 * 256) 16 (by omega)
  rw [show 2 ^ 16 * (x0 * 256 + x1) = x0 * 16777216 + x1 * 65536 by omega] at h'
  rw [h'] at h
  simpa using h
 rw [e2]
 have h := u32_or (x0 * 16777216 + x1 * 65536 + x2 * 256) x3 (by omega) (by omega)
 have h' := or_disj (x0 * 65536 + x1 * 256 + x2) x3 8 (by omega)
 rw [show 2 ^ 8 * (x0 * 65536 + x1 * 256 + x2) = x0 * 16777216 + x1 * 65536 + x2 * 256 by omega] at h'
 rw [h'] at h
 exact h
theorem low_val (x : Nat) (h : x < 4294967296) : bits .xor .u32 (bits .xor .u32 ((Sha.rl x 25 : Nat) : Int) ((Sha.rl x 14 : Nat) : Int)) ((x : Int) / 8) = ((Sha.low x : Nat) : Int) := by
 have a := Sha.rl_lt x 25 h
 have b := Sha.rl_lt x 14 h
 rw [u32_xor _ _ a b]
 exact u32_xor _ (x / 8) (Sha.xor_lt a b) (by omega)
theorem high_val (x : Nat) (h : x < 4294967296) : bits .xor .u32 (bits .xor .u32 ((Sha.rl x 15 : Nat) : Int) ((Sha.rl x 13 : Nat) : Int)) ((x : Int) / 1024) = ((Sha.high x : Nat) : Int) := by
 have a := Sha.rl_lt x 15 h
 have b := Sha.rl_lt x 13 h
 rw [u32_xor _ _ a b]
 exact u32_xor _ (x / 1024) (Sha.xor_lt a b) (by omega)
def rotBy (n : Int) : Nat := (bits BinOp.and IntKind.u64 (IntKind.u64.wrap n) 31).toNat
def rotOk (n : Int) : Bool := decide (0 ≤ bits BinOp.and IntKind.u64 (IntKind.u64.wrap n) 31) && decide (1 ≤ rotBy n) && decide (rotBy n ≤ 31)
theorem rot_gen (x : Nat) (n : Int) (w : World) (hx2 : x < 4294967296) (hn : rotOk n = true) :
  Calls Tryd.prog 93 #[.int .u32 x, .int .i64 n] w fun e w' => e = .returned (.int .u32 (Sha.rl x (rotBy n) : Nat)) ∧ w = w' := by
 unfold rotOk at hn
 simp only [Bool.and_eq_true, decide_eq_true_eq] at hn
 exact rot_any x n (rotBy n) w hx2 (by unfold rotBy; omega) hn.1.2 hn.2
structure Spr (w : World) (bs : List Nat) (k : Nat) (wr : World) : Prop where
 src : Blk wr w.heap.size 133 (u8s bs)
 res : ∃ cs, cs.size = 64 ∧ Blk wr (w.heap.size+1) 141 cs
 row : Blk wr (w.heap.size+1+1) 141 (u32s (Sha.sched bs k ++ List.replicate (64 - k) 0))
 bel : Below w.heap.size w wr
theorem Spr.drewN {w : World} {bs : List Nat} {k : Nat} {wr : World} (h : Spr w bs k wr) (n : Nat) : Spr w bs k (wr.drewN n) := by
 obtain ⟨cs, hz, hc⟩ := h.res
 exact ⟨h.src.drewN n, ⟨cs, hz, hc.drewN n⟩, h.row.drewN n, below_drewN h.bel n⟩
theorem Spr.put {w : World} {bs : List Nat} {k : Nat} {wr : World} (h : Spr w bs k wr) (hk : k < 64) {v : Int} (hv : v = (Sha.nextW bs (Sha.sched bs k) : Nat)) :
  Spr w bs (k + 1) (wr.setCell ⟨w.heap.size + 1 + 1, k, none⟩ (.int .u32 v)) := by
 obtain ⟨cs, hz, hc⟩ := h.res
 refine ⟨h.src.far (by simp; omega) _, ⟨cs, hz, hc.far (by simp) _⟩, ?_, h.bel.setCell (p := ⟨w.heap.size + 1 + 1, k, none⟩) (by show w.heap.size ≤ w.heap.size + 1 + 1; omega) _⟩
 have h1 := h.row.set_ k (.int .u32 v)
 rw [hv, u32s_set, show 64 - k = (64 - (k + 1)) + 1 by omega] at h1
 have e := fill_set (Sha.sched bs k) (64 - (k + 1)) (Sha.nextW bs (Sha.sched bs k))
 rw [Sha.sched_len] at e
 rw [e] at h1
 rw [hv]
 exact h1
theorem Spr.get {w : World} {bs : List Nat} {k : Nat} {wr : World} (h : Spr w bs k wr) {j : Nat} (hj : j < k) (_hk : k ≤ 64) :
  wr.cell? ⟨w.heap.size + 1 + 1, j, none⟩ = some (.int .u32 (((Sha.sched bs k).getD j 0 : Nat) : Int)) := by
 rw [h.row.cell j, u32s_get _ _ (by simp [Sha.sched_len]; omega), Sha.getD_append_lt (by rw [Sha.sched_len]; exact hj)]
theorem Spr.free {w : World} {bs : List Nat} {k : Nat} {wr : World} (h : Spr w bs k wr) {j : Nat} (hj : j < 64) (_hk : k ≤ 64) :
  ∃ v, wr.cell? ⟨w.heap.size + 1 + 1, j, none⟩ = some (.int .u32 v) := by
 rw [h.row.cell j, u32s_get _ _ (by simp [Sha.sched_len]; omega)]
 exact ⟨_, rfl⟩
theorem Spr.start (w : World) (bs : List Nat) : Spr w bs 0 (((w.alloc (.cells (u8s bs) 133)).alloc (.cells (u32s (List.replicate 64 0)) 141)).alloc (.cells (u32s (List.replicate 64 0)) 141)) := by
 have hbel : Below w.heap.size w (((w.alloc (.cells (u8s bs) 133)).alloc (.cells (u32s (List.replicate 64 0)) 141)).alloc (.cells (u32s (List.replicate 64 0)) 141)) := by
  refine (((Below.refl _ _).alloc (Nat.le_refl _) _).alloc ?_ _).alloc ?_ _ <;> simp <;> omega
 refine ⟨((Blk.new w _ _).alloc _).alloc _, ⟨u32s (List.replicate 64 0), by rw [u32s_size]; rfl, ?_⟩, ?_, hbel⟩
 ·have h := (Blk.new (w.alloc (.cells (u8s bs) 133)) 141 (u32s (List.replicate 64 0))).alloc (.cells (u32s (List.replicate 64 0)) 141)
  simpa using h
 ·have h := Blk.new ((w.alloc (.cells (u8s bs) 133)).alloc (.cells (u32s (List.replicate 64 0)) 141)) 141 (u32s (List.replicate 64 0))
  have e : ((w.alloc (.cells (u8s bs) 133)).alloc (.cells (u32s (List.replicate 64 0)) 141)).heap.size = w.heap.size + 1 + 1 := by simp
  rw [e] at h
  exact h
set_option maxRecDepth 100000 in
theorem spread_any (bs : List Nat) (w : World) (hx : bs.length = 64) (hb : Sha.Byte bs) :
  Calls Tryd.prog 90 #[.agg (u8s bs)] w fun e w' => e = .returned (.agg (u32s (Sha.sched bs 64))) ∧ Below w.heap.size w w' := by
 go_enter Tryd.func90, Tryd.ntmps90
 go_wp2
 go_loopw [11] (fun i wr => ∃ k : Nat, k ≤ 16 ∧ i = .int .i64 k ∧ Spr w bs k wr) (fun i _ => 16 - (intOf i).toNat)
 case atStart => exact ⟨0, by omega, rfl, Spr.start w bs⟩
 case round =>
  obtain ⟨k, hk, rfl, hS⟩ := hrel
  by_cases hlt : k < 16
  ·have e0 := hS.src.cell (4*k); rw [u8s_get _ _ (by omega)] at e0
   have e1 := hS.src.cell (4*k+1); rw [u8s_get _ _ (by omega)] at e1
   have e2 := hS.src.cell (4*k+2); rw [u8s_get _ _ (by omega)] at e2
   have e3 := hS.src.cell (4*k+3); rw [u8s_get _ _ (by omega)] at e3
   obtain ⟨fv, f0⟩ := hS.free (j := k) (by omega) (by omega)
   have f1 := hS.row.frozen k
   have b0 := hb (4*k)
   have b1 := hb (4*k+1)
   have b2 := hb (4*k+2)
   have b3 := hb (4*k+3)
   have HV := Lib.hid (word_val _ _ _ _ b0 b1 b2 b3)
   have HW := Lib.hid (show Sha.nextW bs (Sha.sched bs k) = Sha.word bs k by unfold Sha.nextW; rw [Sha.sched_len, if_pos hlt])
   unfold Sha.word at HW
   generalize bs.getD (4*k) 0 = x0 at e0 b0 HV HW
   generalize bs.getD (4*k+1) 0 = x1 at e1 b1 HV HW
   generalize bs.getD (4*k+2) 0 = x2 at e2 b2 HV HW
   generalize bs.getD (4*k+3) 0 = x3 at e3 b3 HV HW
   have hk64 : ((k : Nat) : Int) < 64 := by omega
   have hk0 : (0 : Int) ≤ ((k : Nat) : Int) := by omega
   have hsl : ∀ w', (Instr.sliceAt 133 (.pointer (some ⟨w.heap.size,0,none⟩)) (some (.int .i64 (4*↑k))) (some (.int .i64 (4*↑k+4))) none).run Tryd.prog w' = .ok (.slice (some ⟨w.heap.size, 4*k, none⟩) 4 (64-4*k)) w' := by
    intro w'
    rw [run_sliceArr (n := 64) (e := 5) (s := 1) (by kernel_rfl) (by kernel_rfl) _ (4*k) (4*k+4) (by omega) (by omega) (by omega) (by omega)]
    rw [if_neg (by omega)]
    simp [Addr.add]; omega
   go_wp2
   refine wp_region_still_tail 24 (by kernel_rfl) (by kernel_rfl) ?_
   change wpStill _ _ wr.drew _ _ _
   dsimp only [List.take, List.drop]
   repeat still_step
   refine wpStill_nil ?_
   change wpList _ _ _ _ _ wr.drew
   go_wp2
   go_roundw
   case rel => exact ⟨k + 1, by omega, by go_num, (hS.put (by omega) (by rw [HW.out]; exact HV.out)).drewN 1⟩
   case measure => simp [intOf]; omega
  ·have HK := Lib.hid (show k = 16 by omega)
   go_wp2
   go_loopw [6] (fun i wr => ∃ k : Nat, 16 ≤ k ∧ k ≤ 64 ∧ i = .int .i64 k ∧ Spr w bs k wr) (fun i _ => 64 - (intOf i).toNat)
   case atStart => exact ⟨16, by omega, by omega, rfl, by have e := HK.out; subst e; exact hS⟩
   case round =>
    obtain ⟨j, hj0, hj, rfl, hT⟩ := hrel
    obtain ⟨wo, rfl⟩ : ∃ wo : World, wo = wr := ⟨_, rfl⟩
    by_cases hjt : j < 64
    ·have p0 := hT.get (j := j - 16) (by omega) hj
     have p1 := hT.get (j := j - 15) (by omega) hj
     have p2 := hT.get (j := j - 7) (by omega) hj
     have p3 := hT.get (j := j - 2) (by omega) hj
     have HW := Lib.hid (show Sha.nextW bs (Sha.sched bs j) = _ by unfold Sha.nextW; rw [Sha.sched_len, if_neg (by omega)])
     have q0 := Sha.sched_lt hb j (j - 16)
     have q1 := Sha.sched_lt hb j (j - 15)
     have q2 := Sha.sched_lt hb j (j - 7)
     have q3 := Sha.sched_lt hb j (j - 2)
     generalize (Sha.sched bs j).getD (j - 16) 0 = x0 at p0 q0 HW
     generalize (Sha.sched bs j).getD (j - 15) 0 = x1 at p1 q1 HW
     generalize (Sha.sched bs j).getD (j - 7) 0 = x2 at p2 q2 HW
     generalize (Sha.sched bs j).getD (j - 2) 0 = x3 at p3 q3 HW
     obtain ⟨fv, f0⟩ := hT.free (j := j) (by omega) (by omega)
     have f1 := hT.row.frozen j
     have i0 : ((j : Nat) : Int) < 64 := by omega
     have i1 : (0 : Int) ≤ ((j : Nat) : Int) - 15 := by omega
     have i2 : (0 : Int) ≤ ((j : Nat) : Int) - 2 := by omega
     have i3 : ((j : Nat) : Int) - 15 < 64 := by omega
     have i4 : ((j : Nat) : Int) - 2 < 64 := by omega
     have W15 : IntKind.i64.wrap (((j : Nat) : Int) - 15) = ((j : Nat) : Int) - 15 := IntWalk.i64_in _ (by omega)
     have W2 : IntKind.i64.wrap (((j : Nat) : Int) - 2) = ((j : Nat) : Int) - 2 := IntWalk.i64_in _ (by omega)
     have T15 : (((j : Nat) : Int) - 15).toNat = j - 15 := by omega
     have T2 : (((j : Nat) : Int) - 2).toNat = j - 2 := by omega
     go_wp2
     go_quiet (fail)
     go_wp2_with (go_at_call 93; refine (rot_gen _ _ _ (by assumption) (by decide)).mono ?_; rintro e w' ⟨rfl, rfl⟩)
     simp only [show rotBy (-7) = 25 from rfl, show rotBy (-18) = 14 from rfl, show rotBy (-17) = 15 from rfl, show rotBy (-19) = 13 from rfl]
     rw [low_val x1 q1, high_val x3 q3]
     have lo1 := Sha.low_lt x1 q1
     have lo2 := Sha.high_lt x3 q3
     generalize Sha.low x1 = l1 at lo1 HW ⊢
     generalize Sha.high x3 = l2 at lo2 HW ⊢
     clear W15 W2 T15 T2 i1 i2 i3 i4
     have W16 : IntKind.i64.wrap (((j : Nat) : Int) - 16) = ((j : Nat) : Int) - 16 := IntWalk.i64_in _ (by omega)
     have W7 : IntKind.i64.wrap (((j : Nat) : Int) - 7) = ((j : Nat) : Int) - 7 := IntWalk.i64_in _ (by omega)
     have T16 : (((j : Nat) : Int) - 16).toNat = j - 16 := by omega
     have T7 : (((j : Nat) : Int) - 7).toNat = j - 7 := by omega
     have i1 : (0 : Int) ≤ ((j : Nat) : Int) - 16 := by omega
     have i2 : (0 : Int) ≤ ((j : Nat) : Int) - 7 := by omega
     have i5 : (16 : Int) ≤ ((j : Nat) : Int) := by omega
     have i6 : (7 : Int) ≤ ((j : Nat) : Int) := by omega
     have i3 : ((j : Nat) : Int) - 16 < 64 := by omega
     have i4 : ((j : Nat) : Int) - 7 < 64 := by omega
     refine wp_region_still_tail 15 (by kernel_rfl) (by kernel_rfl) ?_
     change wpStill _ _ (wo.drewN nq).drew _ _ _
     dsimp only [List.take, List.drop]
     repeat still_step
     refine wpStill_nil ?_
     change wpList _ _ _ _ _ (wo.drewN nq).drew
     go_wp2
     go_roundw
     case rel =>
      refine ⟨j + 1, by omega, by omega, by go_num, (hT.drewN _).put (by omega) ?_⟩
      rw [HW.out]
      simp
     case measure => simp [intOf]; omega
    ·obtain rfl : j = 64 := by omega
     have HR : Hid (Blk wo (w.heap.size + 1 + 1) 141 (u32s (Sha.sched bs 64))) := by
      have h := hT.row
      rw [show List.replicate (64 - 64) 0 = ([] : List Nat) from rfl, List.append_nil] at h
      exact Lib.hid h
     have HL := Lib.hid (show (u32s (Sha.sched bs 64)).size = 64 by rw [u32s_size, Sha.sched_len])
     obtain ⟨cs, hz, hres⟩ := hT.res
     have HC := Lib.hid hres
     have HZ := Lib.hid hz
     clear hz hres
     go_wp2_with (first | (refine wpList_load_row rfl 141 (.tmp 3) rfl (w.heap.size + 1 + 1) rfl 141 _ (0,0) _ HR.out Tryd.underlying141 rfl (by rw [HL.out]; kernel_rfl) ?_) | (refine wpList_store_row rfl 141 (.tmp 2) (.tmp 88) rfl (w.heap.size + 1) _ rfl rfl 141 _ HC.out (by rw [HL.out]; kernel_rfl) (by rw [HL.out]; exact HZ.out) (u32s_one _) ?_))
     exact bodyPost_ret (v := .agg (u32s (Sha.sched bs 64))) (results_cell_row rfl _ _ (w.heap.size + 1) 141 _ (0, 0) _ rfl (HC.out.row _) Tryd.underlying141 rfl (by rw [HL.out]; kernel_rfl)) rfl ⟨rfl, below_row hT.bel (by omega) _⟩
end Go.Proofs.YtdokojlgcplefaaDoor
/- The walk of the 64 rounds (sha.mix). -/
namespace Go.Proofs.YtdokojlgcplefaaDoor
open Go Go.RowKit
structure Tabs (w : World) : Prop where
 big : 10 < w.heap.size ∧ 7 < w.heap.size
 start : ∀ i, i < 8 → w.cell? ⟨7, i, none⟩ = some (.int .u32 ((Sha.H0.getD i 0 : Nat) : Int))
 rounds : ∀ i, i < 64 → w.cell? ⟨10, i, none⟩ = some (.int .u32 ((Sha.K.getD i 0 : Nat) : Int))
theorem Tabs.below {B : Nat} {w w' : World} (h : Tabs w) (hb : Below B w w') (hB : w.heap.size ≤ B) : Tabs w' := by
 obtain ⟨⟨h1, h2⟩, h3, h4⟩ := h
 have hz := hb.size
 exact ⟨⟨by omega, by omega⟩, fun i hi => (hb.cell (p := ⟨7, i, none⟩) (by show 7 < B; omega)).trans (h3 i hi), fun i hi => (hb.cell (p := ⟨10, i, none⟩) (by show 10 < B; omega)).trans (h4 i hi)⟩
theorem S1_val (x : Nat) (h : x < 4294967296) : bits .xor .u32 (bits .xor .u32 ((Sha.rl x 26 : Nat) : Int) ((Sha.rl x 21 : Nat) : Int)) ((Sha.rl x 7 : Nat) : Int) = ((Sha.S1 x : Nat) : Int) := by
 have a := Sha.rl_lt x 26 h
 have b := Sha.rl_lt x 21 h
 rw [u32_xor _ _ a b]
 exact u32_xor _ _ (Sha.xor_lt a b) (Sha.rl_lt x 7 h)
theorem S0_val (x : Nat) (h : x < 4294967296) : bits .xor .u32 (bits .xor .u32 ((Sha.rl x 30 : Nat) : Int) ((Sha.rl x 19 : Nat) : Int)) ((Sha.rl x 10 : Nat) : Int) = ((Sha.S0 x : Nat) : Int) := by
 have a := Sha.rl_lt x 30 h
 have b := Sha.rl_lt x 19 h
 rw [u32_xor _ _ a b]
 exact u32_xor _ _ (Sha.xor_lt a b) (Sha.rl_lt x 10 h)
theorem not_nat (x : Nat) (h : x < 4294967296) : 4294967295 ^^^ x = 4294967295 - x := by
 have e := congrArg BitVec.toNat (BitVec.allOnes_xor (x := BitVec.ofNat 32 x))
 rw [BitVec.toNat_xor, BitVec.toNat_not, BitVec.toNat_ofNat, Nat.mod_eq_of_lt h] at e
 exact e
theorem ch_val (e f g : Nat) (he : e < 4294967296) (hf : f < 4294967296) (hg : g < 4294967296) :
  bits .xor .u32 (bits .and .u32 (e : Int) (f : Int)) (bits .and .u32 (bits .xor .u32 IntKind.u32.max (e : Int)) (g : Int)) = ((Sha.ch e f g : Nat) : Int) := by
 have e1 : bits .xor .u32 IntKind.u32.max (e : Int) = ((4294967295 - e : Nat) : Int) := by
  rw [← not_nat e he]; exact u32_xor 4294967295 e (by omega) he
 rw [e1, u32_and _ _ he hf, u32_and _ _ (by omega) hg]
 exact u32_xor _ _ (Sha.and_lt he) (Sha.and_lt (by omega))
theorem maj_val (a b c : Nat) (ha : a < 4294967296) (hb : b < 4294967296) (hc : c < 4294967296) :
  bits .xor .u32 (bits .xor .u32 (bits .and .u32 (a : Int) (b : Int)) (bits .and .u32 (a : Int) (c : Int))) (bits .and .u32 (b : Int) (c : Int)) = ((Sha.maj a b c : Nat) : Int) := by
 rw [u32_and _ _ ha hb, u32_and _ _ ha hc, u32_and _ _ hb hc, u32_xor _ _ (Sha.and_lt ha) (Sha.and_lt ha)]
 exact u32_xor _ _ (Sha.xor_lt (Sha.and_lt ha) (Sha.and_lt ha)) (Sha.and_lt hb)
theorem list8 {l : List Nat} (h : l.length = 8) : ∃ a b c d e f g z, l = [a, b, c, d, e, f, g, z] := by
 match l, h with
 | [a, b, c, d, e, f, g, z], _ => exact ⟨a, b, c, d, e, f, g, z, rfl⟩
theorem mix_info : (Tryd.prog.info? 132).map (·.size) = some 8 := by kernel_rfl
theorem addS_val (x0 x1 x2 x3 x4 x5 x6 x7 a b c d e f g z : Nat) :
  #[Value.int .u32 (((x0 : Int) + a) % 4294967296), .int .u32 (((x1 : Int) + b) % 4294967296), .int .u32 (((x2 : Int) + c) % 4294967296), .int .u32 (((x3 : Int) + d) % 4294967296),
   .int .u32 (((x4 : Int) + e) % 4294967296), .int .u32 (((x5 : Int) + f) % 4294967296), .int .u32 (((x6 : Int) + g) % 4294967296), .int .u32 (((x7 : Int) + z) % 4294967296)]
   = u32s (Sha.addS [x0, x1, x2, x3, x4, x5, x6, x7] ⟨a, b, c, d, e, f, g, z⟩) := by
 simp [u32s, Sha.addS]
structure MixW (w : World) (ws sch : List Nat) (wr : World) : Prop where
 src : Blk wr w.heap.size 132 (u32s ws)
 sch : Blk wr (w.heap.size+1) 141 (u32s sch)
 res : ∃ cs, cs.size = 8 ∧ Blk wr (w.heap.size+1+1) 132 cs
 bel : Below w.heap.size w wr
theorem MixW.drewN {w : World} {ws sch : List Nat} {wr : World} (h : MixW w ws sch wr) (n : Nat) : MixW w ws sch (wr.drewN n) := by
 obtain ⟨cs, hz, hc⟩ := h.res
 exact ⟨h.src.drewN n, h.sch.drewN n, ⟨cs, hz, hc.drewN n⟩, below_drewN h.bel n⟩
theorem MixW.start (w : World) (ws sch : List Nat) : MixW w ws sch (((w.alloc (.cells (u32s ws) 132)).alloc (.cells (u32s sch) 141)).alloc (.cells (u32s (List.replicate 8 0)) 132)) := by
 have hbel : Below w.heap.size w (((w.alloc (.cells (u32s ws) 132)).alloc (.cells (u32s sch) 141)).alloc (.cells (u32s (List.replicate 8 0)) 132)) := by
  refine (((Below.refl _ _).alloc (Nat.le_refl _) _).alloc ?_ _).alloc ?_ _ <;> simp <;> omega
 refine ⟨((Blk.new w _ _).alloc _).alloc _, ?_, ⟨u32s (List.replicate 8 0), by rw [u32s_size]; rfl, ?_⟩, hbel⟩
 ·have h := (Blk.new (w.alloc (.cells (u32s ws) 132)) 141 (u32s sch)).alloc (.cells (u32s (List.replicate 8 0)) 132)
  simpa using h
 ·have h := Blk.new ((w.alloc (.cells (u32s ws) 132)).alloc (.cells (u32s sch) 141)) 132 (u32s (List.replicate 8 0))
  have e : ((w.alloc (.cells (u32s ws) 132)).alloc (.cells (u32s sch) 141)).heap.size = w.heap.size + 1 + 1 := by simp
  rw [e] at h
  exact h
theorem MixW.word {w : World} {ws sch : List Nat} {wr : World} (h : MixW w ws sch wr) (hx : ws.length = 8) (i : Nat) (hi : i < 8) : wr.cell? ⟨w.heap.size, i, none⟩ = some (.int .u32 ((ws.getD i 0 : Nat) : Int)) := by
 rw [h.src.cell i, u32s_get _ _ (by omega)]
set_option maxRecDepth 100000 in
theorem mix_any (ws sch : List Nat) (w : World) (hx : ws.length = 8) (hs : sch.length = 64) (hw : Sha.W32 ws) (hsw : Sha.W32 sch) (ht : Tabs w) :
  Calls Tryd.prog 89 #[.agg (u32s ws), .agg (u32s sch)] w fun e w' => e = .returned (.agg (u32s (Sha.mix ws sch))) ∧ Below w.heap.size w w' := by
 go_enter Tryd.func89, Tryd.ntmps89
 go_wp2
 have hM := MixW.start w ws sch
 change MixW w ws sch (((w.alloc (.cells (u32s ws) 132)).alloc (.cells (u32s sch) 141)).alloc (.cells #[.int .u32 0, .int .u32 0, .int .u32 0, .int .u32 0, .int .u32 0, .int .u32 0, .int .u32 0, .int .u32 0] 132)) at hM
 generalize ((w.alloc (.cells (u32s ws) 132)).alloc (.cells (u32s sch) 141)).alloc (.cells #[.int .u32 0, .int .u32 0, .int .u32 0, .int .u32 0, .int .u32 0, .int .u32 0, .int .u32 0, .int .u32 0] 132) = w1 at hM ⊢
 obtain ⟨x0, x1, x2, x3, x4, x5, x6, x7, rfl⟩ := list8 hx
 have e0 : w1.cell? ⟨w.heap.size, 0, none⟩ = some (.int .u32 (x0 : Nat)) := hM.word hx 0 (by omega)
 have e1 : w1.cell? ⟨w.heap.size, 1, none⟩ = some (.int .u32 (x1 : Nat)) := hM.word hx 1 (by omega)
 have e2 : w1.cell? ⟨w.heap.size, 2, none⟩ = some (.int .u32 (x2 : Nat)) := hM.word hx 2 (by omega)
 have e3 : w1.cell? ⟨w.heap.size, 3, none⟩ = some (.int .u32 (x3 : Nat)) := hM.word hx 3 (by omega)
 have e4 : w1.cell? ⟨w.heap.size, 4, none⟩ = some (.int .u32 (x4 : Nat)) := hM.word hx 4 (by omega)
 have e5 : w1.cell? ⟨w.heap.size, 5, none⟩ = some (.int .u32 (x5 : Nat)) := hM.word hx 5 (by omega)
 have e6 : w1.cell? ⟨w.heap.size, 6, none⟩ = some (.int .u32 (x6 : Nat)) := hM.word hx 6 (by omega)
 have e7 : w1.cell? ⟨w.heap.size, 7, none⟩ = some (.int .u32 (x7 : Nat)) := hM.word hx 7 (by omega)
 go_quiet (fail)
 go_wp2
 clear e0 e1 e2 e3 e4 e5 e6 e7
 replace hM := hM.drewN nq
 generalize w1.drewN nq = w2 at hM ⊢
 go_loopw [5, 6, 7, 8, 9, 10, 11, 12, 35] (fun a b c d e f g h i wr => ∃ (k : Nat) (s : Sha.S8), k ≤ 64 ∧ i = .int .i64 k ∧ s = Sha.rounds (Sha.ofL [x0, x1, x2, x3, x4, x5, x6, x7]) sch k ∧ a = .int .u32 (s.a : Nat) ∧ b = .int .u32 (s.b : Nat) ∧ c = .int .u32 (s.c : Nat) ∧ d = .int .u32 (s.d : Nat) ∧ e = .int .u32 (s.e : Nat) ∧ f = .int .u32 (s.f : Nat) ∧ g = .int .u32 (s.g : Nat) ∧ h = .int .u32 (s.h : Nat) ∧ MixW w [x0, x1, x2, x3, x4, x5, x6, x7] sch wr) (fun _ _ _ _ _ _ _ _ i _ => 64 - (intOf i).toNat)
 case atStart => exact ⟨0, _, by omega, rfl, rfl, rfl, rfl, rfl, rfl, rfl, rfl, rfl, rfl, hM⟩
 case round =>
  obtain ⟨k, s, hk, rfl, hs8, rfl, rfl, rfl, rfl, rfl, rfl, rfl, rfl, hR⟩ := hrel
  have HS := Lib.hid hs8
  have hok : s.ok := by rw [hs8]; exact Sha.rounds_ok _ (Sha.ofL_ok hw) k
  clear hs8
  obtain ⟨a, b, c, d, e, f, g, z⟩ := s
  obtain ⟨ha, hb, hc, hd, he, hf, hg, hh⟩ := hok
  dsimp only at ha hb hc hd he hf hg hh ⊢
  have htr := ht.below hR.bel (Nat.le_refl _)
  by_cases hlt : k < 64
  ·go_wp2_with (go_at_call 93; refine (rot_gen _ _ _ (by assumption) (by decide)).mono ?_; rintro e w' ⟨rfl, rfl⟩)
   simp only [show rotBy (-6) = 26 from rfl, show rotBy (-11) = 21 from rfl, show rotBy (-25) = 7 from rfl]
   rw [S1_val e he, ch_val e f g he hf hg]
   have b1 := Sha.S1_lt e he
   have b2 := Sha.ch_lt e f g he
   have HT1 := Lib.hid (show Sha.t1 ⟨a, b, c, d, e, f, g, z⟩ (Sha.K.getD k 0) (sch.getD k 0) = (z + Sha.S1 e + Sha.ch e f g + Sha.K.getD k 0 + sch.getD k 0) % 4294967296 from rfl)
   have hk1 := htr.rounds k hlt
   have hk2 := hR.sch.cell k
   rw [u32s_get _ _ (by omega)] at hk2
   have b3 := Sha.K_lt k
   have b4 := hsw k
   generalize Sha.S1 e = s1 at b1 HT1 ⊢
   generalize Sha.ch e f g = c1 at b2 HT1 ⊢
   generalize hkk : Sha.K.getD k 0 = kk at hk1 b3 HT1
   generalize hkw : sch.getD k 0 = kw at hk2 b4 HT1
   have HN : Hid (Sha.rnd ⟨a, b, c, d, e, f, g, z⟩ kk kw = Sha.rounds (Sha.ofL [x0, x1, x2, x3, x4, x5, x6, x7]) sch (k + 1)) := by
    apply Lib.hid
    show _ = Sha.rnd (Sha.rounds (Sha.ofL [x0, x1, x2, x3, x4, x5, x6, x7]) sch k) (Sha.K.getD k 0) (sch.getD k 0)
    rw [hkk, hkw, ← HS.out]
   clear hkk hkw
   have j1 : ((k : Nat) : Int) < 64 := by omega
   have j2 : (0 : Int) ≤ ((k : Nat) : Int) := by omega
   go_quiet (fail)
   have ET : ((((z : Nat) : Int) + s1 + c1 + kk) % 4294967296 + kw) % 4294967296 = ((Sha.t1 ⟨a, b, c, d, e, f, g, z⟩ kk kw : Nat) : Int) := by
    rw [HT1.out]; omega
   have b5 : Sha.t1 ⟨a, b, c, d, e, f, g, z⟩ kk kw < 4294967296 := Nat.mod_lt _ (by decide)
   rw [ET]
   clear ET
   go_wp2_with (go_at_call 93; refine (rot_gen _ _ _ (by assumption) (by decide)).mono ?_; rintro e w' ⟨rfl, rfl⟩)
   go_roundw
   case rel =>
    refine ⟨k + 1, _, by omega, by go_num, HN.out, ?_, rfl, rfl, rfl, ?_, rfl, rfl, rfl, hR.drewN _⟩
    ·rw [show rotBy (-2) = 30 from rfl, show rotBy (-13) = 19 from rfl, show rotBy (-22) = 10 from rfl, S0_val a ha, maj_val a b c ha hb hc]
     show _ = Value.int .u32 (((Sha.t1 ⟨a, b, c, d, e, f, g, z⟩ kk kw + (Sha.S0 a + Sha.maj a b c) % 4294967296) % 4294967296 : Nat) : Int)
     congr 1; omega
    ·show _ = Value.int .u32 (((d + Sha.t1 ⟨a, b, c, d, e, f, g, z⟩ kk kw) % 4294967296 : Nat) : Int)
     congr 1
   case measure => simp [intOf]; omega
  ·obtain rfl : k = 64 := by omega
   have e0 : wr.cell? ⟨w.heap.size, 0, none⟩ = some (.int .u32 (x0 : Nat)) := hR.word hx 0 (by omega)
   have e1 : wr.cell? ⟨w.heap.size, 1, none⟩ = some (.int .u32 (x1 : Nat)) := hR.word hx 1 (by omega)
   have e2 : wr.cell? ⟨w.heap.size, 2, none⟩ = some (.int .u32 (x2 : Nat)) := hR.word hx 2 (by omega)
   have e3 : wr.cell? ⟨w.heap.size, 3, none⟩ = some (.int .u32 (x3 : Nat)) := hR.word hx 3 (by omega)
   have e4 : wr.cell? ⟨w.heap.size, 4, none⟩ = some (.int .u32 (x4 : Nat)) := hR.word hx 4 (by omega)
   have e5 : wr.cell? ⟨w.heap.size, 5, none⟩ = some (.int .u32 (x5 : Nat)) := hR.word hx 5 (by omega)
   have e6 : wr.cell? ⟨w.heap.size, 6, none⟩ = some (.int .u32 (x6 : Nat)) := hR.word hx 6 (by omega)
   have e7 : wr.cell? ⟨w.heap.size, 7, none⟩ = some (.int .u32 (x7 : Nat)) := hR.word hx 7 (by omega)
   have hbel := hR.bel
   obtain ⟨cs, hz, hres⟩ := hR.res
   have HC := Lib.hid hres
   have HZ := Lib.hid hz
   clear hz hres
   go_wp2_with (first | (refine wpList_store_row rfl 132 (.tmp 4) (.tmp 133) rfl (w.heap.size + 1 + 1) _ rfl rfl 132 _ HC.out ?_ ?_ ?_ ?_))
   case refine_1 => exact mix_info
   case refine_2 => exact HZ.out
   case refine_3 => rw [addS_val]; exact u32s_one _
   rw [addS_val]
   have em : Sha.mix [x0, x1, x2, x3, x4, x5, x6, x7] sch = Sha.addS [x0, x1, x2, x3, x4, x5, x6, x7] ⟨a, b, c, d, e, f, g, z⟩ := by
    unfold Sha.mix; rw [HS.out]
   rw [em]
   exact bodyPost_ret (v := .agg (u32s (Sha.addS [x0, x1, x2, x3, x4, x5, x6, x7] ⟨a, b, c, d, e, f, g, z⟩))) (results_cell_row rfl _ _ (w.heap.size + 1 + 1) 132 _ (0, 0) _ rfl (HC.out.row _) Tryd.underlying132 rfl mix_info) rfl ⟨rfl, below_row hbel (by omega) _⟩
end Go.Proofs.YtdokojlgcplefaaDoor
