/- The walks of the reference's table, its primes and its roots (package cartageref01). -/
import Derived.Test.YteohhebpfdclhaaDoorShaSum
import Derived.Test.YteohhebpfdclhaaDoorRootsMath
import Derived.Deep.RegionHeld3
namespace Go.Proofs.YteohhebpfdclhaaDoor
open Go Go.RowKit
def u64s (l : List Nat) : Array Value := (l.map fun (n : Nat) => Value.int .u64 (n : Int)).toArray
theorem u64s_get (l : List Nat) (i : Nat) (h : i < l.length) : (u64s l)[i]? = some (Value.int .u64 ((l.getD i 0 : Nat) : Int)) := by
  simp [u64s, List.getD, h]
theorem u64s_size (l : List Nat) : (u64s l).size = l.length := by simp [u64s]
theorem u64s_set (l : List Nat) (i x : Nat) : (u64s l).setIfInBounds i (Value.int .u64 (x : Int)) = u64s (l.set i x) := by
  apply Array.ext'; simp [u64s, List.map_set]
/-- Numbers that a slice value holds. -/
def RdU (w : World) (v : Value) (xs : List Nat) : Prop :=
  ∃ A c, v = .slice A xs.length c ∧ xs.length ≤ c ∧ (0 < xs.length → ∃ b o, A = some ⟨b, o, none⟩ ∧ b < w.heap.size ∧ ∀ i, i < xs.length → w.cell? ⟨b, o + i, none⟩ = some (.int .u64 ((xs.getD i 0 : Nat) : Int)))
theorem RdU.below {w w' : World} {v : Value} {xs : List Nat} (h : RdU w v xs) {B : Nat} (hb : Below B w w') (hB : w.heap.size ≤ B) : RdU w' v xs := by
  obtain ⟨A, c, hv, hc, hA⟩ := h
  refine ⟨A, c, hv, hc, fun h0 => ?_⟩
  obtain ⟨b, o, ha, hl, hx⟩ := hA h0
  have := hb.size
  exact ⟨b, o, ha, by omega, fun i hi => (hb.cell (p := ⟨b, o + i, none⟩) (by show b < B; omega)).trans (hx i hi)⟩
theorem RdU.of_blk {w : World} {g t c : Nat} {xs : List Nat} (h : Blk w g t (u64s xs)) (hc : xs.length ≤ c) : RdU w (.slice (some ⟨g, 0, none⟩) xs.length c) xs :=
  ⟨_, _, rfl, hc, fun _ => ⟨g, 0, rfl, h.lt, fun i hi => by rw [Nat.zero_add, h.cell i, u64s_get _ _ hi]⟩⟩
theorem part_any (v : Value) (xs : List Nat) (i : Nat) (w : World) (hv : RdU w v xs) (hi : i < 1048576) (hx : xs.length < 1048576) :
    Calls Tryd.prog 47 #[v, .int .i64 i] w fun e w' => e = .returned (.int .u64 ((xs.getD i 0 : Nat) : Int)) ∧ w = w' := by
  obtain ⟨A, c, rfl, hc, hA⟩ := hv
  by_cases hlt : i < xs.length
  · obtain ⟨b, o, rfl, hb, hcell⟩ := hA (by omega)
    have h1 := hcell i hlt
    generalize xs.getD i 0 = x at h1
    have i1 : ((i : Nat) : Int) < xs.length := by omega
    have i2 : (0 : Int) ≤ ((i : Nat) : Int) := by omega
    clear hcell hA
    go_enter Tryd.func47, Tryd.ntmps47
    go_wp2
    go_ret
    exact ⟨rfl, rfl⟩
  · have h0 : xs.getD i 0 = 0 := by simp [List.getD, List.getElem?_eq_none (show xs.length ≤ i by omega)]
    have i1 : ((xs.length : Nat) : Int) ≤ (i : Nat) := by omega
    rw [h0]
    clear hA h0
    go_enter Tryd.func47, Tryd.ntmps47
    go_wp2
    go_ret
    exact ⟨rfl, rfl⟩
theorem sum3 (x y o c : Nat) : IntKind.u64.wrap (IntKind.u64.wrap (IntKind.u64.wrap ((x : Int) * y) + o) + c) = (((x * y + o + c) % 18446744073709551616 : Nat) : Int) := by
  rw [wrap_u64, wrap_u64, wrap_u64, ← Int.natCast_mul]
  omega
set_option maxRecDepth 100000 in
theorem times_any (va vb : Value) (a b : List Nat) (w : World) (ha : RdU w va a) (hb : RdU w vb b) (la : a.length < 1048576) (lb : b.length < 1048576) (ua : Roots.U64 a) (ub : Roots.U64 b) :
    Calls Tryd.prog 46 #[va, vb] w fun e w' => ∃ v, e = .returned v ∧ RdU w' v (Roots.times a b) ∧ Below w.heap.size w w' := by
  obtain ⟨A, c, rfl, hc, hA⟩ := ha
  obtain ⟨B, d, rfl, hd, hB⟩ := hb
  have hmk : (Instr.makeSlice 60 (.int .i64 ((a.length : Int) + b.length + 1)) (.int .i64 ((a.length : Int) + b.length + 1))).run Tryd.prog w = .ok (.slice (some ⟨w.heap.size, 0, none⟩) (a.length + b.length + 1) (a.length + b.length + 1)) (w.alloc (.cells (u64s (List.replicate (a.length + b.length + 1) 0)) 41)) := by
    rw [run_makeOne (by_ := 8) (z := .int .u64 0) Tryd.underlying60 (by kernel_rfl) rfl (a.length + b.length + 1) (by omega) (by omega) (by simp), u64s, List.map_replicate]
    rfl
  have hb0 := Lib.hid ((Below.refl w.heap.size w).alloc (Nat.le_refl _) (.cells (u64s (List.replicate (a.length + b.length + 1) 0)) 41))
  have hB0 := Lib.hid (Blk.new w 41 (u64s (List.replicate (a.length + b.length + 1) 0)))
  have HA := Lib.hid hA
  have HB := Lib.hid hB
  clear hA hB
  go_enter Tryd.func46, Tryd.ntmps46
  go_wp2_with fail
  clear hmk
  generalize w.alloc (.cells (u64s (List.replicate (a.length + b.length + 1) 0)) 41) = w1 at hb0 hB0 ⊢
  go_loopw [21] (fun s wr => ∃ i : Nat, i ≤ a.length ∧ s = .int .i64 i ∧ Blk wr w.heap.size 41 (u64s (Roots.prod a b i)) ∧ Below w.heap.size w wr) (fun s _ => a.length - (intOf s).toNat)
  case atStart => exact ⟨0, by omega, rfl, hB0.out, hb0.out⟩
  case round =>
    obtain ⟨i, hi, rfl, hblk, hbel⟩ := hrel
    obtain ⟨wo, rfl⟩ : ∃ wo : World, wo = wr := ⟨_, rfl⟩
    have hpl := Roots.prod_len a b i
    have hpo := Roots.prod_ok a b i
    by_cases hlt : i < a.length
    · obtain ⟨g, o, rfl, hg, hcell⟩ := HA.out (by omega)
      have hx := (hbel.cell (p := ⟨g, o + i, none⟩) hg).trans (hcell i hlt)
      have hux := ua i
      have HP : Hid (Roots.prod a b (i + 1) = Roots.row (Roots.prod a b i) b (a.getD i 0) i) := Lib.hid rfl
      generalize a.getD i 0 = x at hx hux HP
      generalize Roots.prod a b i = P0 at hblk hpl hpo HP
      have i1 : ((i : Nat) : Int) < a.length := by omega
      have i2 : (0 : Int) ≤ ((i : Nat) : Int) := by omega
      have HPL := Lib.hid hpl
      clear hcell hpl
      go_wp2_with fail
      go_loopw [28, 8] (fun s cy wr => ∃ j : Nat, j ≤ b.length ∧ s = .int .i64 j ∧ cy = .int .u64 (((Roots.inn P0 b x i j).2 : Nat) : Int) ∧ Blk wr w.heap.size 41 (u64s (Roots.inn P0 b x i j).1) ∧ Below w.heap.size w wr) (fun s _ _ => b.length - (intOf s).toNat)
      case atStart => exact ⟨0, by omega, rfl, rfl, hblk, hbel⟩
      case round =>
        obtain ⟨j, hj, rfl, rfl, hblk2, hbel2⟩ := hrel
        obtain ⟨w2, rfl⟩ : ∃ w2 : World, w2 = wr := ⟨_, rfl⟩
        have hil := Roots.inn_len P0 b x i j
        obtain ⟨hio, hic⟩ := Roots.inn_ok hpo b x i j
        have HN : Hid (Roots.inn P0 b x i (j + 1) = ((Roots.inn P0 b x i j).1.set (i + j) ((x * b.getD j 0 + (Roots.inn P0 b x i j).1.getD (i + j) 0 + (Roots.inn P0 b x i j).2) % 18446744073709551616 % 4294967296), (x * b.getD j 0 + (Roots.inn P0 b x i j).1.getD (i + j) 0 + (Roots.inn P0 b x i j).2) % 18446744073709551616 / 4294967296)) := Lib.hid rfl
        have HST := Lib.hid (show Roots.inn P0 b x i b.length = Roots.inn P0 b x i b.length from rfl)
        by_cases hltj : j < b.length
        · obtain ⟨g2, o2, rfl, hg2, hcell2⟩ := HB.out (by omega)
          have hy := (hbel2.cell (p := ⟨g2, o2 + j, none⟩) hg2).trans (hcell2 j hltj)
          have huy := ub j
          have ho := hblk2.cell (i + j)
          rw [u64s_get _ _ (by rw [hil, HPL.out]; omega)] at ho
          have hof := hblk2.frozen (i + j)
          have huo := hio (i + j)
          have HB2 := Lib.hid hblk2
          clear hil hio hcell2 hblk2
          generalize b.getD j 0 = y at hy huy HN
          generalize (Roots.inn P0 b x i j).1.getD (i + j) 0 = oo at ho huo HN
          generalize (Roots.inn P0 b x i j).1 = P1 at HN HB2
          generalize (Roots.inn P0 b x i j).2 = cc at hic HN ⊢
          have j1 : ((j : Nat) : Int) < b.length := by omega
          have j2 : (0 : Int) ≤ ((j : Nat) : Int) := by omega
          have j3 : ((i : Nat) : Int) + j < a.length + b.length + 1 := by omega
          have j4 : (0 : Int) ≤ ((i : Nat) : Int) + j := by omega
          go_wp2_with fail
          have hlt64 : (x * y + oo + cc) % 18446744073709551616 < 18446744073709551616 := Nat.mod_lt _ (by decide)
          have HS := Lib.hid (sum3 x y oo cc)
          have HSL := Lib.hid (u64_low _ hlt64)
          go_roundw
          case rel =>
            refine ⟨j + 1, by omega, by go_num, ?_, ?_, hbel2.setCell (p := ⟨w.heap.size, i + j, none⟩) (Nat.le_refl _) _⟩
            · rw [HS.out, HN.out]
              simp
            · rw [HS.out, HSL.out, HN.out]
              have h := HB2.out.set_ (i + j) (.int .u64 (((x * y + oo + cc) % 18446744073709551616 % 4294967296 : Nat) : Int))
              rw [u64s_set] at h
              exact h
          case measure => simp [intOf]; omega
        · have HJ := Lib.hid (show j = b.length by omega)
          rw [HJ.out] at hblk2 hil hio hic
          have ho := hblk2.cell (i + b.length)
          rw [u64s_get _ _ (by rw [hil, HPL.out]; omega)] at ho
          have hof := hblk2.frozen (i + b.length)
          have HB2 := Lib.hid hblk2
          rw [HJ.out]
          have HROW : Hid (Roots.row P0 b x i = (Roots.inn P0 b x i b.length).1.set (i + b.length) (((Roots.inn P0 b x i b.length).1.getD (i + b.length) 0 + (Roots.inn P0 b x i b.length).2) % 18446744073709551616)) := Lib.hid rfl
          have huo := hio (i + b.length)
          clear hblk2 hil HN hio
          generalize (Roots.inn P0 b x i b.length).1.getD (i + b.length) 0 = oo at ho huo HROW
          generalize (Roots.inn P0 b x i b.length).1 = P1 at HROW HB2
          generalize (Roots.inn P0 b x i b.length).2 = cc at hic HROW ⊢
          have j3 : ((i : Nat) : Int) + b.length < a.length + b.length + 1 := by omega
          have j4 : (0 : Int) ≤ ((i : Nat) : Int) + b.length := by omega
          go_wp2_with fail
          go_roundw
          case rel =>
            refine ⟨i + 1, by omega, by go_num, ?_, (hbel2.setCell (p := ⟨w.heap.size, i + b.length, none⟩) (Nat.le_refl _) _)⟩
            have h := HB2.out.set_ (i + b.length) (.int .u64 (((oo + cc) % 18446744073709551616 : Nat) : Int))
            rw [u64s_set] at h
            have e : IntKind.u64.wrap ((oo : Int) + cc) = (((oo + cc) % 18446744073709551616 : Nat) : Int) := by rw [wrap_u64]; omega
            rw [HP.out, HROW.out, e]
            exact h
          case measure => simp [intOf]; omega
    · have HI := Lib.hid (show i = a.length by omega)
      go_wp2_with fail
      go_ret
      refine ⟨_, rfl, ?_, hbel⟩
      rw [HI.out] at hblk
      have h := RdU.of_blk (c := a.length + b.length + 1) hblk (by rw [Roots.prod_len]; omega)
      rw [Roots.prod_len] at h
      exact h
/-- what is still to be compared -/
def CmpAt (x p : Nat) (o8 : List Nat) (m : Nat) : Prop := Roots.above x p = Roots.cmp o8 [0, 0, 0, p] m
theorem info64 : (Tryd.prog.info? 41).map (fun i => (i.zero, i.size, i.bytes)) = some (some (.int .u64 0), 1, 8) := by kernel_rfl
theorem power_len (a : List Nat) (h : a.length = 2) : ∀ k, (Roots.power a k).length = 2 + 3 * k
  | 0 => h
  | k + 1 => by
    show (Roots.prod _ _ _).length = _
    rw [Roots.prod_len, power_len a h k, h]; omega
theorem power_ok {a : List Nat} (h : Roots.U64 a) : ∀ k, Roots.U64 (Roots.power a k)
  | 0 => h
  | _ + 1 => Roots.prod_ok _ _ _
theorem halves_ok {x : Nat} (h : x < 18446744073709551616) : Roots.U64 (Roots.halves x) := fun i => by
  rcases i with _ | _ | i
  · show x % 4294967296 < _; omega
  · show x / 4294967296 < _; omega
  · simp [Roots.halves]
set_option maxRecDepth 100000 in
set_option maxHeartbeats 400000 in
theorem above_any (x p : Nat) (w : World) (hx : x < 18446744073709551616) :
    Calls Tryd.prog 38 #[.int .u64 x, .int .i64 3, .int .u64 p] w fun e w' => e = .returned (.bool (Roots.above x p)) ∧ Below w.heap.size w w' := by
  have HL := Lib.hid (u64_low x hx)
  go_enter Tryd.func38, Tryd.ntmps38
  go_wp2_with fail
  have ed : ((x : Int) / 4294967296) = ((x / 4294967296 : Nat) : Int) := by omega
  rw [HL.out, ed]
  clear ed
  have hb0 : Below w.heap.size w (w.alloc (.cells (u64s (Roots.halves x)) 41)) := (Below.refl w.heap.size w).alloc (Nat.le_refl _) _
  have hB0 : Blk (w.alloc (.cells (u64s (Roots.halves x)) 41)) w.heap.size 41 (u64s (Roots.halves x)) := Blk.new w _ _
  have hz0 : w.heap.size < (w.alloc (.cells (u64s (Roots.halves x)) 41)).heap.size := by simp
  change Code.wp _ _ _ _ (w.alloc (.cells (u64s (Roots.halves x)) 41))
  generalize w.alloc (.cells (u64s (Roots.halves x)) 41) = w1 at hb0 hB0 hz0 ⊢
  generalize Value.int .u64 ((x % 4294967296 : Nat) : Int) = q1
  generalize Value.int .u64 ((x / 4294967296 : Nat) : Int) = q2
  have hR0 : RdU w1 (.slice (some ⟨w.heap.size, 0, none⟩) 2 2) (Roots.halves x) := RdU.of_blk (c := 2) hB0 (Nat.le_refl _)
  have HR0 := Lib.hid hR0
  have hu := halves_ok hx
  clear hB0 hR0
  go_loopw [8, 9] (fun s i wr => ∃ k : Nat, k ≤ 2 ∧ i = .int .i64 ((k : Nat) + 1 : Int) ∧ RdU wr s (Roots.power (Roots.halves x) k) ∧ Below w1.heap.size w1 wr) (fun _ i _ => 3 - (intOf i).toNat)
  case atStart => exact ⟨0, by omega, rfl, HR0.out, Below.refl _ _⟩
  case round =>
    obtain ⟨k, hk, rfl, hR, hbel⟩ := hrel
    by_cases hlt : k < 2
    · have i1 : ((k : Nat) : Int) + 1 < 3 := by omega
      go_wp2_with fail
      refine (times_any u8 _ (Roots.power (Roots.halves x) k) (Roots.halves x) wr hR (HR0.out.below hbel (Nat.le_refl _)) (by rw [power_len _ rfl]; omega) (by show 2 < _; decide) (power_ok hu k) hu).mono ?_
      rintro e w2 ⟨v, rfl, hv, hb2⟩
      have HV := Lib.hid hv
      have HB2 := Lib.hid (hbel.trans (hb2.mono hbel.size))
      clear hv hb2
      go_wp2_with fail
      go_roundw
      case rel => exact ⟨k + 1, by omega, by go_num, HV.out, HB2.out⟩
      case measure => simp [intOf]; omega
    · have HK := Lib.hid (show k = 2 by omega)
      have HRk : Hid (RdU wr u8 (Roots.power (Roots.halves x) 2)) := by
        have h := hR
        rw [HK.out] at h
        exact Lib.hid h
      have hmk : (Instr.makeSlice 60 (.int .i64 3) (.int .i64 3)).run Tryd.prog wr = .ok (.slice (some ⟨wr.heap.size, 0, none⟩) 3 3) (wr.alloc (.cells #[.int .u64 0, .int .u64 0, .int .u64 0] 41)) :=
        run_makeOne (by_ := 8) (z := .int .u64 0) Tryd.underlying60 (by kernel_rfl) rfl 3 (by omega) (by omega) rfl wr
      have hown := World.ownsRow_lit (base := wr.heap.size) (e := 41) (size := 1) wr #[.int .u64 0, .int .u64 0, .int .u64 0] 3 (Nat.le_refl _) (by decide) rfl
      have HOWN := Lib.hid hown
      have HB1 := Lib.hid (((Below.refl wr.heap.size wr).alloc (Nat.le_refl _) (.cells #[.int .u64 0, .int .u64 0, .int .u64 0] 41)).alloc (by simp) (.cells #[.int .u64 (p : Int)] 41))
      obtain ⟨i0, hi0, hz1, hz2, hz3⟩ := info_parts info64
      obtain ⟨len8, HL8⟩ : ∃ n, Hid (n = (Roots.power (Roots.halves x) 2).length) := ⟨_, Lib.hid rfl⟩
      clear hown hR
      obtain ⟨A, c, rfl, hc, hA⟩ : RdU wr u8 (Roots.power (Roots.halves x) 2) := HRk.out
      have hp8 := power_len (Roots.halves x) rfl 2
      rw [hp8]
      have HA := Lib.hid hA
      clear hA hc hp8
      go_wp2_with (at_builtin; refine wpList_append_own _ rfl _ _ 60 rfl wr.heap.size 41 i0 (.int .u64 0) 1 8 Tryd.underlying60 hi0 hz1 hz2 hz3 rfl (by decide) _ _ _ rfl (HOWN.out.alloc _) ⟨wr.heap.size + 1, 0, none⟩ 1 1 [.int .u64 (p : Int)] rfl rfl ?c1 ?c2 ?c3 ?c4 ?c5 ?_)
      case c2 => rfl
      case c3 => decide
      case c5 => omega
      intro v' w2 hown2 hgrow _
      have hw2 : Below wr.heap.size wr w2 := by
        refine below_of_only (g := wr.heap.size) HB1.out ?_ (Nat.le_refl _)
        exact hgrow
      have hV : RdU w2 v' [0, 0, 0, p] := by
        rcases hown2.2 with ⟨_, h0⟩ | ⟨g, cap, cur, rfl, _, hh, hcap, _, hcs, hxs⟩
        · exact absurd h0 (by decide)
        · refine ⟨_, _, rfl, hcap, fun _ => ⟨g, 0, rfl, ?_, fun i hi => ?_⟩⟩
          · rcases Nat.lt_or_ge g w2.heap.size with h | h
            · exact h
            · rw [Array.getElem?_eq_none h] at hh; cases hh
          · rw [Nat.zero_add, cell_of_row _ _ _ _ _ _ hh]
            have h := congrArg (·[i]?) hxs
            have hi4 : i < 4 := hi
            simp only [List.getElem?_take, if_pos (show i < 4 * 1 by omega)] at h
            rw [show cur[i]? = cur.toList[i]? by simp, h]
            rcases i with _ | _ | _ | _ | i <;> first | rfl | omega
      have HV := Lib.hid hV
      have HW2 := Lib.hid hw2
      have hR8 : RdU w2 (.slice A 8 c) (Roots.power (Roots.halves x) 2) := by
        have h := HRk.out.below hw2 (Nat.le_refl _)
        have e := power_len (Roots.halves x) rfl 2
        rw [e] at h
        exact h
      have HR8 := Lib.hid hR8
      have HBW := Lib.hid (hb0.trans ((hbel.trans (hw2.mono hbel.size)).mono (by omega)))
      clear hown2 hgrow hV hw2 hR8 hmk HOWN HB1
      obtain ⟨B4, c4, rfl⟩ : ∃ B4 c4, v' = .slice B4 4 c4 := by
        obtain ⟨B4, c4, hv4, _, _⟩ := HV.out
        exact ⟨B4, c4, hv4⟩
      have HAB : Hid (Roots.above x p = Roots.cmp (Roots.power (Roots.halves x) 2) [0, 0, 0, p] 13) := Lib.hid rfl
      have hpo8 := power_ok hu 2
      have hp8 := power_len (Roots.halves x) rfl 2
      generalize Roots.power (Roots.halves x) 2 = o8 at HAB HR8 hp8 hpo8
      have HP8 := Lib.hid hp8
      clear hp8 HA HRk HL8 len8
      go_wp2_with fail
      go_loopw [11] (fun s wr => ∃ m : Nat, m ≤ 13 ∧ s = .int .i64 ((m : Int) - 1) ∧ CmpAt x p o8 m ∧ w2 = wr) (fun s _ => (intOf s + 1).toNat)
      case atStart => exact ⟨13, by omega, rfl, HAB.out, rfl⟩
      case round =>
        obtain ⟨m, hm, rfl, hcm, rfl⟩ := hrel
        have HCM := Lib.hid hcm
        clear hcm
        rcases m with _ | n
        · go_wp2_with fail
          go_ret
          exact ⟨by rw [show Roots.above x p = false from HCM.out]; rfl, HBW.out⟩
        · rw [show (((n + 1 : Nat) : Int) - 1) = (n : Int) by omega]
          have n0 : (0 : Int) ≤ (n : Int) := by omega
          have HCN : Hid (Roots.above x p = if o8.getD n 0 = [0, 0, 0, p].getD n 0 then Roots.cmp o8 [0, 0, 0, p] n else decide (o8.getD n 0 > [0, 0, 0, p].getD n 0)) := Lib.hid HCM.out
          go_wp2_with fail
          refine (part_any _ o8 n w2 HR8.out (by omega) (by rw [HP8.out]; omega)).mono ?_
          rintro e w' ⟨rfl, rfl⟩
          generalize o8.getD n 0 = uu at HCN ⊢
          go_wp2_with fail
          refine (part_any _ [0, 0, 0, p] n w2 HV.out (by omega) (by show 4 < _; decide)).mono ?_
          rintro e w' ⟨rfl, rfl⟩
          generalize [0, 0, 0, p].getD n 0 = vv at HCN ⊢
          by_cases huv : uu = vv
          · have HE : Hid (Roots.above x p = Roots.cmp o8 [0, 0, 0, p] n) := Lib.hid (by rw [HCN.out, if_pos huv])
            subst huv
            clear HCN HCM
            go_wp2_with fail
            go_roundw
            case rel => exact ⟨n, by omega, by simp, HE.out, trivial⟩
            case measure => simp [intOf]
          · have t1 : (((uu : Nat) : Int) == ((vv : Nat) : Int)) = false := by simp; omega
            have t2 : (((uu : Nat) : Int) != ((vv : Nat) : Int)) = true := by simp; omega
            have HE : Hid (Roots.above x p = decide (uu > vv)) := Lib.hid (by rw [HCN.out, if_neg huv])
            go_wp2_with fail
            go_ret
            refine ⟨?_, HBW.out⟩
            rw [HE.out]
            simp
end Go.Proofs.YteohhebpfdclhaaDoor
