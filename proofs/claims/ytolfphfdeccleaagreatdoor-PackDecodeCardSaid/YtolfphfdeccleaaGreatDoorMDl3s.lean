/- A delta's first step (delta.first). -/
import Derived.Test.YtolfphfdeccleaaGreatDoorMOb26s
import Derived.RangeFuncNested
import Derived.RangeFuncBound
import Derived.RangeFuncCalls
import Derived.RangeFuncLeaves
import Derived.RangeFuncBox
import Derived.Shelf.Abstract
import Derived.Shelf.RegionOpen
import Derived.WalkKit
import Derived.OwnWalkIn
import Derived.TacticsInMore
import Derived.LoopNIn
import Derived.LoopIn
namespace Go.Proofs.YtolfphfdeccleaaGreatDoor
open Go Go.RowKit
/-- a step as it is yielded -/
def stepV (b o c : Nat) : Dl.Ev → Value
  | .bad _ => .agg #[.int .i64 0, .slice none 0 0, .int .i64 0]
  | .copy n f => .agg #[.int .i64 (n : Int), .slice none 0 0, .int .i64 (f : Int)]
  | .fresh n p => .agg #[.int .i64 (n : Int), .slice (some ⟨b, o + p, none⟩) n (c - p), .int .i64 0]
def errV (aS aF : Addr) : Dl.Ev → Value
  | .bad true => ev aS
  | .bad false => ev aF
  | _ => .nilIface
theorem andNot_128 (x : Nat) (h : x < 256) : bits .andNot .u8 (x : Int) 128 = ((x % 128 : Nat) : Int) := by
  have : ∀ k : Fin 256, bits .andNot .u8 ((k.val : Nat) : Int) 128 = ((k.val % 128 : Nat) : Int) := by decide +kernel
  exact this ⟨x, h⟩
set_option maxRecDepth 100000 in
set_option maxHeartbeats 1000000 in
theorem first_form (d : List Nat) (p b o c : Nat) (aS aF : Addr) (w : World) (hp : p < d.length) (hx : w.cell? ⟨b, o + p, none⟩ = some (.int .u8 ((Dl.at0 d p : Nat) : Int))) (hb : Dl.at0 d p < 256)
    (hF : w.cell? ⟨3, 0, none⟩ = some (ev aF)) (h0 : Dl.at0 d p % 128 = 0) :
    Calls Tryz.prog 111 #[.slice (some ⟨b, o + p, none⟩) (d.length - p) (c - p)] w fun e w' => e = .returned (.tuple #[stepV b o c (Dl.evAt d p).1, .int .i64 ((Dl.evAt d p).2 : Nat), errV aS aF (Dl.evAt d p).1]) ∧ Below w.heap.size w w' := by
  have he : Dl.evAt d p = (.bad false, 0) := by unfold Dl.evAt; rw [if_pos h0]
  rw [he]
  have hbw := block_lt_of_cell hx
  have hFl := block_lt_of_cell hF
  have b1 := andNot_128 _ hb
  rw [h0] at b1
  obtain ⟨n, hn⟩ : ∃ n, n = d.length - p := ⟨_, rfl⟩
  have hn0 : 0 < n := by omega
  rw [← hn]
  generalize c - p = c2
  generalize o + p = o2 at *
  generalize Dl.at0 d p = x at *
  clear hn hp h0
  go_enter Tryz.func111, Tryz.ntmps111
  go_wp2
  go_region
  all_goals go_wp2
  exact bodyPost_ret (v := .tuple #[.agg #[.int .i64 0, .slice none 0 0, .int .i64 0], .int .i64 0, ev aF]) (by simp [results, Tryz.results111, go_sem]) rfl ⟨rfl, below_drewN ((Below.refl _ w).alloc (Nat.le_refl _) _) 1⟩
set_option maxRecDepth 100000 in
set_option maxHeartbeats 1000000 in
theorem first_short1 (d : List Nat) (p b o c : Nat) (aS aF : Addr) (w : World) (hp : p < d.length) (hx : w.cell? ⟨b, o + p, none⟩ = some (.int .u8 ((Dl.at0 d p : Nat) : Int))) (hb : Dl.at0 d p < 256)
    (hS : w.cell? ⟨1, 0, none⟩ = some (ev aS)) (h0 : Dl.at0 d p % 128 ≠ 0) (h1 : Dl.at0 d p < 128) (h2 : d.length < p + 1 + Dl.at0 d p) :
    Calls Tryz.prog 111 #[.slice (some ⟨b, o + p, none⟩) (d.length - p) (c - p)] w fun e w' => e = .returned (.tuple #[stepV b o c (Dl.evAt d p).1, .int .i64 ((Dl.evAt d p).2 : Nat), errV aS aF (Dl.evAt d p).1]) ∧ Below w.heap.size w w' := by
  have he : Dl.evAt d p = (.bad true, 0) := by unfold Dl.evAt; rw [if_neg h0, if_pos h1, if_pos h2]
  rw [he]
  have hbw := block_lt_of_cell hx
  have hFl := block_lt_of_cell hS
  have b1 := andNot_128 _ hb
  rw [show Dl.at0 d p % 128 = Dl.at0 d p by omega] at b1
  obtain ⟨n, hn⟩ : ∃ n, n = d.length - p := ⟨_, rfl⟩
  have hn0 : 0 < n := by omega
  rw [← hn]
  generalize c - p = c2
  generalize o + p = o2 at *
  generalize Dl.at0 d p = x at *
  have g0 : ((x : Int) == 0) = false := by simp; omega
  have g1 : ¬ (128 : Int) < x := by omega
  have g2 : (n : Int) < 1 + x := by omega
  have g3 : (x : Int) < 256 := by omega
  clear hn hp h0 h1 h2 hb
  go_enter Tryz.func111, Tryz.ntmps111
  go_wp2
  go_region
  all_goals go_wp2
  exact bodyPost_ret (v := .tuple #[.agg #[.int .i64 0, .slice none 0 0, .int .i64 0], .int .i64 0, ev aS]) (by simp [results, Tryz.results111, go_sem]) rfl ⟨rfl, below_drewN ((Below.refl _ w).alloc (Nat.le_refl _) _) 1⟩
set_option maxRecDepth 100000 in
set_option maxHeartbeats 1000000 in
theorem first_short2 (d : List Nat) (p b o c : Nat) (aS aF : Addr) (w : World) (hp : p < d.length) (hx : w.cell? ⟨b, o + p, none⟩ = some (.int .u8 ((Dl.at0 d p : Nat) : Int))) (hb : Dl.at0 d p < 256)
    (hS : w.cell? ⟨1, 0, none⟩ = some (ev aS)) (h0 : Dl.at0 d p % 128 ≠ 0) (h1 : ¬ Dl.at0 d p < 128) (h2 : d.length < p + 3) :
    Calls Tryz.prog 111 #[.slice (some ⟨b, o + p, none⟩) (d.length - p) (c - p)] w fun e w' => e = .returned (.tuple #[stepV b o c (Dl.evAt d p).1, .int .i64 ((Dl.evAt d p).2 : Nat), errV aS aF (Dl.evAt d p).1]) ∧ Below w.heap.size w w' := by
  have he : Dl.evAt d p = (.bad true, 0) := by unfold Dl.evAt; rw [if_neg h0, if_neg h1, if_pos h2]
  rw [he]
  have hbw := block_lt_of_cell hx
  have hFl := block_lt_of_cell hS
  have b1 := andNot_128 _ hb
  obtain ⟨y, hy⟩ : ∃ y, y = Dl.at0 d p % 128 := ⟨_, rfl⟩
  rw [← hy] at b1
  obtain ⟨n, hn⟩ : ∃ n, n = d.length - p := ⟨_, rfl⟩
  have hn0 : 0 < n := by omega
  rw [← hn]
  generalize c - p = c2
  generalize o + p = o2 at *
  generalize Dl.at0 d p = x at *
  have g0 : ((y : Int) == 0) = false := by simp; omega
  have g1 : (128 : Int) < x := by omega
  have g2 : (n : Int) < 3 := by omega
  have g3 : (y : Int) < 256 := by omega
  clear hn hp h0 h1 h2 hb hy
  go_enter Tryz.func111, Tryz.ntmps111
  go_wp2
  go_region
  all_goals go_wp2
  exact bodyPost_ret (v := .tuple #[.agg #[.int .i64 0, .slice none 0 0, .int .i64 0], .int .i64 0, ev aS]) (by simp [results, Tryz.results111, go_sem]) rfl ⟨rfl, below_drewN ((Below.refl _ w).alloc (Nat.le_refl _) _) 1⟩
set_option maxRecDepth 100000 in
set_option maxHeartbeats 1000000 in
theorem first_fresh (d : List Nat) (p b o c : Nat) (aS aF : Addr) (w : World) (hp : p < d.length) (hx : w.cell? ⟨b, o + p, none⟩ = some (.int .u8 ((Dl.at0 d p : Nat) : Int))) (hb : Dl.at0 d p < 256)
    (hc : d.length ≤ c) (h0 : Dl.at0 d p % 128 ≠ 0) (h1 : Dl.at0 d p < 128) (h2 : ¬ d.length < p + 1 + Dl.at0 d p) :
    Calls Tryz.prog 111 #[.slice (some ⟨b, o + p, none⟩) (d.length - p) (c - p)] w fun e w' => e = .returned (.tuple #[stepV b o c (Dl.evAt d p).1, .int .i64 ((Dl.evAt d p).2 : Nat), errV aS aF (Dl.evAt d p).1]) ∧ Below w.heap.size w w' := by
  have he : Dl.evAt d p = (.fresh (Dl.at0 d p) (p + 1), 1 + Dl.at0 d p) := by unfold Dl.evAt; rw [if_neg h0, if_pos h1, if_neg h2]
  rw [he]
  have hbw := block_lt_of_cell hx
  have b1 := andNot_128 _ hb
  rw [show Dl.at0 d p % 128 = Dl.at0 d p by omega] at b1
  obtain ⟨n, hn⟩ : ∃ n, n = d.length - p := ⟨_, rfl⟩
  have hn0 : 0 < n := by omega
  rw [← hn]
  clear he
  generalize Dl.at0 d p = x at *
  obtain ⟨c2, hc2⟩ : ∃ c2, c2 = c - p := ⟨_, rfl⟩
  have HV := Lib.hid (show stepV b o c (.fresh x (p + 1)) = .agg #[.int .i64 (x : Int), .slice (some ⟨b, (o + p) + 1, none⟩) x (c2 - 1), .int .i64 0] by
    simp only [stepV]; rw [hc2, show o + (p + 1) = o + p + 1 by omega, show c - (p + 1) = c - p - 1 by omega])
  rw [← hc2]
  generalize o + p = o2 at *
  have S1 : ∀ w', (Instr.slice 22 (.slice (some ⟨b, o2, none⟩) n c2) (some (.int .i64 1)) (some (.int .i64 (1 + (x : Int)))) none).run Tryz.prog w' = .ok (.slice (some ⟨b, o2 + 1, none⟩) x (c2 - 1)) w' := fun w' => by
    have h := sl_lohi b o2 n c2 1 (1 + x) w' (by omega) (by omega) (by omega) (lo := 1) (hi := 1 + (x : Int)) rfl (by omega)
    rwa [show 1 + x - 1 = x by omega] at h
  have g0 : ((x : Int) == 0) = false := by simp; omega
  have g1 : ¬ (128 : Int) < x := by omega
  have g2 : ¬ (n : Int) < 1 + x := by omega
  have g3 : (x : Int) < 256 := by omega
  clear hn hp h0 h1 h2 hb hc2 hc
  go_enter Tryz.func111, Tryz.ntmps111
  go_wp2
  exact bodyPost_ret (v := .tuple #[.agg #[.int .i64 (x : Int), .slice (some ⟨b, o2 + 1, none⟩) x (c2 - 1), .int .i64 0], .int .i64 (1 + (x : Int)), .nilIface]) (by simp [results, Tryz.results111, go_sem]) rfl ⟨by rw [HV.out]; simp [errV], (Below.refl _ w).alloc (Nat.le_refl _) _⟩
set_option maxRecDepth 100000 in
set_option maxHeartbeats 1000000 in
theorem first_copy (d : List Nat) (p b o c : Nat) (aS aF : Addr) (w : World) (_hp : p < d.length) (hx : w.cell? ⟨b, o + p, none⟩ = some (.int .u8 ((Dl.at0 d p : Nat) : Int))) (hb : Dl.at0 d p < 256)
    (hc : d.length ≤ c) (hby : Sha.Byte d) (hcs : ∀ i, i < d.length → w.cell? ⟨b, o + i, none⟩ = some (.int .u8 ((d.getD i 0 : Nat) : Int))) (h0 : Dl.at0 d p % 128 ≠ 0) (h1 : ¬ Dl.at0 d p < 128) (h2 : ¬ d.length < p + 3) :
    Calls Tryz.prog 111 #[.slice (some ⟨b, o + p, none⟩) (d.length - p) (c - p)] w fun e w' => e = .returned (.tuple #[stepV b o c (Dl.evAt d p).1, .int .i64 ((Dl.evAt d p).2 : Nat), errV aS aF (Dl.evAt d p).1]) ∧ Below w.heap.size w w' := by
  have he : Dl.evAt d p = (.copy (Dl.at0 d p - 128) (Dl.two d (p + 1)), 3) := by unfold Dl.evAt; rw [if_neg h0, if_neg h1, if_neg h2]
  rw [he]
  have hbw := block_lt_of_cell hx
  have b1 := andNot_128 _ hb
  rw [show Dl.at0 d p % 128 = Dl.at0 d p - 128 by omega] at b1
  have CN : ∀ w', Below w.heap.size w w' → Calls Tryz.prog 109 #[.slice (some ⟨b, o + p + 1, none⟩) (d.length - p - 1) (c - p - 1)] w' fun e w'' => e = .returned (.int .i64 (Dl.two d (p + 1) : Nat)) ∧ ∃ m, w'' = w'.drewN m := fun w' hw => by
    have e : Dl.two d (p + 1) = Dl.two (d.drop (p + 1)) 0 := by unfold Dl.two Dl.at0; rw [Sha.getD_drop, Sha.getD_drop]
    have hr : Rd w' (.slice (some ⟨b, o + p + 1, none⟩) (d.length - p - 1) (c - p - 1)) (d.drop (p + 1)) := by
      refine ⟨_, c - p - 1, by rw [List.length_drop, Nat.sub_sub], by rw [List.length_drop]; omega, fun _ => ⟨b, o + p + 1, rfl, Nat.lt_of_lt_of_le hbw hw.size, fun i hi => ?_⟩⟩
      rw [List.length_drop] at hi
      rw [Sha.getD_drop, show o + p + 1 + i = o + (p + 1 + i) by omega]
      exact (hw.cell (p := ⟨b, o + (p + 1 + i), none⟩) hbw).trans (hcs (p + 1 + i) (by omega))
    rw [e]
    exact dnumber_any _ _ _ (d.drop (p + 1)) w' hr (fun i => by rw [Sha.getD_drop]; exact hby _) (by rw [List.length_drop]; omega)
  obtain ⟨n, hn⟩ : ∃ n, n = d.length - p := ⟨_, rfl⟩
  have hn0 : 0 < n := by omega
  rw [← hn] at CN ⊢
  obtain ⟨y, hy⟩ : ∃ y, y = Dl.at0 d p - 128 := ⟨_, rfl⟩
  obtain ⟨f, hf⟩ : ∃ f, f = Dl.two d (p + 1) := ⟨_, rfl⟩
  rw [← hf] at CN ⊢
  rw [← hy] at b1 ⊢
  obtain ⟨c2, hc2⟩ : ∃ c2, c2 = c - p := ⟨_, rfl⟩
  rw [← hc2] at CN ⊢
  generalize o + p = o2 at *
  have S1 : ∀ w', (Instr.slice 22 (.slice (some ⟨b, o2, none⟩) n c2) (some (.int .i64 1)) none none).run Tryz.prog w' = .ok (.slice (some ⟨b, o2 + 1, none⟩) (n - 1) (c2 - 1)) w' := fun w' => sl_lo b o2 n c2 1 w' (by omega) (by omega) rfl
  generalize Dl.at0 d p = x at *
  have g0 : ((y : Int) == 0) = false := by simp; omega
  have g1 : (128 : Int) < x := by omega
  have g2 : ¬ (n : Int) < 3 := by omega
  have g3 : (y : Int) < 256 := by omega
  clear hn _hp h0 h1 h2 hb hy hf hc2 hc he hcs hby
  go_enter Tryz.func111, Tryz.ntmps111
  go_wp2_with (go_at_call 109; refine (CN _ ((Below.refl _ w).alloc (Nat.le_refl _) _)).mono ?_; rintro e w' ⟨rfl, m, rfl⟩)
  exact bodyPost_ret (v := .tuple #[.agg #[.int .i64 (y : Int), .slice none 0 0, .int .i64 (f : Int)], .int .i64 3, .nilIface]) (by simp [results, Tryz.results111, go_sem]) rfl ⟨rfl, (((below_drewN ((Below.refl _ w).alloc (Nat.le_refl _) _) m).setCell (p := ⟨w.heap.size, 0, none⟩) (Nat.le_refl _) _).setCell (p := ⟨w.heap.size, 1, none⟩) (Nat.le_refl _) _).setCell (p := ⟨w.heap.size, 2, none⟩) (Nat.le_refl _) _⟩
/-- the bytes of a delta in memory, and the error values that reading it may give -/
structure DIn (w : World) (d : List Nat) (b o c : Nat) (aS aF : Addr) : Prop where
  len : d.length ≤ c
  byt : Sha.Byte d
  blk : b < w.heap.size
  cel : ∀ i, i < d.length → w.cell? ⟨b, o + i, none⟩ = some (.int .u8 ((d.getD i 0 : Nat) : Int))
  short : w.cell? ⟨1, 0, none⟩ = some (ev aS)
  form : w.cell? ⟨3, 0, none⟩ = some (ev aF)
theorem DIn.below {w w' : World} {d : List Nat} {b o c : Nat} {aS aF : Addr} (h : DIn w d b o c aS aF) {B : Nat} (hb : Below B w w') (hB : w.heap.size ≤ B) : DIn w' d b o c aS aF :=
  ⟨h.len, h.byt, Nat.lt_of_lt_of_le h.blk hb.size, fun i hi => (hb.cell (p := ⟨b, o + i, none⟩) (Nat.lt_of_lt_of_le h.blk hB)).trans (h.cel i hi),
    (hb.cell (p := ⟨1, 0, none⟩) (Nat.lt_of_lt_of_le (block_lt_of_cell h.short) hB)).trans h.short, (hb.cell (p := ⟨3, 0, none⟩) (Nat.lt_of_lt_of_le (block_lt_of_cell h.form) hB)).trans h.form⟩
theorem first_any (d : List Nat) (p b o c : Nat) (aS aF : Addr) (w : World) (h : DIn w d b o c aS aF) (hp : p < d.length) :
    Calls Tryz.prog 111 #[.slice (some ⟨b, o + p, none⟩) (d.length - p) (c - p)] w fun e w' => e = .returned (.tuple #[stepV b o c (Dl.evAt d p).1, .int .i64 ((Dl.evAt d p).2 : Nat), errV aS aF (Dl.evAt d p).1]) ∧ Below w.heap.size w w' := by
  by_cases h0 : Dl.at0 d p % 128 = 0
  · exact first_form d p b o c aS aF w hp (h.cel p hp) (h.byt p) h.form h0
  · by_cases h1 : Dl.at0 d p < 128
    · by_cases h2 : d.length < p + 1 + Dl.at0 d p
      · exact first_short1 d p b o c aS aF w hp (h.cel p hp) (h.byt p) h.short h0 h1 h2
      · exact first_fresh d p b o c aS aF w hp (h.cel p hp) (h.byt p) h.len h0 h1 h2
    · by_cases h2 : d.length < p + 3
      · exact first_short2 d p b o c aS aF w hp (h.cel p hp) (h.byt p) h.short h0 h1 h2
      · exact first_copy d p b o c aS aF w hp (h.cel p hp) (h.byt p) h.len h.byt h.cel h0 h1 h2
end Go.Proofs.YtolfphfdeccleaaGreatDoor
/- The iterator over a delta's steps (delta.steps): for every loop body that keeps what lay below n₀. -/
namespace Go.Proofs.YtolfphfdeccleaaGreatDoor
open Go Go.RowKit Go.Shelf
attribute [local go_sem] Oper.semAt_some
theorem dsl_from (b o len cap l : Nat) (h1 : l ≤ len) {lo : Int} (el : lo = l) : ∃ A2, (∀ w, (Instr.slice 22 (.slice (some ⟨b, o, none⟩) len cap) (some (.int .i64 lo)) none none).run Tryz.prog w = .ok (.slice A2 (len - l) (cap - l)) w) ∧ (l < cap → A2 = some ⟨b, o + l, none⟩) := by
  subst el
  cases hq : Tryz.prog.info? 5 with
  | none => have h : (Tryz.prog.info? 5).map (·.size) = some 1 := by kernel_rfl
            simp [hq] at h
  | some i =>
    have hs : i.size = 1 := by have h : (Tryz.prog.info? 5).map (·.size) = some 1 := by kernel_rfl
                               simpa [hq] using h
    have hn : ((l : Nat) : Int) ≤ len := by omega
    refine ⟨if cap = l then some ⟨b, o, none⟩ else some ⟨b, o + l, none⟩, fun w => ?_, fun h => if_neg (by omega)⟩
    by_cases hc : cap = l
    · simp [Instr.slice, run_underlying Tryz.underlying22, Instr.sliceBounds, run_sliceBound, sizeOf, typeInfo, hq, hs, hn, hc, Addr.add_mid]
    · simp [Instr.slice, run_underlying Tryz.underlying22, Instr.sliceBounds, run_sliceBound, sizeOf, typeInfo, hq, hs, hn, hc, Addr.add_mid]
theorem DIn.keep {w w' : World} {d : List Nat} {b o c n₀ : Nat} {aS aF : Addr} (h : DIn w d b o c aS aF) (hb : Below n₀ w w') (hl : b < n₀ ∧ 1 < n₀ ∧ 3 < n₀) : DIn w' d b o c aS aF :=
  ⟨h.len, h.byt, Nat.lt_of_lt_of_le h.blk hb.size, fun i hi => (hb.cell (p := ⟨b, o + i, none⟩) hl.1).trans (h.cel i hi), (hb.cell (p := ⟨1, 0, none⟩) hl.2.1).trans h.short, (hb.cell (p := ⟨3, 0, none⟩) hl.2.2).trans h.form⟩
/-- what is left of the slice that is stepped through -/
def RestV (d : List Nat) (b o c p : Nat) (v : Value) : Prop := ∃ A' c', v = .slice A' (d.length - p) c' ∧ (p < d.length → A' = some ⟨b, o + p, none⟩ ∧ c' = c - p)
set_option maxRecDepth 100000 in
set_option maxHeartbeats 2000000 in
theorem steps1_in (n : Nat) (hn : 1 ≤ n) (l Bd n₀ : Nat) (d : List Nat) (b o c : Nat) (aS aF : Addr) (J Jx : List Dl.Ev → World → Prop) (W0 : World)
    (hl : b < n₀ ∧ 1 < n₀ ∧ 3 < n₀) (hn0 : n₀ ≤ W0.heap.size) (hJ : AbidesFrom W0.heap.size J) (h4 : 4 ≤ d.length)
    (hY : ∀ pre x W, J pre W → pre.length < (Dl.evs d 4).length → YieldAt Fence.wide (n - 1) Tryz.prog l #[stepV b o c (Dl.norm d x), errV aS aF (Dl.norm d x)] W fun e W' =>
      (e = .returned (.bool true) ∧ J (pre ++ [x]) W' ∧ Below n₀ W W') ∨ (e = .returned (.bool false) ∧ Jx (pre ++ [x]) W'))
    (hBd : W0.cell? ⟨Bd, 0, none⟩ = some (.slice (some ⟨b, o, none⟩) d.length c)) (hD : DIn W0 d b o c aS aF) (h0 : J [] W0) :
    CallsIn Fence.wide n Tryz.prog 110 #[.func (.yield l) #[] #[], .pointer (some ⟨Bd, 0, none⟩)] W0 fun e W' => (∃ v, e = .returned v) ∧
      ((∃ ys, ys = Dl.evs d 4 ∧ J ys W') ∨ (∃ pre, pre <+: Dl.evs d 4 ∧ Jx pre W')) := by
  obtain ⟨A1, S1, E1⟩ := dsl_from b o d.length c 4 h4 (lo := 4) rfl
  have HR0 : Hid (RestV d b o c 4 (.slice A1 (d.length - 4) (c - 4))) := Lib.hid ⟨_, _, rfl, fun h => ⟨E1 (by have := hD.len; omega), rfl⟩⟩
  have HD0 := Lib.hid hD
  obtain ⟨N, hN⟩ : ∃ N, N = d.length := ⟨_, rfl⟩
  refine callsIn_of_wp Tryz.func110 rfl trivial ?_ rfl
  simp only [Tryz.ntmps110, List.size_toArray, List.length_cons, List.length_nil, Nat.reduceAdd, Nat.reduceSub, Array.replicate_succ, Array.replicate_zero, List.push_toArray, List.append_toArray, List.nil_append, List.cons_append]
  clear E1
  gi_wp2
  clear S1
  gi_loopw [3] (fun v wr => ∃ p pre, p ≤ d.length ∧ RestV d b o c p v ∧ Hid (Dl.evs d 4 = pre ++ Dl.evs d p) ∧ J pre wr ∧ DIn wr d b o c aS aF ∧ n₀ ≤ wr.heap.size) (fun v _ => match v with | .slice _ m _ => m | _ => 0)
  case atStart => exact ⟨4, [], h4, HR0.out, Lib.hid rfl, h0, HD0.out, hn0⟩
  case round =>
    obtain ⟨p, pre, hp, ⟨A', c', rfl, hA⟩, HE, hJs, hDr, hnr⟩ := hrel
    by_cases hlt : p < d.length
    · obtain ⟨rfl, rfl⟩ := hA hlt
      have CF := first_any d p b o c aS aF wr hDr hlt
      have hok := Dl.evAt_ok hD.byt p
      have HSP : (Dl.evAt d p = (.bad false, 0)) ∨ (Dl.evAt d p = (.bad true, 0)) ∨ (∃ n f k, Dl.evAt d p = (.copy n f, k) ∧ p + k ≤ d.length ∧ 0 < k) ∨ (∃ m q k, Dl.evAt d p = (.fresh m q, k) ∧ p + k ≤ d.length ∧ 0 < k) := by
        unfold Dl.evAt
        split
        · exact .inl rfl
        · split
          · split
            · exact .inr (.inl rfl)
            · exact .inr (.inr (.inr ⟨_, _, _, rfl, by omega, by omega⟩))
          · split
            · exact .inr (.inl rfl)
            · exact .inr (.inr (.inl ⟨_, _, _, rfl, by omega, by omega⟩))
      rcases HSP with he | he | ⟨m, f, k, he, hk, hk0⟩ | ⟨m, q, k, he, hk, hk0⟩
      · rw [he] at CF hok
        simp only [stepV, errV] at CF
        have hYY := hY pre (.bad false)
        rw [Dl.norm_ok hok] at hYY
        have HY := Lib.hid hYY
        clear hYY hok
        have hm : 0 < d.length - p := by omega
        have HEV : Hid (Dl.evs d 4 = pre ++ [.bad false]) := Lib.hid (by rw [HE.out, Dl.evs_bad hlt he])
        have HLN : Hid (pre.length < (Dl.evs d 4).length) := Lib.hid (by rw [HEV.out]; simp)
        have HDR := Lib.hid hDr
        have HJW := Lib.hid hJs
        have HNR := Lib.hid hnr
        clear he hY hDr hJs hnr
        gi_wp2_with (refine ⟨trivial, ?_⟩; gi_at_call 111; refine (callsIn_wide.2 CF).mono ?_; rintro e w1 ⟨rfl, hb⟩; have HB := Lib.hid hb; have HJ1 := Lib.hid (hJ pre wr (w1.alloc (.cells #[.int .i64 0, .slice none 0 0, .int .i64 0] 153)) none HJW.out (only_alloc (only_of_below hb none) _) (fun r e => by cases e)); obtain ⟨fn, tmps, assign, body, hy, hR⟩ := HY.out _ HJ1.out HLN.out; simp only [stepV, errV] at hy; clear hb CF)
        refine hR.mono ?_
        rintro e W3 (⟨rfl, hJ3, hk3⟩ | ⟨rfl, hJx3⟩)
        · gi_wp2
          refine bodyPost_ret (results_none rfl _ _ _) rfl ?_
          exact ⟨⟨_, rfl⟩, .inl ⟨_, rfl, by rw [HEV.out]; exact hJ3⟩⟩
        · gi_wp2
          refine bodyPost_ret (results_none rfl _ _ _) rfl ?_
          exact ⟨⟨_, rfl⟩, .inr ⟨_, by rw [HEV.out]; exact List.prefix_refl _, hJx3⟩⟩
      · rw [he] at CF hok
        simp only [stepV, errV] at CF
        have hYY := hY pre (.bad true)
        rw [Dl.norm_ok hok] at hYY
        have HY := Lib.hid hYY
        clear hYY hok
        have hm : 0 < d.length - p := by omega
        have HEV : Hid (Dl.evs d 4 = pre ++ [.bad true]) := Lib.hid (by rw [HE.out, Dl.evs_bad hlt he])
        have HLN : Hid (pre.length < (Dl.evs d 4).length) := Lib.hid (by rw [HEV.out]; simp)
        have HDR := Lib.hid hDr
        have HJW := Lib.hid hJs
        have HNR := Lib.hid hnr
        clear he hY hDr hJs hnr
        gi_wp2_with (refine ⟨trivial, ?_⟩; gi_at_call 111; refine (callsIn_wide.2 CF).mono ?_; rintro e w1 ⟨rfl, hb⟩; have HB := Lib.hid hb; have HJ1 := Lib.hid (hJ pre wr (w1.alloc (.cells #[.int .i64 0, .slice none 0 0, .int .i64 0] 153)) none HJW.out (only_alloc (only_of_below hb none) _) (fun r e => by cases e)); obtain ⟨fn, tmps, assign, body, hy, hR⟩ := HY.out _ HJ1.out HLN.out; simp only [stepV, errV] at hy; clear hb CF)
        refine hR.mono ?_
        rintro e W3 (⟨rfl, hJ3, hk3⟩ | ⟨rfl, hJx3⟩)
        · gi_wp2
          refine bodyPost_ret (results_none rfl _ _ _) rfl ?_
          exact ⟨⟨_, rfl⟩, .inl ⟨_, rfl, by rw [HEV.out]; exact hJ3⟩⟩
        · gi_wp2
          refine bodyPost_ret (results_none rfl _ _ _) rfl ?_
          exact ⟨⟨_, rfl⟩, .inr ⟨_, by rw [HEV.out]; exact List.prefix_refl _, hJx3⟩⟩
      · rw [he] at CF hok
        simp only [stepV, errV] at CF
        have hYY := hY pre (.copy m f)
        rw [Dl.norm_ok hok] at hYY
        have HY := Lib.hid hYY
        clear hYY hok
        have hm : 0 < d.length - p := by omega
        obtain ⟨A2, S2, E2⟩ := dsl_from b (o + p) (d.length - p) (c - p) k (by omega) (lo := (k : Int)) rfl
        have HE2 : Hid (RestV d b o c (p + k) (.slice A2 (d.length - p - k) (c - p - k))) := Lib.hid ⟨A2, c - p - k, by rw [Nat.sub_sub], fun h => ⟨by have := hDr.len; rw [E2 (by omega), Nat.add_assoc], by rw [Nat.sub_sub]⟩⟩
        have HEV : Hid (Dl.evs d 4 = (pre ++ [.copy m f]) ++ Dl.evs d (p + k)) := Lib.hid (by rw [HE.out, Dl.evs_step hlt he (by intro s e; cases e)]; simp)
        have HK := Lib.hid hk
        have HK0 := Lib.hid hk0
        clear E2 hk hk0
        have HLN : Hid (pre.length < (Dl.evs d 4).length) := Lib.hid (by rw [HEV.out]; simp)
        have HDR := Lib.hid hDr
        have HJW := Lib.hid hJs
        have HNR := Lib.hid hnr
        clear he hY hDr hJs hnr
        gi_wp2_with (refine ⟨trivial, ?_⟩; gi_at_call 111; refine (callsIn_wide.2 CF).mono ?_; rintro e w1 ⟨rfl, hb⟩; have HB := Lib.hid hb; have HJ1 := Lib.hid (hJ pre wr (w1.alloc (.cells #[.int .i64 (m : Int), .slice none 0 0, .int .i64 (f : Int)] 153)) none HJW.out (only_alloc (only_of_below hb none) _) (fun r e => by cases e)); obtain ⟨fn, tmps, assign, body, hy, hR⟩ := HY.out _ HJ1.out HLN.out; simp only [stepV, errV] at hy; clear hb CF)
        refine hR.mono ?_
        rintro e W3 (⟨rfl, hJ3, hk3⟩ | ⟨rfl, hJx3⟩)
        · have HK3 := Lib.hid hk3
          have HJ3 := Lib.hid hJ3
          clear hk3 hJ3 hR hy
          gi_wp2
          go_roundw
          case rel =>
            have hb3 : Below n₀ wr W3 := ((HB.out.mono HNR.out).alloc (by have := HB.out.size; have := HNR.out; omega) _).trans HK3.out
            exact ⟨p + k, _, HK.out, HE2.out, HEV, HJ3.out, HDR.out.keep hb3 hl, Nat.le_trans HNR.out hb3.size⟩
          case measure => have h1 := HK0.out; have h2 := HK.out; show d.length - p - k < d.length - p; omega
        · gi_wp2
          refine bodyPost_ret (results_none rfl _ _ _) rfl ?_
          exact ⟨⟨_, rfl⟩, .inr ⟨_, by rw [HEV.out]; exact List.prefix_append _ _, hJx3⟩⟩
      · rw [he] at CF hok
        simp only [stepV, errV] at CF
        have hYY := hY pre (.fresh m q)
        rw [Dl.norm_ok hok] at hYY
        have HY := Lib.hid hYY
        clear hYY hok
        have hm : 0 < d.length - p := by omega
        obtain ⟨A2, S2, E2⟩ := dsl_from b (o + p) (d.length - p) (c - p) k (by omega) (lo := (k : Int)) rfl
        have HE2 : Hid (RestV d b o c (p + k) (.slice A2 (d.length - p - k) (c - p - k))) := Lib.hid ⟨A2, c - p - k, by rw [Nat.sub_sub], fun h => ⟨by have := hDr.len; rw [E2 (by omega), Nat.add_assoc], by rw [Nat.sub_sub]⟩⟩
        have HEV : Hid (Dl.evs d 4 = (pre ++ [.fresh m q]) ++ Dl.evs d (p + k)) := Lib.hid (by rw [HE.out, Dl.evs_step hlt he (by intro s e; cases e)]; simp)
        have HK := Lib.hid hk
        have HK0 := Lib.hid hk0
        clear E2 hk hk0
        have HLN : Hid (pre.length < (Dl.evs d 4).length) := Lib.hid (by rw [HEV.out]; simp)
        have HDR := Lib.hid hDr
        have HJW := Lib.hid hJs
        have HNR := Lib.hid hnr
        clear he hY hDr hJs hnr
        gi_wp2_with (refine ⟨trivial, ?_⟩; gi_at_call 111; refine (callsIn_wide.2 CF).mono ?_; rintro e w1 ⟨rfl, hb⟩; have HB := Lib.hid hb; have HJ1 := Lib.hid (hJ pre wr (w1.alloc (.cells #[.int .i64 (m : Int), .slice (some ⟨b, o + q, none⟩) m (c - q), .int .i64 0] 153)) none HJW.out (only_alloc (only_of_below hb none) _) (fun r e => by cases e)); obtain ⟨fn, tmps, assign, body, hy, hR⟩ := HY.out _ HJ1.out HLN.out; simp only [stepV, errV] at hy; clear hb CF)
        refine hR.mono ?_
        rintro e W3 (⟨rfl, hJ3, hk3⟩ | ⟨rfl, hJx3⟩)
        · have HK3 := Lib.hid hk3
          have HJ3 := Lib.hid hJ3
          clear hk3 hJ3 hR hy
          gi_wp2
          go_roundw
          case rel =>
            have hb3 : Below n₀ wr W3 := ((HB.out.mono HNR.out).alloc (by have := HB.out.size; have := HNR.out; omega) _).trans HK3.out
            exact ⟨p + k, _, HK.out, HE2.out, HEV, HJ3.out, HDR.out.keep hb3 hl, Nat.le_trans HNR.out hb3.size⟩
          case measure => have h1 := HK0.out; have h2 := HK.out; show d.length - p - k < d.length - p; omega
        · gi_wp2
          refine bodyPost_ret (results_none rfl _ _ _) rfl ?_
          exact ⟨⟨_, rfl⟩, .inr ⟨_, by rw [HEV.out]; exact List.prefix_append _ _, hJx3⟩⟩
    · have e : Dl.evs d p = [] := Dl.evs_end (by omega)
      have e2 : d.length - p = 0 := by omega
      have HE2 := HE.out
      rw [e, List.append_nil] at HE2
      have HE3 := Lib.hid HE2
      rw [e2]
      clear e e2 HE2
      gi_wp2
      go_end0
      exact ⟨⟨_, rfl⟩, .inl ⟨_, rfl, by rw [HE3.out]; exact hJs⟩⟩
theorem steps_any (v : Value) (w : World) (hv : ∃ A n c, v = .slice A n c) :
    Calls Tryz.prog 96 #[v] w fun e w' => e = .returned (.func (.func 110) #[] #[.pointer (some ⟨w.heap.size, 0, none⟩)]) ∧ w' = w.alloc (.cells #[v] 22) := by
  obtain ⟨A, m, c, rfl⟩ := hv
  go_enter Tryz.func96, Tryz.ntmps96
  go_wp2
  go_ret
  exact ⟨rfl, rfl⟩
theorem steps_stops (n : Nat) (hn : 1 ≤ n) (Bd n₀ : Nat) (d : List Nat) (b o c : Nat) (aS aF : Addr) (w : World)
    (hl : b < n₀ ∧ 1 < n₀ ∧ 3 < n₀) (hn0 : n₀ ≤ w.heap.size) (h4 : 4 ≤ d.length)
    (hBd : w.cell? ⟨Bd, 0, none⟩ = some (.slice (some ⟨b, o, none⟩) d.length c)) (hD : DIn w d b o c aS aF) :
    SeqStopsK Fence.wide n Tryz.prog 110 #[.pointer (some ⟨Bd, 0, none⟩)] (fun x : Dl.Ev => #[stepV b o c (Dl.norm d x), errV aS aF (Dl.norm d x)]) (Below n₀) (fun ys => ys = Dl.evs d 4) (fun pre => pre <+: Dl.evs d 4) (Dl.evs d 4).length w := fun l J Jx W hW hJ _ hY h0 =>
  steps1_in n hn l Bd n₀ d b o c aS aF J Jx W hl (Nat.le_trans hn0 hW.size) hJ h4 hY ((hW.cell (p := ⟨Bd, 0, none⟩) (block_lt_of_cell hBd)).trans hBd) (hD.below hW (Nat.le_refl _)) h0
end Go.Proofs.YtolfphfdeccleaaGreatDoor
