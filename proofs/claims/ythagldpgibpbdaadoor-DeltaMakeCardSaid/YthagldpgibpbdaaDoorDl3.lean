/- A delta's first step (delta.first). -/
import Derived.Test.YthagldpgibpbdaaDoorDl2
namespace Go.Proofs.YthagldpgibpbdaaDoor
open Go Go.RowKit
/-- a step as it is yielded -/
def stepV (b o c : Nat) : Dl.Ev → Value
  | .bad _ => .agg #[.int .i64 0, .slice none 0 0, .int .i64 0]
  | .copy n f => .agg #[.int .i64 (n : Int), .slice none 0 0, .int .i64 (f : Int)]
  | .fresh n p => .agg #[.int .i64 (n : Int), .slice (some ⟨b, o + p, none⟩) n (c - p), .int .i64 0]
def errV (aS aF : Addr) : Dl.Ev → Value
  | .bad true => ev aS
  | .bad false => ev aF
  | _ => .nilIface
theorem andNot_128 (x : Nat) (h : x < 256) : bits .andNot .u8 (x : Int) 128 = ((x % 128 : Nat) : Int) := by
  have : ∀ k : Fin 256, bits .andNot .u8 ((k.val : Nat) : Int) 128 = ((k.val % 128 : Nat) : Int) := by decide +kernel
  exact this ⟨x, h⟩
set_option maxRecDepth 100000 in
set_option maxHeartbeats 1000000 in
theorem first_form (d : List Nat) (p b o c : Nat) (aS aF : Addr) (w : World) (hp : p < d.length) (hx : w.cell? ⟨b, o + p, none⟩ = some (.int .u8 ((Dl.at0 d p : Nat) : Int))) (hb : Dl.at0 d p < 256)
    (hF : w.cell? ⟨5, 0, none⟩ = some (ev aF)) (h0 : Dl.at0 d p % 128 = 0) :
    Calls Tryd.prog 27 #[.slice (some ⟨b, o + p, none⟩) (d.length - p) (c - p)] w fun e w' => e = .returned (.tuple #[stepV b o c (Dl.evAt d p).1, .int .i64 ((Dl.evAt d p).2 : Nat), errV aS aF (Dl.evAt d p).1]) ∧ Below w.heap.size w w' := by
  have he : Dl.evAt d p = (.bad false, 0) := by unfold Dl.evAt; rw [if_pos h0]
  rw [he]
  have hbw := block_lt_of_cell hx
  have hFl := block_lt_of_cell hF
  have b1 := andNot_128 _ hb
  rw [h0] at b1
  obtain ⟨n, hn⟩ : ∃ n, n = d.length - p := ⟨_, rfl⟩
  have hn0 : 0 < n := by omega
  rw [← hn]
  generalize c - p = c2
  generalize o + p = o2 at *
  generalize Dl.at0 d p = x at *
  clear hn hp h0
  go_enter Tryd.func27, Tryd.ntmps27
  go_wp2
  go_region
  all_goals go_wp2
  exact bodyPost_ret (v := .tuple #[.agg #[.int .i64 0, .slice none 0 0, .int .i64 0], .int .i64 0, ev aF]) (by simp [results, Tryd.results27, go_sem]) rfl ⟨rfl, below_drewN ((Below.refl _ w).alloc (Nat.le_refl _) _) 1⟩
set_option maxRecDepth 100000 in
set_option maxHeartbeats 1000000 in
theorem first_short1 (d : List Nat) (p b o c : Nat) (aS aF : Addr) (w : World) (hp : p < d.length) (hx : w.cell? ⟨b, o + p, none⟩ = some (.int .u8 ((Dl.at0 d p : Nat) : Int))) (hb : Dl.at0 d p < 256)
    (hS : w.cell? ⟨4, 0, none⟩ = some (ev aS)) (h0 : Dl.at0 d p % 128 ≠ 0) (h1 : Dl.at0 d p < 128) (h2 : d.length < p + 1 + Dl.at0 d p) :
    Calls Tryd.prog 27 #[.slice (some ⟨b, o + p, none⟩) (d.length - p) (c - p)] w fun e w' => e = .returned (.tuple #[stepV b o c (Dl.evAt d p).1, .int .i64 ((Dl.evAt d p).2 : Nat), errV aS aF (Dl.evAt d p).1]) ∧ Below w.heap.size w w' := by
  have he : Dl.evAt d p = (.bad true, 0) := by unfold Dl.evAt; rw [if_neg h0, if_pos h1, if_pos h2]
  rw [he]
  have hbw := block_lt_of_cell hx
  have hFl := block_lt_of_cell hS
  have b1 := andNot_128 _ hb
  rw [show Dl.at0 d p % 128 = Dl.at0 d p by omega] at b1
  obtain ⟨n, hn⟩ : ∃ n, n = d.length - p := ⟨_, rfl⟩
  have hn0 : 0 < n := by omega
  rw [← hn]
  generalize c - p = c2
  generalize o + p = o2 at *
  generalize Dl.at0 d p = x at *
  have g0 : ((x : Int) == 0) = false := by simp; omega
  have g1 : ¬ (128 : Int) < x := by omega
  have g2 : (n : Int) < 1 + x := by omega
  have g3 : (x : Int) < 256 := by omega
  clear hn hp h0 h1 h2 hb
  go_enter Tryd.func27, Tryd.ntmps27
  go_wp2
  go_region
  all_goals go_wp2
  exact bodyPost_ret (v := .tuple #[.agg #[.int .i64 0, .slice none 0 0, .int .i64 0], .int .i64 0, ev aS]) (by simp [results, Tryd.results27, go_sem]) rfl ⟨rfl, below_drewN ((Below.refl _ w).alloc (Nat.le_refl _) _) 1⟩
set_option maxRecDepth 100000 in
set_option maxHeartbeats 1000000 in
theorem first_short2 (d : List Nat) (p b o c : Nat) (aS aF : Addr) (w : World) (hp : p < d.length) (hx : w.cell? ⟨b, o + p, none⟩ = some (.int .u8 ((Dl.at0 d p : Nat) : Int))) (hb : Dl.at0 d p < 256)
    (hS : w.cell? ⟨4, 0, none⟩ = some (ev aS)) (h0 : Dl.at0 d p % 128 ≠ 0) (h1 : ¬ Dl.at0 d p < 128) (h2 : d.length < p + 3) :
    Calls Tryd.prog 27 #[.slice (some ⟨b, o + p, none⟩) (d.length - p) (c - p)] w fun e w' => e = .returned (.tuple #[stepV b o c (Dl.evAt d p).1, .int .i64 ((Dl.evAt d p).2 : Nat), errV aS aF (Dl.evAt d p).1]) ∧ Below w.heap.size w w' := by
  have he : Dl.evAt d p = (.bad true, 0) := by unfold Dl.evAt; rw [if_neg h0, if_neg h1, if_pos h2]
  rw [he]
  have hbw := block_lt_of_cell hx
  have hFl := block_lt_of_cell hS
  have b1 := andNot_128 _ hb
  obtain ⟨y, hy⟩ : ∃ y, y = Dl.at0 d p % 128 := ⟨_, rfl⟩
  rw [← hy] at b1
  obtain ⟨n, hn⟩ : ∃ n, n = d.length - p := ⟨_, rfl⟩
  have hn0 : 0 < n := by omega
  rw [← hn]
  generalize c - p = c2
  generalize o + p = o2 at *
  generalize Dl.at0 d p = x at *
  have g0 : ((y : Int) == 0) = false := by simp; omega
  have g1 : (128 : Int) < x := by omega
  have g2 : (n : Int) < 3 := by omega
  have g3 : (y : Int) < 256 := by omega
  clear hn hp h0 h1 h2 hb hy
  go_enter Tryd.func27, Tryd.ntmps27
  go_wp2
  go_region
  all_goals go_wp2
  exact bodyPost_ret (v := .tuple #[.agg #[.int .i64 0, .slice none 0 0, .int .i64 0], .int .i64 0, ev aS]) (by simp [results, Tryd.results27, go_sem]) rfl ⟨rfl, below_drewN ((Below.refl _ w).alloc (Nat.le_refl _) _) 1⟩
set_option maxRecDepth 100000 in
set_option maxHeartbeats 1000000 in
theorem first_fresh (d : List Nat) (p b o c : Nat) (aS aF : Addr) (w : World) (hp : p < d.length) (hx : w.cell? ⟨b, o + p, none⟩ = some (.int .u8 ((Dl.at0 d p : Nat) : Int))) (hb : Dl.at0 d p < 256)
    (hc : d.length ≤ c) (h0 : Dl.at0 d p % 128 ≠ 0) (h1 : Dl.at0 d p < 128) (h2 : ¬ d.length < p + 1 + Dl.at0 d p) :
    Calls Tryd.prog 27 #[.slice (some ⟨b, o + p, none⟩) (d.length - p) (c - p)] w fun e w' => e = .returned (.tuple #[stepV b o c (Dl.evAt d p).1, .int .i64 ((Dl.evAt d p).2 : Nat), errV aS aF (Dl.evAt d p).1]) ∧ Below w.heap.size w w' := by
  have he : Dl.evAt d p = (.fresh (Dl.at0 d p) (p + 1), 1 + Dl.at0 d p) := by unfold Dl.evAt; rw [if_neg h0, if_pos h1, if_neg h2]
  rw [he]
  have hbw := block_lt_of_cell hx
  have b1 := andNot_128 _ hb
  rw [show Dl.at0 d p % 128 = Dl.at0 d p by omega] at b1
  obtain ⟨n, hn⟩ : ∃ n, n = d.length - p := ⟨_, rfl⟩
  have hn0 : 0 < n := by omega
  rw [← hn]
  clear he
  generalize Dl.at0 d p = x at *
  obtain ⟨c2, hc2⟩ : ∃ c2, c2 = c - p := ⟨_, rfl⟩
  have HV := Lib.hid (show stepV b o c (.fresh x (p + 1)) = .agg #[.int .i64 (x : Int), .slice (some ⟨b, (o + p) + 1, none⟩) x (c2 - 1), .int .i64 0] by
    simp only [stepV]; rw [hc2, show o + (p + 1) = o + p + 1 by omega, show c - (p + 1) = c - p - 1 by omega])
  rw [← hc2]
  generalize o + p = o2 at *
  have S1 : ∀ w', (Instr.slice 22 (.slice (some ⟨b, o2, none⟩) n c2) (some (.int .i64 1)) (some (.int .i64 (1 + (x : Int)))) none).run Tryd.prog w' = .ok (.slice (some ⟨b, o2 + 1, none⟩) x (c2 - 1)) w' := fun w' => by
    have h := sl_lohi b o2 n c2 1 (1 + x) w' (by omega) (by omega) (by omega) (lo := 1) (hi := 1 + (x : Int)) rfl (by omega)
    rwa [show 1 + x - 1 = x by omega] at h
  have g0 : ((x : Int) == 0) = false := by simp; omega
  have g1 : ¬ (128 : Int) < x := by omega
  have g2 : ¬ (n : Int) < 1 + x := by omega
  have g3 : (x : Int) < 256 := by omega
  clear hn hp h0 h1 h2 hb hc2 hc
  go_enter Tryd.func27, Tryd.ntmps27
  go_wp2
  exact bodyPost_ret (v := .tuple #[.agg #[.int .i64 (x : Int), .slice (some ⟨b, o2 + 1, none⟩) x (c2 - 1), .int .i64 0], .int .i64 (1 + (x : Int)), .nilIface]) (by simp [results, Tryd.results27, go_sem]) rfl ⟨by rw [HV.out]; simp [errV], (Below.refl _ w).alloc (Nat.le_refl _) _⟩
set_option maxRecDepth 100000 in
set_option maxHeartbeats 1000000 in
theorem first_copy (d : List Nat) (p b o c : Nat) (aS aF : Addr) (w : World) (_hp : p < d.length) (hx : w.cell? ⟨b, o + p, none⟩ = some (.int .u8 ((Dl.at0 d p : Nat) : Int))) (hb : Dl.at0 d p < 256)
    (hc : d.length ≤ c) (hby : Sha.Byte d) (hcs : ∀ i, i < d.length → w.cell? ⟨b, o + i, none⟩ = some (.int .u8 ((d.getD i 0 : Nat) : Int))) (h0 : Dl.at0 d p % 128 ≠ 0) (h1 : ¬ Dl.at0 d p < 128) (h2 : ¬ d.length < p + 3) :
    Calls Tryd.prog 27 #[.slice (some ⟨b, o + p, none⟩) (d.length - p) (c - p)] w fun e w' => e = .returned (.tuple #[stepV b o c (Dl.evAt d p).1, .int .i64 ((Dl.evAt d p).2 : Nat), errV aS aF (Dl.evAt d p).1]) ∧ Below w.heap.size w w' := by
  have he : Dl.evAt d p = (.copy (Dl.at0 d p - 128) (Dl.two d (p + 1)), 3) := by unfold Dl.evAt; rw [if_neg h0, if_neg h1, if_neg h2]
  rw [he]
  have hbw := block_lt_of_cell hx
  have b1 := andNot_128 _ hb
  rw [show Dl.at0 d p % 128 = Dl.at0 d p - 128 by omega] at b1
  have CN : ∀ w', Below w.heap.size w w' → Calls Tryd.prog 21 #[.slice (some ⟨b, o + p + 1, none⟩) (d.length - p - 1) (c - p - 1)] w' fun e w'' => e = .returned (.int .i64 (Dl.two d (p + 1) : Nat)) ∧ ∃ m, w'' = w'.drewN m := fun w' hw => by
    have e : Dl.two d (p + 1) = Dl.two (d.drop (p + 1)) 0 := by unfold Dl.two Dl.at0; rw [Sha.getD_drop, Sha.getD_drop]
    have hr : Rd w' (.slice (some ⟨b, o + p + 1, none⟩) (d.length - p - 1) (c - p - 1)) (d.drop (p + 1)) := by
      refine ⟨_, c - p - 1, by rw [List.length_drop, Nat.sub_sub], by rw [List.length_drop]; omega, fun _ => ⟨b, o + p + 1, rfl, Nat.lt_of_lt_of_le hbw hw.size, fun i hi => ?_⟩⟩
      rw [List.length_drop] at hi
      rw [Sha.getD_drop, show o + p + 1 + i = o + (p + 1 + i) by omega]
      exact (hw.cell (p := ⟨b, o + (p + 1 + i), none⟩) hbw).trans (hcs (p + 1 + i) (by omega))
    rw [e]
    exact number_any _ _ _ (d.drop (p + 1)) w' hr (fun i => by rw [Sha.getD_drop]; exact hby _) (by rw [List.length_drop]; omega)
  obtain ⟨n, hn⟩ : ∃ n, n = d.length - p := ⟨_, rfl⟩
  have hn0 : 0 < n := by omega
  rw [← hn] at CN ⊢
  obtain ⟨y, hy⟩ : ∃ y, y = Dl.at0 d p - 128 := ⟨_, rfl⟩
  obtain ⟨f, hf⟩ : ∃ f, f = Dl.two d (p + 1) := ⟨_, rfl⟩
  rw [← hf] at CN ⊢
  rw [← hy] at b1 ⊢
  obtain ⟨c2, hc2⟩ : ∃ c2, c2 = c - p := ⟨_, rfl⟩
  rw [← hc2] at CN ⊢
  generalize o + p = o2 at *
  have S1 : ∀ w', (Instr.slice 22 (.slice (some ⟨b, o2, none⟩) n c2) (some (.int .i64 1)) none none).run Tryd.prog w' = .ok (.slice (some ⟨b, o2 + 1, none⟩) (n - 1) (c2 - 1)) w' := fun w' => sl_lo b o2 n c2 1 w' (by omega) (by omega) rfl
  generalize Dl.at0 d p = x at *
  have g0 : ((y : Int) == 0) = false := by simp; omega
  have g1 : (128 : Int) < x := by omega
  have g2 : ¬ (n : Int) < 3 := by omega
  have g3 : (y : Int) < 256 := by omega
  clear hn _hp h0 h1 h2 hb hy hf hc2 hc he hcs hby
  go_enter Tryd.func27, Tryd.ntmps27
  go_wp2_with (go_at_call 21; refine (CN _ ((Below.refl _ w).alloc (Nat.le_refl _) _)).mono ?_; rintro e w' ⟨rfl, m, rfl⟩)
  exact bodyPost_ret (v := .tuple #[.agg #[.int .i64 (y : Int), .slice none 0 0, .int .i64 (f : Int)], .int .i64 3, .nilIface]) (by simp [results, Tryd.results27, go_sem]) rfl ⟨rfl, (((below_drewN ((Below.refl _ w).alloc (Nat.le_refl _) _) m).setCell (p := ⟨w.heap.size, 0, none⟩) (Nat.le_refl _) _).setCell (p := ⟨w.heap.size, 1, none⟩) (Nat.le_refl _) _).setCell (p := ⟨w.heap.size, 2, none⟩) (Nat.le_refl _) _⟩
/-- the bytes of a delta in memory, and the error values that reading it may give -/
structure DIn (w : World) (d : List Nat) (b o c : Nat) (aS aF : Addr) : Prop where
  len : d.length ≤ c
  byt : Sha.Byte d
  blk : b < w.heap.size
  cel : ∀ i, i < d.length → w.cell? ⟨b, o + i, none⟩ = some (.int .u8 ((d.getD i 0 : Nat) : Int))
  short : w.cell? ⟨4, 0, none⟩ = some (ev aS)
  form : w.cell? ⟨5, 0, none⟩ = some (ev aF)
theorem DIn.below {w w' : World} {d : List Nat} {b o c : Nat} {aS aF : Addr} (h : DIn w d b o c aS aF) {B : Nat} (hb : Below B w w') (hB : w.heap.size ≤ B) : DIn w' d b o c aS aF :=
  ⟨h.len, h.byt, Nat.lt_of_lt_of_le h.blk hb.size, fun i hi => (hb.cell (p := ⟨b, o + i, none⟩) (Nat.lt_of_lt_of_le h.blk hB)).trans (h.cel i hi),
    (hb.cell (p := ⟨4, 0, none⟩) (Nat.lt_of_lt_of_le (block_lt_of_cell h.short) hB)).trans h.short, (hb.cell (p := ⟨5, 0, none⟩) (Nat.lt_of_lt_of_le (block_lt_of_cell h.form) hB)).trans h.form⟩
theorem first_any (d : List Nat) (p b o c : Nat) (aS aF : Addr) (w : World) (h : DIn w d b o c aS aF) (hp : p < d.length) :
    Calls Tryd.prog 27 #[.slice (some ⟨b, o + p, none⟩) (d.length - p) (c - p)] w fun e w' => e = .returned (.tuple #[stepV b o c (Dl.evAt d p).1, .int .i64 ((Dl.evAt d p).2 : Nat), errV aS aF (Dl.evAt d p).1]) ∧ Below w.heap.size w w' := by
  by_cases h0 : Dl.at0 d p % 128 = 0
  · exact first_form d p b o c aS aF w hp (h.cel p hp) (h.byt p) h.form h0
  · by_cases h1 : Dl.at0 d p < 128
    · by_cases h2 : d.length < p + 1 + Dl.at0 d p
      · exact first_short1 d p b o c aS aF w hp (h.cel p hp) (h.byt p) h.short h0 h1 h2
      · exact first_fresh d p b o c aS aF w hp (h.cel p hp) (h.byt p) h.len h0 h1 h2
    · by_cases h2 : d.length < p + 3
      · exact first_short2 d p b o c aS aF w hp (h.cel p hp) (h.byt p) h.short h0 h1 h2
      · exact first_copy d p b o c aS aF w hp (h.cel p hp) (h.byt p) h.len h.byt h.cel h0 h1 h2
end Go.Proofs.YthagldpgibpbdaaDoor
