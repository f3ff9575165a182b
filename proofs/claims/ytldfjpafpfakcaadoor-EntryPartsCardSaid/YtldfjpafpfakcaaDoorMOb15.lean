/- What isn't of an object's kind (strange), and which kinds have a target (aims). -/
import Derived.Test.YtldfjpafpfakcaaDoorMOct16s
namespace Go.Proofs.YtldfjpafpfakcaaDoor
open Go Go.RowKit
def aimsB (k : Int) : Bool := decide (k = 3) || decide (k = 4)
/-- has it what isn't of its kind? -/
noncomputable def Ob.strange (o : Ob) : Bool :=
  (decide (0 < o.text.length) && decide (o.kind = 2)) || (decide (0 < o.ents.length) && !decide (o.kind = 2)) || (!(eqv o.target zeros32) && !aimsB o.kind) || (decide (0 < o.pars.length) && !decide (o.kind = 3))
theorem aims_any (k : Int) (w : World) : Calls Tryd.prog 71 #[.int .i64 k] w fun e w' => e = .returned (.bool (aimsB k)) ∧ w = w' := by
  by_cases h3 : k = 3
  · subst h3
    go_enter Tryd.func71, Tryd.ntmps71
    go_wp2
    go_ret
    exact ⟨rfl, rfl⟩
  by_cases h4 : k = 4
  · subst h4
    go_enter Tryd.func71, Tryd.ntmps71
    go_wp2
    go_ret
    exact ⟨rfl, rfl⟩
  · have b3 : (k == 3) = false := by simp [h3]
    have b4 : (k == 4) = false := by simp [h4]
    have HV := Lib.hid (show aimsB k = false by unfold aimsB; rw [decide_eq_false h3, decide_eq_false h4]; rfl)
    clear h3 h4
    go_enter Tryd.func71, Tryd.ntmps71
    go_wp2
    go_ret
    exact ⟨by rw [HV.out]; rfl, rfl⟩
set_option maxRecDepth 100000 in
set_option maxHeartbeats 16000000 in
theorem strange_any (o : Ob) (cs : Array Value) (T E P : Option Addr) (tc ec pc : Nat) (w : World) (h : ObC w o cs T tc E ec P pc) (hf : o.Fit) :
    Calls Tryd.prog 56 #[.agg cs] w fun e w' => e = .returned (.bool o.strange) ∧ Below w.heap.size w w' := by
  obtain ⟨w2, hw2⟩ : ∃ w2, w2 = w.alloc (.cells cs 51) := ⟨_, rfl⟩
  have HBE := Lib.hid (show Below w.heap.size w w2 from hw2 ▸ (Below.refl _ _).alloc (Nat.le_refl _) _)
  have B1 : Blk w2 w.heap.size 51 cs := hw2 ▸ Blk.new w _ cs
  have a0 : w2.cell? ⟨w.heap.size, 0, none⟩ = some (.int .i64 o.kind) := (B1.cell 0).trans h.c0
  have a1 : w2.cell? ⟨w.heap.size, 1, none⟩ = some (.slice T o.text.length tc) := (B1.cell 1).trans h.c1
  have a2 : w2.cell? ⟨w.heap.size, 2, none⟩ = some (.slice E o.ents.length ec) := (B1.cell 2).trans h.c2
  have a3 : w2.cell? ⟨w.heap.size, 35, none⟩ = some (.slice P o.pars.length pc) := (B1.cell 35).trans (h.c35 hf)
  have M1 := Lib.hid (h.mid B1)
  have N1 := Lib.hid (show (Tryd.prog.info? 36).map (·.size) = some (cellsB o.target).length by rw [cellsP1_len hf.target]; kernel_rfl)
  have HQ := Lib.hid (id_eq w2 o.target zeros32 hf.target zeros_id)
  have hz : (cellsB zeros32).toArray = #[.int .u8 0, .int .u8 0, .int .u8 0, .int .u8 0, .int .u8 0, .int .u8 0, .int .u8 0, .int .u8 0, .int .u8 0, .int .u8 0, .int .u8 0, .int .u8 0, .int .u8 0, .int .u8 0, .int .u8 0, .int .u8 0, .int .u8 0, .int .u8 0, .int .u8 0, .int .u8 0, .int .u8 0, .int .u8 0, .int .u8 0, .int .u8 0, .int .u8 0, .int .u8 0, .int .u8 0, .int .u8 0, .int .u8 0, .int .u8 0, .int .u8 0, .int .u8 0] := rfl
  have CA := aims_any o.kind w2
  have hw3 := hw2.symm
  have HR : Hid (((decide (0 < o.text.length) && decide (o.kind = 2)) || (decide (0 < o.ents.length) && !decide (o.kind = 2)) || (!(eqv o.target zeros32) && !aimsB o.kind) || (decide (0 < o.pars.length) && !decide (o.kind = 3))) = o.strange) := Lib.hid rfl
  clear h B1 hw2 hf
  generalize o.strange = r at HR ⊢
  generalize o.kind = k at *
  generalize eqv o.target zeros32 = rz at HR HQ
  generalize cellsB o.target = cta at *
  generalize o.text.length = n1 at *
  generalize o.ents.length = n2 at *
  generalize o.pars.length = n3 at *
  rcases (show k = 2 ∨ k = 3 ∨ k = 4 ∨ (k ≠ 2 ∧ k ≠ 3 ∧ k ≠ 4) by omega) with hk | hk | hk | hk
  rotate_left 3
  · have b2 : (k == 2) = false := by simp [hk.1]
    have c2 : (k != 2) = true := by simp [hk.1]
    have c3 : (k != 3) = true := by simp [hk.2.1]
    have ha : aimsB k = false := by unfold aimsB; rw [decide_eq_false hk.2.1, decide_eq_false hk.2.2]; rfl
    rw [ha] at CA HR
    rw [decide_eq_false hk.1, decide_eq_false hk.2.1] at HR
    clear hk ha
    rcases Nat.eq_zero_or_pos n1 with rfl | p1 <;> rcases Nat.eq_zero_or_pos n2 with rfl | p2 <;> rcases Nat.eq_zero_or_pos n3 with rfl | p3 <;> cases rz
    all_goals (
     try (have g1 : (0 : Int) < (n1 : Int) := by omega)
     try (have g2 : (0 : Int) < (n2 : Int) := by omega)
     try (have g3 : (0 : Int) < (n3 : Int) := by omega)
     try rw [decide_eq_true p1] at HR
     try rw [decide_eq_true p2] at HR
     try rw [decide_eq_true p3] at HR
     first
      | (go_enter Tryd.func56, Tryd.ntmps56
         go_wp2_with (first
           | (with_reducible (show wpList _ _ _ (Oper.mk _ (Op.load 36 _) _ _ _ _ :: _) _ _); refine pause ?_)
           | (go_at_call 71; refine CA.mono ?_; rintro e w' ⟨rfl, rfl⟩))
         unfold Paused
         refine wpList_mid_w (by rfl) 36 (.tmp 24) (by rfl) w.heap.size 3 (by rfl) _ _ M1.out Tryd.underlying36 (by rfl) N1.out ?_
         have q1 := HQ.out
         rw [hz] at q1
         go_wp2_with (go_at_call 71; refine CA.mono ?_; rintro e w' ⟨rfl, rfl⟩)
         go_ret
         exact ⟨by rw [← HR.out]; rfl, HBE.out⟩)
      | (go_enter Tryd.func56, Tryd.ntmps56
         go_wp2
         go_ret
         exact ⟨by rw [← HR.out]; rfl, HBE.out⟩))
  all_goals (
    subst hk
    rcases Nat.eq_zero_or_pos n1 with rfl | p1 <;> rcases Nat.eq_zero_or_pos n2 with rfl | p2 <;> rcases Nat.eq_zero_or_pos n3 with rfl | p3 <;> cases rz
    all_goals (
     try (have g1 : (0 : Int) < (n1 : Int) := by omega)
     try (have g2 : (0 : Int) < (n2 : Int) := by omega)
     try (have g3 : (0 : Int) < (n3 : Int) := by omega)
     try rw [decide_eq_true p1] at HR
     try rw [decide_eq_true p2] at HR
     try rw [decide_eq_true p3] at HR
     first
      | (go_enter Tryd.func56, Tryd.ntmps56
         go_wp2_with (first
           | (with_reducible (show wpList _ _ _ (Oper.mk _ (Op.load 36 _) _ _ _ _ :: _) _ _); refine pause ?_)
           | (go_at_call 71; refine CA.mono ?_; rintro e w' ⟨rfl, rfl⟩))
         unfold Paused
         refine wpList_mid_w (by rfl) 36 (.tmp 24) (by rfl) w.heap.size 3 (by rfl) _ _ M1.out Tryd.underlying36 (by rfl) N1.out ?_
         have q1 := HQ.out
         rw [hz] at q1
         go_wp2_with (go_at_call 71; refine CA.mono ?_; rintro e w' ⟨rfl, rfl⟩)
         go_ret
         exact ⟨by rw [← HR.out]; rfl, HBE.out⟩)
      | (go_enter Tryd.func56, Tryd.ntmps56
         go_wp2
         go_ret
         exact ⟨by rw [← HR.out]; rfl, HBE.out⟩)))
end Go.Proofs.YtldfjpafpfakcaaDoor
