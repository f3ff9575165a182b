/- Layer 5: Open. -/
import Derived.Test.YthfbidjjgkjniaaDoorMHv15
namespace Go.Proofs.YthfbidjjgkjniaaDoor
open Go Go.RowKit
theorem dk_sizeX {B d k : Nat} {S : Dk.D} (w : World) (h : DkX B w d S k) : Calls Tryd.prog 23 #[.pointer (some ⟨d, 0, none⟩)] w fun e w' => e = .returned (.int .i64 (S.size : Int)) ∧ w = w' := by
  obtain ⟨ms, ml, v, h⟩ := h
  obtain ⟨⟨c1, c2, fS, h1, _, _⟩, _, _⟩ := h
  exact size_any w h1
theorem LFr.setNew {B l : Nat} {w w' : World} (h : LFr B l w w') (_hB : B ≤ w.heap.size) {b : Nat} (hb : w.heap.size ≤ b) (i : Nat) (u : Value) : LFr B l w (w'.setCell ⟨b, i, none⟩ u) :=
  ⟨h.os, h.tape, h.output, by simpa using h.size, fun x hx hl => (Below.heap_setCell _ _ _ _ (by show x ≠ b; omega)).trans (h.low x hx hl), fun x t cs z hn hk h1 h2 => (Below.heap_setCell _ _ _ _ (by have := (Array.getElem?_eq_some_iff.1 hk).1; show x ≠ b; omega)).trans (h.rows x t cs z hn hk h1 h2)⟩
theorem LFr.tfr {B l : Nat} {w w' : World} (h : LFr B l w w') (hl : w.heap.size ≤ l) : TFr B w w' :=
  ⟨h.os, h.tape, h.output, h.size, h.low, fun b t cs z hk h1 h2 => h.rows b t cs z (by have := (Array.getElem?_eq_some_iff.1 hk).1; omega) hk h1 h2⟩
/-- what is known of a log and its disk behind a call -/
def LogsAt (B : Nat) (w : World) (l d z u n m : Nat) (dead : Bool) (ls : List (List Nat)) (S : Dk.D) (k : Nat) : Prop :=
  (∃ v, LogAt B w l d z u n v m dead ∧ ∃ us, Recs B w v us ls) ∧ DkX B w d S k
section
variable {B l d z u n m k : Nat} {dead : Bool} {ls : List (List Nat)} {S : Dk.D} {w w' : World}
theorem LogsAt.below (h : LogsAt B w l d z u n m dead ls S k) (hb : Below w.heap.size w w') : LogsAt B w' l d z u n m dead ls S k := by
  obtain ⟨⟨v, h1, us, h2⟩, h3⟩ := h
  exact ⟨⟨v, h1.below hb, us, h2.below hb⟩, h3.below hb⟩
theorem LogsAt.set {b t : Nat} {cs : Array Value} (h : LogsAt B w l d z u n m dead ls S k) (hb : Blk w b t cs) (ht : t = 27) (i : Nat) (x : Value) : LogsAt B (w.setCell ⟨b, i, none⟩ x) l d z u n m dead ls S k := by
  subst ht
  obtain ⟨⟨v, h1, us, h2⟩, h3⟩ := h
  refine ⟨⟨v, ⟨h1.blk.far (blk_ne h1.blk hb (by decide)) _, h1.low⟩, us, h2.of fun b' t' cs' hk e => hk.far (blk_ne hk hb (by rcases e with rfl | rfl <;> decide)) _⟩, h3.farX hb (by decide) (by decide) i x⟩
end
section
variable {B d z u n m k k' : Nat} {ls : List (List Nat)} {S S' : Dk.D}
set_option maxRecDepth 100000 in
set_option maxHeartbeats 1000000 in
theorem Open_any (a : Nat → Addr) (w0 w : World) (hD : DkX B w d S k) (hE : Env B a w0 w) (hz : z = S.size / 2) (h4 : 4 ≤ S.size)
    (hopen : ∀ l w', LogAt B w' l d z 0 0 (.slice none 0 0) 0 false → DkX B w' d S k → Env B a w0 w' → Calls Tryd.prog 27 #[.pointer (some ⟨l, 0, none⟩)] w' fun e w'' => e = .returned (.tuple #[]) ∧ (∃ v, LogAt B w'' l d z u n v m false ∧ (∃ us, Recs B w'' v us ls)) ∧ DkX B w'' d S' k' ∧ LFr B l w' w'') :
    Calls Tryd.prog 9 #[.pointer (some ⟨d, 0, none⟩)] w fun e w' => ∃ l, e = .returned (.tuple #[.pointer (some ⟨l, 0, none⟩), .nilIface]) ∧ LogsAt B w' l d z u n m false ls S' k' ∧ TFr B w w' ∧ w.heap.size ≤ l := by
  have hsz := hD.ok.size
  have HBS : Hid (B ≤ w.heap.size) := Lib.hid (by have := hD.lt; omega)
  have CS := dk_sizeX w hD
  have CH := half_any (S.size : Int) w (WalkArith.wf_i64 (by omega))
  rw [show Hv.halfOf (S.size : Int) = z by unfold Hv.halfOf; rw [if_pos (by omega), hz]; omega] at CH
  obtain ⟨wl, hwl⟩ : ∃ wl, wl = w.alloc (.cells (logCells d z 0 0 (.slice none 0 0) 0 false) 63) := ⟨_, rfl⟩
  have HWL := Lib.hid hwl
  have HB1 : Hid (Below w.heap.size w wl) := Lib.hid (by rw [hwl]; exact below_al w _)
  have HL1 : Hid (LogAt B wl w.heap.size d z 0 0 (.slice none 0 0) 0 false) := Lib.hid ⟨by rw [hwl]; exact Blk.new w _ _, HBS.out⟩
  have HSL : Hid (wl.heap.size = w.heap.size + 1) := Lib.hid (by rw [hwl]; simp)
  have HBA := Lib.hid (below_attBox wl w.heap.size)
  have HW := Lib.hid (hopen w.heap.size (attBox wl w.heap.size) (HL1.out.below HBA.out) ((hD.below HB1.out).below HBA.out) ((hE.below HB1.out).below HBA.out))
  have i0 : ¬ (S.size : Int) < 4 := by omega
  have CA := attempt_ok 27 #[.pointer (some ⟨w.heap.size, 0, none⟩)] #[] w.heap.size wl (fun w' => LogsAt B w' w.heap.size d z u n m false ls S' k' ∧ LFr B w.heap.size wl w' ∧ ∃ c, Blk w' (wl.heap.size + 1) 27 #[c])
    (fun args w => by simp [go_sem])
    (HW.out.mono fun e w'' ⟨h1, h2, h3, h4⟩ => ⟨h1, ⟨h2, h3⟩, (LFr.below HBA.out).trans h4, .nilIface, h4.typed _ _ _ (by have := HSL.out; omega) (by
      have := Blk.new (wl.alloc (.cells #[.pointer (some ⟨w.heap.size, 0, none⟩)] 30)) 27 #[.nilIface]
      simpa using this) (by decide) (by decide)⟩)
    (fun a h => h.2.2)
    (fun a x ⟨h1, h2, c, h3⟩ => ⟨h1.set h3 rfl 0 x, h2.setNew (by have := HBS.out; have := HSL.out; omega) (by omega) 0 x, x, h3.set_ 0 x⟩)
  clear hz h4 hopen hsz HW hwl hD hE
  go_enter Tryd.func9, Tryd.ntmps9
  go_wp2_with fail
  go_at_call 23
  refine CS.mono ?_
  rintro e ws ⟨rfl, rfl⟩
  go_wp2_with fail
  go_at_call 23
  refine CS.mono ?_
  rintro e ws ⟨rfl, rfl⟩
  go_wp2_with fail
  go_at_call 22
  refine CH.mono ?_
  rintro e ws ⟨rfl, rfl⟩
  go_wp2_with fail
  go_at_call 26
  have CA2 := CA
  rw [HWL.out] at CA2
  refine CA2.mono ?_
  rintro e w1 ⟨rfl, h1, h2, _⟩
  rw [← HWL.out] at h2
  have H1 := Lib.hid h1
  have H2 : Hid (TFr B w w1) := Lib.hid (((LFr.below HB1.out).trans h2).tfr (Nat.le_refl _))
  clear h1 h2 CA CA2 CS CH
  go_wp2_with fail
  go_ret2
  exact ⟨_, rfl, H1.out, H2.out, Nat.le_refl _⟩
end
end Go.Proofs.YthfbidjjgkjniaaDoor
