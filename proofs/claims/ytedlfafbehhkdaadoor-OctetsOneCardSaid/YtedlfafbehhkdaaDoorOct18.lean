/- Take: what it answers, whatever reads. -/
import Derived.Test.YtedlfafbehhkdaaDoorOct17
namespace Go.Proofs.YtedlfafbehhkdaaDoor
open Go Go.RowKit
/-- all that stood before stands, but for the blocks of S -/
structure Kpt (S : Nat → Prop) (w w' : World) : Prop where
  os : w'.os = w.os
  tape : w'.tape = w.tape
  output : w'.output = w.output
  size : w.heap.size ≤ w'.heap.size
  block : ∀ b, b < w.heap.size → ¬ S b → w'.heap[b]? = w.heap[b]?
theorem Kpt.of_below {S : Nat → Prop} {w w' : World} (h : Below w.heap.size w w') : Kpt S w w' := ⟨h.os, h.tape, h.output, h.size, fun b hb _ => h.block b hb⟩
theorem Kpt.of_grown {S : Nat → Prop} {w w' : World} {r : Nat} (h : w.grownBy w' (some r)) (hr : S r) : Kpt S w w' := ⟨h.os, h.tape, h.output, h.size, fun b hb hs => h.block b hb (fun e => by injection e with e; subst e; exact hs hr)⟩
theorem Kpt.trans {S : Nat → Prop} {a b c : World} (h : Kpt S a b) (k : Kpt S b c) : Kpt S a c := ⟨k.os.trans h.os, k.tape.trans h.tape, k.output.trans h.output, Nat.le_trans h.size k.size, fun x hx hs => (k.block x (Nat.lt_of_lt_of_le hx h.size) hs).trans (h.block x hx hs)⟩
theorem Kpt.below {w w' : World} (h : Kpt (fun _ => False) w w') : Below w.heap.size w w' := ⟨h.os, h.tape, h.output, h.size, fun b hb => h.block b hb (fun h => h)⟩
/-- what has come to be since may turn -/
theorem Kpt.old {S T : Nat → Prop} {a b c : World} (h : Kpt S a b) (k : Kpt T b c) (hT : ∀ x, T x → x < a.heap.size → S x) : Kpt S a c :=
  ⟨k.os.trans h.os, k.tape.trans h.tape, k.output.trans h.output, Nat.le_trans h.size k.size, fun x hx hs => (k.block x (Nat.lt_of_lt_of_le hx h.size) (fun ht => hs (hT x ht hx))).trans (h.block x hx hs)⟩
theorem Kpt.blk {S : Nat → Prop} {w w' : World} (h : Kpt S w w') {g : Nat} {t : TypeId} {cs : Array Value} (hg : Blk w g t cs) (hs : ¬ S g) : Blk w' g t cs := (h.block g hg.lt hs).trans hg
theorem Kpt.cell {S : Nat → Prop} {w w' : World} (h : Kpt S w w') {p : Addr} {v : Value} (hp : w.cell? p = some v) (hs : ¬ S p.block) : w'.cell? p = some v := (World.cell?_of_block (h.block p.block (block_lt_of_cell hp) hs)).trans hp
theorem rdg_info : (Tryd.prog.info? 69).map (·.size) = some 4 := by kernel_rfl
/-- the world in which run is called: the reading, Take's variable -/
abbrev takeBox (w : World) (v : Value) : World := (w.alloc (.cells #[v, .bool true, .bool false, .nilIface] 69)).alloc (.cells #[.pointer (some ⟨w.heap.size, 0, none⟩)] 67)
theorem takeBox_size (w : World) (v : Value) : (takeBox w v).heap.size = w.heap.size + 2 := by simp
theorem runBox_size (w : World) (r : Nat) : (runBox w r).heap.size = w.heap.size + 2 := by simp
theorem below_takeRun (w : World) (v : Value) : Below w.heap.size w (runBox (takeBox w v) w.heap.size) :=
  ((((Below.refl _ _).alloc (Nat.le_refl _) _).alloc (by simp) _).alloc (by simp <;> omega) _).alloc (by simp <;> omega) _
theorem inAt_run {w0 w : World} {v : Value} {xs : List Nat} (hw : Below w0.heap.size w0 w) (hv : Rd w0 v xs) : InAt w0 (runBox (takeBox w v) w.heap.size) ((takeBox w v).heap.size + 1) w.heap.size xs := by
  refine ⟨v, ⟨?_, ?_, ?_⟩, hv, below_then hw (below_takeRun w v), hw.size, ?_⟩
  · have h := Blk.new ((takeBox w v).alloc (.cells #[.pointer (some ⟨w.heap.size, 0, none⟩)] 67)) 87 #[.pointer (some ⟨w.heap.size, 0, none⟩)]
    rwa [show ((takeBox w v).alloc (.cells #[.pointer (some ⟨w.heap.size, 0, none⟩)] 67)).heap.size = (takeBox w v).heap.size + 1 by simp] at h
  · exact (((Blk.new w _ _).alloc _).alloc _).alloc _
  · rw [takeBox_size]; omega
  · rw [takeBox_size]; have := hw.size; omega
theorem var_run (w : World) (v : Value) : Blk (runBox (takeBox w v) w.heap.size) (w.heap.size + 1) 67 #[.pointer (some ⟨w.heap.size, 0, none⟩)] := by
  have h := Blk.new (w.alloc (.cells #[v, .bool true, .bool false, .nilIface] 69)) 67 #[.pointer (some ⟨w.heap.size, 0, none⟩)]
  rw [show (w.alloc (.cells #[v, .bool true, .bool false, .nilIface] 69)).heap.size = w.heap.size + 1 by simp] at h
  exact (h.alloc _).alloc _
theorem var_run2 (w : World) (v : Value) : Blk (runBox (takeBox w v) w.heap.size) (w.heap.size + 2) 67 #[.pointer (some ⟨w.heap.size, 0, none⟩)] := by
  have h := Blk.new (takeBox w v) 67 #[.pointer (some ⟨w.heap.size, 0, none⟩)]
  rw [takeBox_size] at h
  exact h.alloc _
theorem closeI_any (q r : Nat) (v0 v1 v2 v3 : Value) (w : World) (hq : w.cell? ⟨q, 0, none⟩ = some (.pointer (some ⟨r, 0, none⟩))) (hr : Blk w r 69 #[v0, v1, v2, v3]) :
    CallsD Tryd.prog 36 #[.pointer (some ⟨q, 0, none⟩)] .returning w fun e u' w' => u' = .returning ∧ (e = .returned (.tuple #[]) ∧ w.grownBy w' (some r)) := by
  have HG : Hid (w.grownBy ((((w.setCell ⟨r, 0, none⟩ (.slice none 0 0)).setCell ⟨r, 1, none⟩ (.bool false)).setCell ⟨r, 2, none⟩ (.bool false)).setCell ⟨r, 3, none⟩ .nilIface) (some r)) := Lib.hid (only_setCell (p := ⟨r, 3, none⟩) (only_setCell (p := ⟨r, 2, none⟩) (only_setCell (p := ⟨r, 1, none⟩) (only_setCell (p := ⟨r, 0, none⟩) (World.grownBy.refl w (some r)) (Or.inl rfl) _) (Or.inl rfl) _) (Or.inl rfl) _) (Or.inl rfl) _)
  have c0 : w.cell? ⟨r, 0, none⟩ = some v0 := hr.cell 0
  have c1 : w.cell? ⟨r, 1, none⟩ = some v1 := hr.cell 1
  have c2 : w.cell? ⟨r, 2, none⟩ = some v2 := hr.cell 2
  have c3 : w.cell? ⟨r, 3, none⟩ = some v3 := hr.cell 3
  have z0 := hr.frozen 0
  have z1 := hr.frozen 1
  have z2 := hr.frozen 2
  have z3 := hr.frozen 3
  clear hr
  go_enter_d Tryd.func36, Tryd.ntmps36
  go_wp2
  go_end0
  exact ⟨rfl, HG.out⟩
theorem closeF_any (q r : Nat) (v0 v1 v2 v3 : Value) (w : World) (hq : w.cell? ⟨q, 0, none⟩ = some (.pointer (some ⟨r, 0, none⟩))) (hr : Blk w r 69 #[v0, v1, v2, v3]) :
    CallsD Tryd.prog 48 #[.pointer (some ⟨q, 0, none⟩)] .returning w fun e u' w' => u' = .returning ∧ (e = .returned (.tuple #[]) ∧ w.grownBy w' (some r)) := by
  have HG : Hid (w.grownBy ((((w.setCell ⟨r, 0, none⟩ (.slice none 0 0)).setCell ⟨r, 1, none⟩ (.bool false)).setCell ⟨r, 2, none⟩ (.bool false)).setCell ⟨r, 3, none⟩ .nilIface) (some r)) := Lib.hid (only_setCell (p := ⟨r, 3, none⟩) (only_setCell (p := ⟨r, 2, none⟩) (only_setCell (p := ⟨r, 1, none⟩) (only_setCell (p := ⟨r, 0, none⟩) (World.grownBy.refl w (some r)) (Or.inl rfl) _) (Or.inl rfl) _) (Or.inl rfl) _) (Or.inl rfl) _)
  have c0 : w.cell? ⟨r, 0, none⟩ = some v0 := hr.cell 0
  have c1 : w.cell? ⟨r, 1, none⟩ = some v1 := hr.cell 1
  have c2 : w.cell? ⟨r, 2, none⟩ = some v2 := hr.cell 2
  have c3 : w.cell? ⟨r, 3, none⟩ = some v3 := hr.cell 3
  have z0 := hr.frozen 0
  have z1 := hr.frozen 1
  have z2 := hr.frozen 2
  have z3 := hr.frozen 3
  clear hr
  go_enter_d Tryd.func48, Tryd.ntmps48
  go_wp2
  go_end0
  exact ⟨rfl, HG.out⟩
end Go.Proofs.YtedlfafbehhkdaaDoor
