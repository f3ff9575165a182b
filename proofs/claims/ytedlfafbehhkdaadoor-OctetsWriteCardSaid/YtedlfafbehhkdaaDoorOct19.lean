/- Take, whatever reads: what it answers. -/
import Derived.Test.YtedlfafbehhkdaaDoorOct18
namespace Go.Proofs.YtedlfafbehhkdaaDoor
open Go Go.RowKit
/-- What Take is told of a function that reads: it goes on to zs. -/
def ReadsTo (K : Nat) (cap : Array Value) (S : Nat → Prop) (w0 w : World) (xs zs : List Nat) (R : Nat → Value → World → Prop) : Prop :=
  ∀ (w2 : World) (i r : Nat), w.heap.size ≤ r → w.heap.size ≤ i → InAt w0 w2 i r xs → Below w.heap.size w w2 →
    Calls Tryd.prog K (#[.pointer (some ⟨i, 0, none⟩)] ++ cap) w2 fun e w' => ∃ u, e = .returned u ∧ InAt w0 w' i r zs ∧ Kpt (fun b => b = r ∨ S b) w2 w' ∧ R r u w'
/-- .. it ends by an error. -/
def ReadsBad (K : Nat) (cap : Array Value) (S : Nat → Prop) (w0 w : World) (xs : List Nat) (ae : Addr) : Prop :=
  ∀ (w2 : World) (i r : Nat), w.heap.size ≤ r → w.heap.size ≤ i → InAt w0 w2 i r xs → Below w.heap.size w w2 →
    Calls Tryd.prog K (#[.pointer (some ⟨i, 0, none⟩)] ++ cap) w2 fun e w' => e = .panicked [{ v := stopV r, recovered := false }] ∧ Dead w' r (ev ae) ∧ Kpt (fun b => b = r ∨ S b) w2 w'
section
variable {S : Nat → Prop} {w0 w w1 w2 : World} {v : Value}
theorem kpt_end (h1 : Kpt (fun b => b = w.heap.size ∨ S b) (runBox (takeBox w v) w.heap.size) w1) (h2 : w1.grownBy w2 (some w.heap.size)) : Kpt S w w2 :=
  Kpt.old (Kpt.of_below (below_takeRun w v)) (Kpt.trans h1 (Kpt.of_grown h2 (Or.inl rfl))) fun x hx hl => hx.elim (fun e => by omega) id
theorem kpt_var (hS : ∀ b, S b → b < w.heap.size) (h1 : Kpt (fun b => b = w.heap.size ∨ S b) (runBox (takeBox w v) w.heap.size) w1) : w1.cell? ⟨w.heap.size + 1, 0, none⟩ = some (.pointer (some ⟨w.heap.size, 0, none⟩)) :=
  (h1.blk (var_run w v) (fun e => by rcases e with e | e; omega; have := hS _ e; omega)).cell 0
theorem kpt_var2 (hS : ∀ b, S b → b < w.heap.size) (h1 : Kpt (fun b => b = w.heap.size ∨ S b) (runBox (takeBox w v) w.heap.size) w1) : w1.cell? ⟨(takeBox w v).heap.size, 0, none⟩ = some (.pointer (some ⟨w.heap.size, 0, none⟩)) := by
  rw [takeBox_size]
  exact (h1.blk (var_run2 w v) (fun e => by rcases e with e | e; omega; have := hS _ e; omega)).cell 0
end
set_option maxRecDepth 100000 in
theorem takeI_ok (K : Nat) (cap : Array Value) (S : Nat → Prop) (w0 w : World) (A : Option Addr) (n c : Nat) (xs : List Nat) (R : Nat → Value → World → Prop) (hK : ∀ args w, (callFunc K args).run Tryd.prog w = .ok (.enter K args) w)
    (hw : Below w0.heap.size w0 w) (hv : Rd w0 (.slice A n c) xs) (hS : ∀ b, S b → b < w.heap.size) (hread : ReadsTo K cap S w0 w xs [] R) (hR : ∀ r u a b, R r u a → a.grownBy b (some r) → R r u b) :
    Calls Tryd.prog 15 #[.slice A n c, .func (.func K) #[] cap] w fun e w' => ∃ u r, e = .returned (.tuple #[u, .nilIface]) ∧ w.heap.size ≤ r ∧ R r u w' ∧ Kpt S w w' := by
  have hmf : ∀ (fn : Fn) (first cap : Array Value) (w : World), (Instr.makeFunc fn first cap).run Tryd.prog w = .ok (.func fn first cap) w := fun _ _ _ _ => rfl
  have CR := runI_ok K cap w.heap.size (takeBox w (.slice A n c)) (fun u w' => InAt w0 w' ((takeBox w (.slice A n c)).heap.size + 1) w.heap.size [] ∧ Kpt (fun b => b = w.heap.size ∨ S b) (runBox (takeBox w (.slice A n c)) w.heap.size) w' ∧ R w.heap.size u w') hK (hread _ _ _ (Nat.le_refl _) (by rw [takeBox_size]; omega) (inAt_run hw hv) (below_takeRun w _))
  have HS := Lib.hid hS
  have HRR := Lib.hid hR
  clear hread hS hR
  go_enter_defers Tryd.func15, Tryd.ntmps15
  go_wp2_with (go_at_call 37; refine CR.mono ?_; rintro e w1 ⟨u, rfl, hi, hk, hr⟩; have p0 : w1.cell? ⟨w.heap.size + 1, 0, none⟩ = some (.pointer (some ⟨w.heap.size, 0, none⟩)) := kpt_var HS.out hk; obtain ⟨vz, hz, ⟨Az, cz, rfl, _, _⟩, _⟩ := hi; have p1 : w1.cell? ⟨w.heap.size, 2, none⟩ = some (.bool false) := hz.r_.cell 2; have p2 : w1.cell? ⟨w.heap.size, 0, none⟩ = some (.slice Az 0 cz) := hz.r_.cell 0; have HZ := Lib.hid hz.r_; have HK := Lib.hid hk; have HR := Lib.hid hr; clear hz hk hr CR)
  refine leaves_cons (f := 36) (args := #[.pointer (some ⟨w.heap.size + 1, 0, none⟩)]) (by simp) (by simp [go_sem]) ?_
  refine (closeI_any (w.heap.size + 1) w.heap.size _ _ _ _ _ p0 HZ.out).mono ?_
  rintro e u' w'' ⟨rfl, rfl, hg⟩
  refine ⟨_, results_tmp2 rfl _ _ _, ?_⟩
  exact ⟨u, w.heap.size, rfl, Nat.le_refl _, HRR.out _ _ _ _ HR.out hg, kpt_end HK.out hg⟩
set_option maxRecDepth 100000 in
theorem takeI_long (K : Nat) (cap : Array Value) (S : Nat → Prop) (w0 w : World) (A : Option Addr) (n c : Nat) (xs zs : List Nat) (aL : Addr) (hK : ∀ args w, (callFunc K args).run Tryd.prog w = .ok (.enter K args) w)
    (hw : Below w0.heap.size w0 w) (hv : Rd w0 (.slice A n c) xs) (hS : ∀ b, S b → b < w.heap.size) (hread : ReadsTo K cap S w0 w xs zs (fun _ _ _ => True)) (hz0 : 0 < zs.length) (hL : w0.cell? ⟨3, 0, none⟩ = some (ev aL)) :
    Calls Tryd.prog 15 #[.slice A n c, .func (.func K) #[] cap] w fun e w' => e = .returned (.tuple #[.int .i64 0, ev aL]) ∧ Kpt S w w' := by
  have hmf : ∀ (fn : Fn) (first cap : Array Value) (w : World), (Instr.makeFunc fn first cap).run Tryd.prog w = .ok (.func fn first cap) w := fun _ _ _ _ => rfl
  have CR := runI_ok K cap w.heap.size (takeBox w (.slice A n c)) (fun u w' => InAt w0 w' ((takeBox w (.slice A n c)).heap.size + 1) w.heap.size zs ∧ Kpt (fun b => b = w.heap.size ∨ S b) (runBox (takeBox w (.slice A n c)) w.heap.size) w' ∧ True) hK (hread _ _ _ (Nat.le_refl _) (by rw [takeBox_size]; omega) (inAt_run hw hv) (below_takeRun w _))
  have HS := Lib.hid hS
  have i0 : (0 : Int) < (zs.length : Int) := by omega
  clear hread hS
  go_enter_defers Tryd.func15, Tryd.ntmps15
  go_wp2_with (go_at_call 37; refine CR.mono ?_; rintro e w1 ⟨u, rfl, hi, hk, _⟩; have p0 : w1.cell? ⟨w.heap.size + 1, 0, none⟩ = some (.pointer (some ⟨w.heap.size, 0, none⟩)) := kpt_var HS.out hk; have p3 : w1.cell? ⟨3, 0, none⟩ = some (ev aL) := (hi.bel.1.cell (block_lt_of_cell hL)).trans hL; obtain ⟨vz, hz, ⟨Az, cz, rfl, _, _⟩, _⟩ := hi; have p1 : w1.cell? ⟨w.heap.size, 2, none⟩ = some (.bool false) := hz.r_.cell 2; have p2 : w1.cell? ⟨w.heap.size, 0, none⟩ = some (.slice Az zs.length cz) := hz.r_.cell 0; have HZ := Lib.hid hz.r_; have HK := Lib.hid hk; clear hz hk CR)
  go_quiet (fail)
  go_wp2
  refine leaves_cons (f := 36) (args := #[.pointer (some ⟨w.heap.size + 1, 0, none⟩)]) (by simp) (by simp [go_sem]) ?_
  refine (closeI_any (w.heap.size + 1) w.heap.size _ _ _ _ (w1.drewN nq) p0 (HZ.out.drewN nq)).mono ?_
  rintro e u' w'' ⟨rfl, rfl, hg⟩
  refine ⟨_, results_tmp2 rfl _ _ _, ?_⟩
  exact ⟨rfl, kpt_end (HK.out.trans (Kpt.of_below (below_drewN (Below.refl _ _) nq))) hg⟩
set_option maxRecDepth 100000 in
theorem takeI_bad (K : Nat) (cap : Array Value) (S : Nat → Prop) (w0 w : World) (A : Option Addr) (n c : Nat) (xs : List Nat) (ae : Addr) (hK : ∀ args w, (callFunc K args).run Tryd.prog w = .ok (.enter K args) w)
    (hw : Below w0.heap.size w0 w) (hv : Rd w0 (.slice A n c) xs) (hS : ∀ b, S b → b < w.heap.size) (hread : ReadsBad K cap S w0 w xs ae) :
    Calls Tryd.prog 15 #[.slice A n c, .func (.func K) #[] cap] w fun e w' => e = .returned (.tuple #[.int .i64 0, ev ae]) ∧ Kpt S w w' := by
  have hmf : ∀ (fn : Fn) (first cap : Array Value) (w : World), (Instr.makeFunc fn first cap).run Tryd.prog w = .ok (.func fn first cap) w := fun _ _ _ _ => rfl
  have CR := runI_bad K cap w.heap.size (takeBox w (.slice A n c)) (fun w' => Dead w' w.heap.size (ev ae) ∧ Kpt (fun b => b = w.heap.size ∨ S b) (runBox (takeBox w (.slice A n c)) w.heap.size) w') hK (hread _ _ _ (Nat.le_refl _) (by rw [takeBox_size]; omega) (inAt_run hw hv) (below_takeRun w _)) (fun a h => kpt_var2 hS h.2) (fun a b h k => ⟨h.1.grown k, h.2.trans (Kpt.of_below k)⟩)
  have HS := Lib.hid hS
  clear hread hS
  go_enter_defers Tryd.func15, Tryd.ntmps15
  go_wp2_with (go_at_call 37; refine CR.mono ?_; rintro e w1 ⟨rfl, hd, hk⟩; have p0 : w1.cell? ⟨w.heap.size + 1, 0, none⟩ = some (.pointer (some ⟨w.heap.size, 0, none⟩)) := kpt_var HS.out hk; obtain ⟨vd, hd⟩ := hd; have p1 : w1.cell? ⟨w.heap.size, 2, none⟩ = some (.bool true) := hd.cell 2; have p2 : w1.cell? ⟨w.heap.size, 3, none⟩ = some (ev ae) := hd.cell 3; have HZ := Lib.hid hd; have HK := Lib.hid hk; clear hd hk CR)
  go_quiet (fail)
  go_wp2
  refine leaves_cons (f := 36) (args := #[.pointer (some ⟨w.heap.size + 1, 0, none⟩)]) (by simp) (by simp [go_sem]) ?_
  refine (closeI_any (w.heap.size + 1) w.heap.size _ _ _ _ (w1.drewN nq) p0 (HZ.out.drewN nq)).mono ?_
  rintro e u' w'' ⟨rfl, rfl, hg⟩
  refine ⟨_, results_tmp2 rfl _ _ _, ?_⟩
  exact ⟨rfl, kpt_end (HK.out.trans (Kpt.of_below (below_drewN (Below.refl _ _) nq))) hg⟩
set_option maxRecDepth 100000 in
theorem takeF_ok (K : Nat) (cap : Array Value) (S : Nat → Prop) (w0 w : World) (A : Option Addr) (n c : Nat) (xs : List Nat) (R : Nat → Value → World → Prop) (hK : ∀ args w, (callFunc K args).run Tryd.prog w = .ok (.enter K args) w)
    (hw : Below w0.heap.size w0 w) (hv : Rd w0 (.slice A n c) xs) (hS : ∀ b, S b → b < w.heap.size) (hread : ReadsTo K cap S w0 w xs [] R) (hR : ∀ r u a b, R r u a → a.grownBy b (some r) → R r u b) :
    Calls Tryd.prog 29 #[.slice A n c, .func (.func K) #[] cap] w fun e w' => ∃ u r, e = .returned (.tuple #[u, .nilIface]) ∧ w.heap.size ≤ r ∧ R r u w' ∧ Kpt S w w' := by
  have hmf : ∀ (fn : Fn) (first cap : Array Value) (w : World), (Instr.makeFunc fn first cap).run Tryd.prog w = .ok (.func fn first cap) w := fun _ _ _ _ => rfl
  have CR := runF_ok K cap w.heap.size (takeBox w (.slice A n c)) (fun u w' => InAt w0 w' ((takeBox w (.slice A n c)).heap.size + 1) w.heap.size [] ∧ Kpt (fun b => b = w.heap.size ∨ S b) (runBox (takeBox w (.slice A n c)) w.heap.size) w' ∧ R w.heap.size u w') hK (hread _ _ _ (Nat.le_refl _) (by rw [takeBox_size]; omega) (inAt_run hw hv) (below_takeRun w _))
  have HS := Lib.hid hS
  have HRR := Lib.hid hR
  clear hread hS hR
  go_enter_defers Tryd.func29, Tryd.ntmps29
  go_wp2_with (go_at_call 49; refine CR.mono ?_; rintro e w1 ⟨u, rfl, hi, hk, hr⟩; have p0 : w1.cell? ⟨w.heap.size + 1, 0, none⟩ = some (.pointer (some ⟨w.heap.size, 0, none⟩)) := kpt_var HS.out hk; obtain ⟨vz, hz, ⟨Az, cz, rfl, _, _⟩, _⟩ := hi; have p1 : w1.cell? ⟨w.heap.size, 2, none⟩ = some (.bool false) := hz.r_.cell 2; have p2 : w1.cell? ⟨w.heap.size, 0, none⟩ = some (.slice Az 0 cz) := hz.r_.cell 0; have HZ := Lib.hid hz.r_; have HK := Lib.hid hk; have HR := Lib.hid hr; clear hz hk hr CR)
  refine leaves_cons (f := 48) (args := #[.pointer (some ⟨w.heap.size + 1, 0, none⟩)]) (by simp) (by simp [go_sem]) ?_
  refine (closeF_any (w.heap.size + 1) w.heap.size _ _ _ _ _ p0 HZ.out).mono ?_
  rintro e u' w'' ⟨rfl, rfl, hg⟩
  refine ⟨_, results_tmp2 rfl _ _ _, ?_⟩
  exact ⟨u, w.heap.size, rfl, Nat.le_refl _, HRR.out _ _ _ _ HR.out hg, kpt_end HK.out hg⟩
set_option maxRecDepth 100000 in
theorem takeF_long (K : Nat) (cap : Array Value) (S : Nat → Prop) (w0 w : World) (A : Option Addr) (n c : Nat) (xs zs : List Nat) (aL : Addr) (hK : ∀ args w, (callFunc K args).run Tryd.prog w = .ok (.enter K args) w)
    (hw : Below w0.heap.size w0 w) (hv : Rd w0 (.slice A n c) xs) (hS : ∀ b, S b → b < w.heap.size) (hread : ReadsTo K cap S w0 w xs zs (fun _ _ _ => True)) (hz0 : 0 < zs.length) (hL : w0.cell? ⟨3, 0, none⟩ = some (ev aL)) :
    Calls Tryd.prog 29 #[.slice A n c, .func (.func K) #[] cap] w fun e w' => e = .returned (.tuple #[.slice none 0 0, ev aL]) ∧ Kpt S w w' := by
  have hmf : ∀ (fn : Fn) (first cap : Array Value) (w : World), (Instr.makeFunc fn first cap).run Tryd.prog w = .ok (.func fn first cap) w := fun _ _ _ _ => rfl
  have CR := runF_ok K cap w.heap.size (takeBox w (.slice A n c)) (fun u w' => InAt w0 w' ((takeBox w (.slice A n c)).heap.size + 1) w.heap.size zs ∧ Kpt (fun b => b = w.heap.size ∨ S b) (runBox (takeBox w (.slice A n c)) w.heap.size) w' ∧ True) hK (hread _ _ _ (Nat.le_refl _) (by rw [takeBox_size]; omega) (inAt_run hw hv) (below_takeRun w _))
  have HS := Lib.hid hS
  have i0 : (0 : Int) < (zs.length : Int) := by omega
  clear hread hS
  go_enter_defers Tryd.func29, Tryd.ntmps29
  go_wp2_with (go_at_call 49; refine CR.mono ?_; rintro e w1 ⟨u, rfl, hi, hk, _⟩; have p0 : w1.cell? ⟨w.heap.size + 1, 0, none⟩ = some (.pointer (some ⟨w.heap.size, 0, none⟩)) := kpt_var HS.out hk; have p3 : w1.cell? ⟨3, 0, none⟩ = some (ev aL) := (hi.bel.1.cell (block_lt_of_cell hL)).trans hL; obtain ⟨vz, hz, ⟨Az, cz, rfl, _, _⟩, _⟩ := hi; have p1 : w1.cell? ⟨w.heap.size, 2, none⟩ = some (.bool false) := hz.r_.cell 2; have p2 : w1.cell? ⟨w.heap.size, 0, none⟩ = some (.slice Az zs.length cz) := hz.r_.cell 0; have HZ := Lib.hid hz.r_; have HK := Lib.hid hk; clear hz hk CR)
  go_quiet (fail)
  go_wp2
  refine leaves_cons (f := 48) (args := #[.pointer (some ⟨w.heap.size + 1, 0, none⟩)]) (by simp) (by simp [go_sem]) ?_
  refine (closeF_any (w.heap.size + 1) w.heap.size _ _ _ _ (w1.drewN nq) p0 (HZ.out.drewN nq)).mono ?_
  rintro e u' w'' ⟨rfl, rfl, hg⟩
  refine ⟨_, results_tmp2 rfl _ _ _, ?_⟩
  exact ⟨rfl, kpt_end (HK.out.trans (Kpt.of_below (below_drewN (Below.refl _ _) nq))) hg⟩
set_option maxRecDepth 100000 in
theorem takeF_bad (K : Nat) (cap : Array Value) (S : Nat → Prop) (w0 w : World) (A : Option Addr) (n c : Nat) (xs : List Nat) (ae : Addr) (hK : ∀ args w, (callFunc K args).run Tryd.prog w = .ok (.enter K args) w)
    (hw : Below w0.heap.size w0 w) (hv : Rd w0 (.slice A n c) xs) (hS : ∀ b, S b → b < w.heap.size) (hread : ReadsBad K cap S w0 w xs ae) :
    Calls Tryd.prog 29 #[.slice A n c, .func (.func K) #[] cap] w fun e w' => e = .returned (.tuple #[.slice none 0 0, ev ae]) ∧ Kpt S w w' := by
  have hmf : ∀ (fn : Fn) (first cap : Array Value) (w : World), (Instr.makeFunc fn first cap).run Tryd.prog w = .ok (.func fn first cap) w := fun _ _ _ _ => rfl
  have CR := runF_bad K cap w.heap.size (takeBox w (.slice A n c)) (fun w' => Dead w' w.heap.size (ev ae) ∧ Kpt (fun b => b = w.heap.size ∨ S b) (runBox (takeBox w (.slice A n c)) w.heap.size) w') hK (hread _ _ _ (Nat.le_refl _) (by rw [takeBox_size]; omega) (inAt_run hw hv) (below_takeRun w _)) (fun a h => kpt_var2 hS h.2) (fun a b h k => ⟨h.1.grown k, h.2.trans (Kpt.of_below k)⟩)
  have HS := Lib.hid hS
  clear hread hS
  go_enter_defers Tryd.func29, Tryd.ntmps29
  go_wp2_with (go_at_call 49; refine CR.mono ?_; rintro e w1 ⟨rfl, hd, hk⟩; have p0 : w1.cell? ⟨w.heap.size + 1, 0, none⟩ = some (.pointer (some ⟨w.heap.size, 0, none⟩)) := kpt_var HS.out hk; obtain ⟨vd, hd⟩ := hd; have p1 : w1.cell? ⟨w.heap.size, 2, none⟩ = some (.bool true) := hd.cell 2; have p2 : w1.cell? ⟨w.heap.size, 3, none⟩ = some (ev ae) := hd.cell 3; have HZ := Lib.hid hd; have HK := Lib.hid hk; clear hd hk CR)
  go_quiet (fail)
  go_wp2
  refine leaves_cons (f := 48) (args := #[.pointer (some ⟨w.heap.size + 1, 0, none⟩)]) (by simp) (by simp [go_sem]) ?_
  refine (closeF_any (w.heap.size + 1) w.heap.size _ _ _ _ (w1.drewN nq) p0 (HZ.out.drewN nq)).mono ?_
  rintro e u' w'' ⟨rfl, rfl, hg⟩
  refine ⟨_, results_tmp2 rfl _ _ _, ?_⟩
  exact ⟨rfl, kpt_end (HK.out.trans (Kpt.of_below (below_drewN (Below.refl _ _) nq))) hg⟩
end Go.Proofs.YtedlfafbehhkdaaDoor
