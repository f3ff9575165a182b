/- run: what is deferred, and run itself. -/
import Derived.Test.YtbllilokcalbcaaDoorMOct10s
import Derived.Recover
import Derived.Lib.Builder
namespace Go.Proofs.YtbllilokcalbcaaDoor
open Go Go.RowKit
theorem slots17 (x v : Value) : #[x] ++ (Array.replicate 17 undef).setIfInBounds 3 v = #[x, undef, undef, undef, v, undef, undef, undef, undef, undef, undef, undef, undef, undef, undef, undef, undef, undef] := by kernel_rfl
theorem stop_eql (r : Nat) (w : World) : (binOp .eql 20 (stopV r) .nilIface).run Tryd.prog w = .ok (.bool false) w := by kernel_rfl
theorem stop_assert (r : Nat) (w : World) : (Instr.typeAssert (stopV r) 20 155 true).run Tryd.prog w = .ok (.tuple #[.agg #[.pointer (some ⟨r, 0, none⟩)], .bool true]) w := by kernel_rfl
theorem stop_neq (r : Nat) (w : World) : (binOp .neq 137 (.pointer (some ⟨r, 0, none⟩)) (.pointer (some ⟨r, 0, none⟩))).run Tryd.prog w = .ok (.bool false) w := by
  cases h : Tryd.prog.info? 139 with
  | none =>
    have h2 : (Tryd.prog.info? 139).isSome = true := by kernel_rfl
    rw [h] at h2; cases h2
  | some j => exact Lib.run_neq_ptr_same w _ Tryd.underlying137 h
/-- the world in which the function that reads is called: run's variable, the In -/
abbrev runBox (w : World) (r : Nat) : World := (w.alloc (.cells #[.pointer (some ⟨r, 0, none⟩)] 137)).alloc (.cells #[.pointer (some ⟨r, 0, none⟩)] 145)
theorem catchF_idle (q : Nat) (w : World) :
    CallsD Tryd.prog 92 #[.pointer (some ⟨q, 0, none⟩)] .returning w fun e u' w' => e = .returned (.tuple #[]) ∧ u' = .returning ∧ w' = w := by
  refine callsD_of_wpS Tryd.func92 rfl fun c₀ cs hu => ?_
  apply wpS_seq
  apply wpS_region
  simp [wpOpsS, go_sem, recoverD, hu, Tryd.ntmps92, Exit.thenS]
  rw [slots17]
  refine wpS_of_wp ?_
  go_wp2
  exact ⟨rfl, _, by rw [← hu], _, results_none rfl _ _ _, rfl, rfl, rfl⟩
set_option maxRecDepth 100000 in
theorem catchF_stop (q r : Nat) (older : List PanicEntry) (w : World) (hq : w.cell? ⟨q, 0, none⟩ = some (.pointer (some ⟨r, 0, none⟩))) :
    CallsD Tryd.prog 92 #[.pointer (some ⟨q, 0, none⟩)] (.panicking ({ v := stopV r, recovered := false } :: older)) w fun e u' w' =>
      e = .returned (.tuple #[]) ∧ u' = .panicking ({ v := stopV r, recovered := true } :: older) ∧ Below w.heap.size w w' := by
  refine callsD_of_wpS Tryd.func92 rfl fun c₀ cs hu => ?_
  apply wpS_seq
  apply wpS_region
  simp [wpOpsS, go_sem, recoverD, hu, Tryd.ntmps92, Exit.thenS]
  rw [slots17]
  refine wpS_of_wp ?_
  have h1 := stop_eql r
  have h2 := stop_assert r
  have h3 := stop_neq r
  have hb : Hid (Below w.heap.size w (w.alloc (.cells #[.pointer (some ⟨r, 0, none⟩)] 155))) := Lib.hid ((Below.refl _ _).alloc (Nat.le_refl _) _)
  have hq2 : (w.alloc (.cells #[.pointer (some ⟨r, 0, none⟩)] 155)).cell? ⟨q, 0, none⟩ = some (.pointer (some ⟨r, 0, none⟩)) := (hb.out.cell (p := ⟨q, 0, none⟩) (block_lt_of_cell hq)).trans hq
  go_wp2
  refine ⟨rfl, .panicking ({ v := stopV r, recovered := true } :: older), rfl, .tuple #[], ?_, rfl, rfl, hb.out⟩
  exact results_none rfl _ _ _
theorem runF_ok (K : Nat) (cap : Array Value) (r : Nat) (w : World) (R : Value → World → Prop) (hK : ∀ args w, (callFunc K args).run Tryd.prog w = .ok (.enter K args) w)
    (hread : Calls Tryd.prog K (#[.pointer (some ⟨w.heap.size + 1, 0, none⟩)] ++ cap) (runBox w r) fun e w' => ∃ v, e = .returned v ∧ R v w') :
    Calls Tryd.prog 81 #[.pointer (some ⟨r, 0, none⟩), .func (.func K) #[] cap] w fun e w' => ∃ v, e = .returned v ∧ R v w' := by
  have hmf : ∀ (fn : Fn) (first cap : Array Value) (w : World), (Instr.makeFunc fn first cap).run Tryd.prog w = .ok (.func fn first cap) w := fun _ _ _ _ => rfl
  go_enter_defers Tryd.func81, Tryd.ntmps81
  go_wp2_with (refine hread.mono ?_; rintro e w1 ⟨v, rfl, hr⟩; have HR := Lib.hid hr; clear hr)
  refine leaves_cons (f := 92) (args := #[.pointer (some ⟨w.heap.size, 0, none⟩)]) (by simp) (by simp [go_sem]) ?_
  refine (catchF_idle w.heap.size _).mono ?_
  rintro e u' w'' ⟨rfl, rfl, rfl⟩
  refine ⟨_, results_tmp rfl _ _ _, ?_⟩
  exact ⟨v, rfl, HR.out⟩
theorem runF_bad (K : Nat) (cap : Array Value) (r : Nat) (w : World) (R : World → Prop) (hK : ∀ args w, (callFunc K args).run Tryd.prog w = .ok (.enter K args) w)
    (hread : Calls Tryd.prog K (#[.pointer (some ⟨w.heap.size + 1, 0, none⟩)] ++ cap) (runBox w r) fun e w' => e = .panicked [{ v := stopV r, recovered := false }] ∧ R w')
    (hq : ∀ a, R a → a.cell? ⟨w.heap.size, 0, none⟩ = some (.pointer (some ⟨r, 0, none⟩))) (hR : ∀ a b, R a → Below a.heap.size a b → R b) :
    Calls Tryd.prog 81 #[.pointer (some ⟨r, 0, none⟩), .func (.func K) #[] cap] w fun e w' => e = .returned (.slice none 0 0) ∧ R w' := by
  have hmf : ∀ (fn : Fn) (first cap : Array Value) (w : World), (Instr.makeFunc fn first cap).run Tryd.prog w = .ok (.func fn first cap) w := fun _ _ _ _ => rfl
  go_enter_defers Tryd.func81, Tryd.ntmps81
  go_wp2_with (refine hread.mono ?_; rintro e w1 ⟨rfl, hr⟩; have HR := Lib.hid hr; clear hr)
  refine leaves_cons (f := 92) (args := #[.pointer (some ⟨w.heap.size, 0, none⟩)]) (by simp) (by simp [go_sem]) ?_
  refine (catchF_stop w.heap.size r [] _ (hq _ HR.out)).mono ?_
  rintro e u' w'' ⟨rfl, rfl, hb⟩
  exact ⟨_, results_tmp rfl _ _ _, rfl, hR _ _ HR.out hb⟩
theorem enter_rest (args : Array Value) (w : World) : (callFunc 69 args).run Tryd.prog w = .ok (.enter 69 args) w := by kernel_rfl
end Go.Proofs.YtbllilokcalbcaaDoor
/- Take: what it answers, whatever reads. -/
namespace Go.Proofs.YtbllilokcalbcaaDoor
open Go Go.RowKit
/-- all that stood before stands, but for the blocks of S -/
structure Kpt (S : Nat → Prop) (w w' : World) : Prop where
  os : w'.os = w.os
  tape : w'.tape = w.tape
  output : w'.output = w.output
  size : w.heap.size ≤ w'.heap.size
  block : ∀ b, b < w.heap.size → ¬ S b → w'.heap[b]? = w.heap[b]?
theorem Kpt.of_below {S : Nat → Prop} {w w' : World} (h : Below w.heap.size w w') : Kpt S w w' := ⟨h.os, h.tape, h.output, h.size, fun b hb _ => h.block b hb⟩
theorem Kpt.of_grown {S : Nat → Prop} {w w' : World} {r : Nat} (h : w.grownBy w' (some r)) (hr : S r) : Kpt S w w' := ⟨h.os, h.tape, h.output, h.size, fun b hb hs => h.block b hb (fun e => by injection e with e; subst e; exact hs hr)⟩
theorem Kpt.trans {S : Nat → Prop} {a b c : World} (h : Kpt S a b) (k : Kpt S b c) : Kpt S a c := ⟨k.os.trans h.os, k.tape.trans h.tape, k.output.trans h.output, Nat.le_trans h.size k.size, fun x hx hs => (k.block x (Nat.lt_of_lt_of_le hx h.size) hs).trans (h.block x hx hs)⟩
theorem Kpt.below {w w' : World} (h : Kpt (fun _ => False) w w') : Below w.heap.size w w' := ⟨h.os, h.tape, h.output, h.size, fun b hb => h.block b hb (fun h => h)⟩
/-- what has come to be since may turn -/
theorem Kpt.old {S T : Nat → Prop} {a b c : World} (h : Kpt S a b) (k : Kpt T b c) (hT : ∀ x, T x → x < a.heap.size → S x) : Kpt S a c :=
  ⟨k.os.trans h.os, k.tape.trans h.tape, k.output.trans h.output, Nat.le_trans h.size k.size, fun x hx hs => (k.block x (Nat.lt_of_lt_of_le hx h.size) (fun ht => hs (hT x ht hx))).trans (h.block x hx hs)⟩
theorem Kpt.blk {S : Nat → Prop} {w w' : World} (h : Kpt S w w') {g : Nat} {t : TypeId} {cs : Array Value} (hg : Blk w g t cs) (hs : ¬ S g) : Blk w' g t cs := (h.block g hg.lt hs).trans hg
theorem Kpt.cell {S : Nat → Prop} {w w' : World} (h : Kpt S w w') {p : Addr} {v : Value} (hp : w.cell? p = some v) (hs : ¬ S p.block) : w'.cell? p = some v := (World.cell?_of_block (h.block p.block (block_lt_of_cell hp) hs)).trans hp
theorem rdg_info : (Tryd.prog.info? 139).map (·.size) = some 4 := by kernel_rfl
/-- the world in which run is called: the reading, Take's variable -/
abbrev takeBox (w : World) (v : Value) : World := (w.alloc (.cells #[v, .bool true, .bool false, .nilIface] 139)).alloc (.cells #[.pointer (some ⟨w.heap.size, 0, none⟩)] 137)
theorem takeBox_size (w : World) (v : Value) : (takeBox w v).heap.size = w.heap.size + 2 := by simp
theorem runBox_size (w : World) (r : Nat) : (runBox w r).heap.size = w.heap.size + 2 := by simp
theorem below_takeRun (w : World) (v : Value) : Below w.heap.size w (runBox (takeBox w v) w.heap.size) :=
  ((((Below.refl _ _).alloc (Nat.le_refl _) _).alloc (by simp) _).alloc (by simp <;> omega) _).alloc (by simp <;> omega) _
theorem inAt_run {w0 w : World} {v : Value} {xs : List Nat} (hw : Below w0.heap.size w0 w) (hv : Rd w0 v xs) : InAt w0 (runBox (takeBox w v) w.heap.size) ((takeBox w v).heap.size + 1) w.heap.size xs := by
  refine ⟨v, ⟨?_, ?_, ?_⟩, hv, below_then hw (below_takeRun w v), hw.size, ?_⟩
  · have h := Blk.new ((takeBox w v).alloc (.cells #[.pointer (some ⟨w.heap.size, 0, none⟩)] 137)) 145 #[.pointer (some ⟨w.heap.size, 0, none⟩)]
    rwa [show ((takeBox w v).alloc (.cells #[.pointer (some ⟨w.heap.size, 0, none⟩)] 137)).heap.size = (takeBox w v).heap.size + 1 by simp] at h
  · exact (((Blk.new w _ _).alloc _).alloc _).alloc _
  · rw [takeBox_size]; omega
  · rw [takeBox_size]; have := hw.size; omega
theorem var_run (w : World) (v : Value) : Blk (runBox (takeBox w v) w.heap.size) (w.heap.size + 1) 137 #[.pointer (some ⟨w.heap.size, 0, none⟩)] := by
  have h := Blk.new (w.alloc (.cells #[v, .bool true, .bool false, .nilIface] 139)) 137 #[.pointer (some ⟨w.heap.size, 0, none⟩)]
  rw [show (w.alloc (.cells #[v, .bool true, .bool false, .nilIface] 139)).heap.size = w.heap.size + 1 by simp] at h
  exact (h.alloc _).alloc _
theorem var_run2 (w : World) (v : Value) : Blk (runBox (takeBox w v) w.heap.size) (w.heap.size + 2) 137 #[.pointer (some ⟨w.heap.size, 0, none⟩)] := by
  have h := Blk.new (takeBox w v) 137 #[.pointer (some ⟨w.heap.size, 0, none⟩)]
  rw [takeBox_size] at h
  exact h.alloc _
theorem closeF_any (q r : Nat) (v0 v1 v2 v3 : Value) (w : World) (hq : w.cell? ⟨q, 0, none⟩ = some (.pointer (some ⟨r, 0, none⟩))) (hr : Blk w r 139 #[v0, v1, v2, v3]) :
    CallsD Tryd.prog 80 #[.pointer (some ⟨q, 0, none⟩)] .returning w fun e u' w' => u' = .returning ∧ (e = .returned (.tuple #[]) ∧ w.grownBy w' (some r)) := by
  have HG : Hid (w.grownBy ((((w.setCell ⟨r, 0, none⟩ (.slice none 0 0)).setCell ⟨r, 1, none⟩ (.bool false)).setCell ⟨r, 2, none⟩ (.bool false)).setCell ⟨r, 3, none⟩ .nilIface) (some r)) := Lib.hid (only_setCell (p := ⟨r, 3, none⟩) (only_setCell (p := ⟨r, 2, none⟩) (only_setCell (p := ⟨r, 1, none⟩) (only_setCell (p := ⟨r, 0, none⟩) (World.grownBy.refl w (some r)) (Or.inl rfl) _) (Or.inl rfl) _) (Or.inl rfl) _) (Or.inl rfl) _)
  have c0 : w.cell? ⟨r, 0, none⟩ = some v0 := hr.cell 0
  have c1 : w.cell? ⟨r, 1, none⟩ = some v1 := hr.cell 1
  have c2 : w.cell? ⟨r, 2, none⟩ = some v2 := hr.cell 2
  have c3 : w.cell? ⟨r, 3, none⟩ = some v3 := hr.cell 3
  have z0 := hr.frozen 0
  have z1 := hr.frozen 1
  have z2 := hr.frozen 2
  have z3 := hr.frozen 3
  clear hr
  go_enter_d Tryd.func80, Tryd.ntmps80
  go_wp2
  go_end0
  exact ⟨rfl, HG.out⟩
end Go.Proofs.YtbllilokcalbcaaDoor
/- Take, whatever reads: what it answers. -/
namespace Go.Proofs.YtbllilokcalbcaaDoor
open Go Go.RowKit
/-- What Take is told of a function that reads: it goes on to zs. -/
def ReadsTo (K : Nat) (cap : Array Value) (S : Nat → Prop) (w0 w : World) (xs zs : List Nat) (R : Nat → Value → World → Prop) : Prop :=
  ∀ (w2 : World) (i r : Nat), w.heap.size ≤ r → w.heap.size ≤ i → InAt w0 w2 i r xs → Below w.heap.size w w2 →
    Calls Tryd.prog K (#[.pointer (some ⟨i, 0, none⟩)] ++ cap) w2 fun e w' => ∃ u, e = .returned u ∧ InAt w0 w' i r zs ∧ Kpt (fun b => b = r ∨ S b) w2 w' ∧ R r u w'
/-- .. it ends by an error. -/
def ReadsBad (K : Nat) (cap : Array Value) (S : Nat → Prop) (w0 w : World) (xs : List Nat) (ae : Addr) : Prop :=
  ∀ (w2 : World) (i r : Nat), w.heap.size ≤ r → w.heap.size ≤ i → InAt w0 w2 i r xs → Below w.heap.size w w2 →
    Calls Tryd.prog K (#[.pointer (some ⟨i, 0, none⟩)] ++ cap) w2 fun e w' => e = .panicked [{ v := stopV r, recovered := false }] ∧ Dead w' r (ev ae) ∧ Kpt (fun b => b = r ∨ S b) w2 w'
section
variable {S : Nat → Prop} {w0 w w1 w2 : World} {v : Value}
theorem kpt_end (h1 : Kpt (fun b => b = w.heap.size ∨ S b) (runBox (takeBox w v) w.heap.size) w1) (h2 : w1.grownBy w2 (some w.heap.size)) : Kpt S w w2 :=
  Kpt.old (Kpt.of_below (below_takeRun w v)) (Kpt.trans h1 (Kpt.of_grown h2 (Or.inl rfl))) fun x hx hl => hx.elim (fun e => by omega) id
theorem kpt_var (hS : ∀ b, S b → b < w.heap.size) (h1 : Kpt (fun b => b = w.heap.size ∨ S b) (runBox (takeBox w v) w.heap.size) w1) : w1.cell? ⟨w.heap.size + 1, 0, none⟩ = some (.pointer (some ⟨w.heap.size, 0, none⟩)) :=
  (h1.blk (var_run w v) (fun e => by rcases e with e | e; omega; have := hS _ e; omega)).cell 0
theorem kpt_var2 (hS : ∀ b, S b → b < w.heap.size) (h1 : Kpt (fun b => b = w.heap.size ∨ S b) (runBox (takeBox w v) w.heap.size) w1) : w1.cell? ⟨(takeBox w v).heap.size, 0, none⟩ = some (.pointer (some ⟨w.heap.size, 0, none⟩)) := by
  rw [takeBox_size]
  exact (h1.blk (var_run2 w v) (fun e => by rcases e with e | e; omega; have := hS _ e; omega)).cell 0
end
set_option maxRecDepth 100000 in
theorem takeF_ok (K : Nat) (cap : Array Value) (S : Nat → Prop) (w0 w : World) (A : Option Addr) (n c : Nat) (xs : List Nat) (R : Nat → Value → World → Prop) (hK : ∀ args w, (callFunc K args).run Tryd.prog w = .ok (.enter K args) w)
    (hw : Below w0.heap.size w0 w) (hv : Rd w0 (.slice A n c) xs) (hS : ∀ b, S b → b < w.heap.size) (hread : ReadsTo K cap S w0 w xs [] R) (hR : ∀ r u a b, R r u a → a.grownBy b (some r) → R r u b) :
    Calls Tryd.prog 68 #[.slice A n c, .func (.func K) #[] cap] w fun e w' => ∃ u r, e = .returned (.tuple #[u, .nilIface]) ∧ w.heap.size ≤ r ∧ R r u w' ∧ Kpt S w w' := by
  have hmf : ∀ (fn : Fn) (first cap : Array Value) (w : World), (Instr.makeFunc fn first cap).run Tryd.prog w = .ok (.func fn first cap) w := fun _ _ _ _ => rfl
  have CR := runF_ok K cap w.heap.size (takeBox w (.slice A n c)) (fun u w' => InAt w0 w' ((takeBox w (.slice A n c)).heap.size + 1) w.heap.size [] ∧ Kpt (fun b => b = w.heap.size ∨ S b) (runBox (takeBox w (.slice A n c)) w.heap.size) w' ∧ R w.heap.size u w') hK (hread _ _ _ (Nat.le_refl _) (by rw [takeBox_size]; omega) (inAt_run hw hv) (below_takeRun w _))
  have HS := Lib.hid hS
  have HRR := Lib.hid hR
  clear hread hS hR
  go_enter_defers Tryd.func68, Tryd.ntmps68
  go_wp2_with (go_at_call 81; refine CR.mono ?_; rintro e w1 ⟨u, rfl, hi, hk, hr⟩; have p0 : w1.cell? ⟨w.heap.size + 1, 0, none⟩ = some (.pointer (some ⟨w.heap.size, 0, none⟩)) := kpt_var HS.out hk; obtain ⟨vz, hz, ⟨Az, cz, rfl, _, _⟩, _⟩ := hi; have p1 : w1.cell? ⟨w.heap.size, 2, none⟩ = some (.bool false) := hz.r_.cell 2; have p2 : w1.cell? ⟨w.heap.size, 0, none⟩ = some (.slice Az 0 cz) := hz.r_.cell 0; have HZ := Lib.hid hz.r_; have HK := Lib.hid hk; have HR := Lib.hid hr; clear hz hk hr CR)
  refine leaves_cons (f := 80) (args := #[.pointer (some ⟨w.heap.size + 1, 0, none⟩)]) (by simp) (by simp [go_sem]) ?_
  refine (closeF_any (w.heap.size + 1) w.heap.size _ _ _ _ _ p0 HZ.out).mono ?_
  rintro e u' w'' ⟨rfl, rfl, hg⟩
  refine ⟨_, results_tmp2 rfl _ _ _, ?_⟩
  exact ⟨u, w.heap.size, rfl, Nat.le_refl _, HRR.out _ _ _ _ HR.out hg, kpt_end HK.out hg⟩
set_option maxRecDepth 100000 in
theorem takeF_long (K : Nat) (cap : Array Value) (S : Nat → Prop) (w0 w : World) (A : Option Addr) (n c : Nat) (xs zs : List Nat) (aL : Addr) (hK : ∀ args w, (callFunc K args).run Tryd.prog w = .ok (.enter K args) w)
    (hw : Below w0.heap.size w0 w) (hv : Rd w0 (.slice A n c) xs) (hS : ∀ b, S b → b < w.heap.size) (hread : ReadsTo K cap S w0 w xs zs (fun _ _ _ => True)) (hz0 : 0 < zs.length) (hL : w0.cell? ⟨5, 0, none⟩ = some (ev aL)) :
    Calls Tryd.prog 68 #[.slice A n c, .func (.func K) #[] cap] w fun e w' => e = .returned (.tuple #[.slice none 0 0, ev aL]) ∧ Kpt S w w' := by
  have hmf : ∀ (fn : Fn) (first cap : Array Value) (w : World), (Instr.makeFunc fn first cap).run Tryd.prog w = .ok (.func fn first cap) w := fun _ _ _ _ => rfl
  have CR := runF_ok K cap w.heap.size (takeBox w (.slice A n c)) (fun u w' => InAt w0 w' ((takeBox w (.slice A n c)).heap.size + 1) w.heap.size zs ∧ Kpt (fun b => b = w.heap.size ∨ S b) (runBox (takeBox w (.slice A n c)) w.heap.size) w' ∧ True) hK (hread _ _ _ (Nat.le_refl _) (by rw [takeBox_size]; omega) (inAt_run hw hv) (below_takeRun w _))
  have HS := Lib.hid hS
  have i0 : (0 : Int) < (zs.length : Int) := by omega
  clear hread hS
  go_enter_defers Tryd.func68, Tryd.ntmps68
  go_wp2_with (go_at_call 81; refine CR.mono ?_; rintro e w1 ⟨u, rfl, hi, hk, _⟩; have p0 : w1.cell? ⟨w.heap.size + 1, 0, none⟩ = some (.pointer (some ⟨w.heap.size, 0, none⟩)) := kpt_var HS.out hk; have p3 : w1.cell? ⟨5, 0, none⟩ = some (ev aL) := (hi.bel.1.cell (block_lt_of_cell hL)).trans hL; obtain ⟨vz, hz, ⟨Az, cz, rfl, _, _⟩, _⟩ := hi; have p1 : w1.cell? ⟨w.heap.size, 2, none⟩ = some (.bool false) := hz.r_.cell 2; have p2 : w1.cell? ⟨w.heap.size, 0, none⟩ = some (.slice Az zs.length cz) := hz.r_.cell 0; have HZ := Lib.hid hz.r_; have HK := Lib.hid hk; clear hz hk CR)
  go_quiet (fail)
  go_wp2
  refine leaves_cons (f := 80) (args := #[.pointer (some ⟨w.heap.size + 1, 0, none⟩)]) (by simp) (by simp [go_sem]) ?_
  refine (closeF_any (w.heap.size + 1) w.heap.size _ _ _ _ (w1.drewN nq) p0 (HZ.out.drewN nq)).mono ?_
  rintro e u' w'' ⟨rfl, rfl, hg⟩
  refine ⟨_, results_tmp2 rfl _ _ _, ?_⟩
  exact ⟨rfl, kpt_end (HK.out.trans (Kpt.of_below (below_drewN (Below.refl _ _) nq))) hg⟩
set_option maxRecDepth 100000 in
theorem takeF_bad (K : Nat) (cap : Array Value) (S : Nat → Prop) (w0 w : World) (A : Option Addr) (n c : Nat) (xs : List Nat) (ae : Addr) (hK : ∀ args w, (callFunc K args).run Tryd.prog w = .ok (.enter K args) w)
    (hw : Below w0.heap.size w0 w) (hv : Rd w0 (.slice A n c) xs) (hS : ∀ b, S b → b < w.heap.size) (hread : ReadsBad K cap S w0 w xs ae) :
    Calls Tryd.prog 68 #[.slice A n c, .func (.func K) #[] cap] w fun e w' => e = .returned (.tuple #[.slice none 0 0, ev ae]) ∧ Kpt S w w' := by
  have hmf : ∀ (fn : Fn) (first cap : Array Value) (w : World), (Instr.makeFunc fn first cap).run Tryd.prog w = .ok (.func fn first cap) w := fun _ _ _ _ => rfl
  have CR := runF_bad K cap w.heap.size (takeBox w (.slice A n c)) (fun w' => Dead w' w.heap.size (ev ae) ∧ Kpt (fun b => b = w.heap.size ∨ S b) (runBox (takeBox w (.slice A n c)) w.heap.size) w') hK (hread _ _ _ (Nat.le_refl _) (by rw [takeBox_size]; omega) (inAt_run hw hv) (below_takeRun w _)) (fun a h => kpt_var2 hS h.2) (fun a b h k => ⟨h.1.grown k, h.2.trans (Kpt.of_below k)⟩)
  have HS := Lib.hid hS
  clear hread hS
  go_enter_defers Tryd.func68, Tryd.ntmps68
  go_wp2_with (go_at_call 81; refine CR.mono ?_; rintro e w1 ⟨rfl, hd, hk⟩; have p0 : w1.cell? ⟨w.heap.size + 1, 0, none⟩ = some (.pointer (some ⟨w.heap.size, 0, none⟩)) := kpt_var HS.out hk; obtain ⟨vd, hd⟩ := hd; have p1 : w1.cell? ⟨w.heap.size, 2, none⟩ = some (.bool true) := hd.cell 2; have p2 : w1.cell? ⟨w.heap.size, 3, none⟩ = some (ev ae) := hd.cell 3; have HZ := Lib.hid hd; have HK := Lib.hid hk; clear hd hk CR)
  go_quiet (fail)
  go_wp2
  refine leaves_cons (f := 80) (args := #[.pointer (some ⟨w.heap.size + 1, 0, none⟩)]) (by simp) (by simp [go_sem]) ?_
  refine (closeF_any (w.heap.size + 1) w.heap.size _ _ _ _ (w1.drewN nq) p0 (HZ.out.drewN nq)).mono ?_
  rintro e u' w'' ⟨rfl, rfl, hg⟩
  refine ⟨_, results_tmp2 rfl _ _ _, ?_⟩
  exact ⟨rfl, kpt_end (HK.out.trans (Kpt.of_below (below_drewN (Below.refl _ _) nq))) hg⟩
end Go.Proofs.YtbllilokcalbcaaDoor
/- The functions that Read and Rest hand to Take. -/
namespace Go.Proofs.YtbllilokcalbcaaDoor
open Go Go.RowKit
/-- A field whose bytes lie outside the blocks of S. -/
structure FR (S : Nat → Prop) (w : World) (f : Fld) : Prop where
  rd : Rd w (.slice f.A f.l f.c) f.bs
  len : f.bs.length = f.l
  own : 0 < f.l → ∃ g, f.A = some ⟨g, 0, none⟩ ∧ ¬ S g ∧ g < w.heap.size
theorem Rd.kpt {S : Nat → Prop} {w w' : World} {g n c : Nat} {xs : List Nat} (h : Rd w (.slice (some ⟨g, 0, none⟩) n c) xs) (k : Kpt S w w') (hg : ¬ S g) : Rd w' (.slice (some ⟨g, 0, none⟩) n c) xs := by
  obtain ⟨A, c', hv, hc, hA⟩ := h
  injection hv with e1 e2 e3
  subst e1 e2 e3
  refine ⟨_, _, rfl, hc, fun h0 => ?_⟩
  obtain ⟨b, o, ha, hb, hx⟩ := hA h0
  injection ha with ha
  injection ha with e4 e5
  subst e4 e5
  exact ⟨_, _, rfl, Nat.lt_of_lt_of_le hb k.size, fun i hi => k.cell (hx i hi) hg⟩
theorem Rd.nil {w : World} {A : Option Addr} {c : Nat} (xs : List Nat) (h : xs = []) : Rd w (.slice A 0 c) xs := by subst h; exact ⟨A, c, rfl, Nat.zero_le _, fun h => absurd h (by simp)⟩
theorem FR.step {S : Nat → Prop} {w w' : World} {f : Fld} (h : FR S w f) (k : Kpt S w w') : FR S w' f := by
  refine ⟨?_, h.len, fun h0 => ?_⟩
  · have hl := h.len
    have hr := h.rd
    have ho := h.own
    obtain ⟨n, A, l, c, bs⟩ := f
    dsimp only at hl hr ho ⊢
    rcases Nat.eq_zero_or_pos l with rfl | h0
    · exact Rd.nil bs (List.eq_nil_of_length_eq_zero hl)
    · obtain ⟨g, rfl, hg, _⟩ := ho h0
      exact hr.kpt k hg
  · obtain ⟨g, e, hg, hlt⟩ := h.own h0
    exact ⟨g, e, hg, Nat.lt_of_lt_of_le hlt k.size⟩
theorem FOwn.fr {S : Nat → Prop} {B : Nat} {w : World} {f : Fld} (h : FOwn B w f) (hS : ∀ b, S b → b < B) : FR S w f :=
  ⟨h.rd, h.len, fun h0 => by
    obtain ⟨g, cs, t, e1, e2, hB, _⟩ := h.own h0
    exact ⟨g, e1, fun e => by have := hS g e; omega, hB.lt⟩⟩
/-- Fields as they are handed back, outside the blocks of S. -/
structure Fin' (w : World) (S : Nat → Prop) (u : Value) (fs : List Fld) : Prop where
  out : ∃ A b c, u = .slice A fs.length c ∧ (0 < fs.length → A = some ⟨b, 0, none⟩ ∧ ¬ S b ∧ b < w.heap.size ∧ ∀ j v, (cellsF fs)[j]? = some v → w.cell? ⟨b, j, none⟩ = some v)
  fld : ∀ f ∈ fs, FR S w f
theorem Fin'.step {S : Nat → Prop} {w w' : World} {u : Value} {fs : List Fld} (h : Fin' w S u fs) (k : Kpt S w w') : Fin' w' S u fs := by
  obtain ⟨A, b, c, hu, h2⟩ := h.out
  refine ⟨⟨A, b, c, hu, fun h0 => ?_⟩, fun f hf => (h.fld f hf).step k⟩
  obtain ⟨e1, e2, e3, e4⟩ := h2 h0
  exact ⟨e1, e2, Nat.lt_of_lt_of_le e3 k.size, fun j v hj => k.cell (e4 j v hj) e2⟩
theorem Fin'.row {S : Nat → Prop} {w : World} {u : Value} {fs : List Fld} (h : Fin' w S u fs) (h0 : 0 < w.heap.size) : ∃ A b c, u = .slice A fs.length c ∧ (0 < fs.length → A = some ⟨b, 0, none⟩) ∧ FRow w b 0 fs := by
  obtain ⟨A, b, c, hu, h2⟩ := h.out
  rcases Nat.eq_zero_or_pos fs.length with hz | hz
  · have e := List.eq_nil_of_length_eq_zero hz
    subst e
    exact ⟨A, 0, c, hu, fun h => absurd h (by simp), ⟨fun i hi => absurd hi (by simp), fun i hi => absurd hi (by simp), fun f hf => (by cases hf), h0⟩⟩
  · obtain ⟨e1, e2, e3, e4⟩ := h2 hz
    exact ⟨A, b, c, hu, fun _ => e1, ⟨fun i hi => by rw [Nat.zero_add]; exact e4 _ _ (cellsF_get hi).1, fun i hi => by rw [Nat.zero_add]; exact e4 _ _ (cellsF_get hi).2, fun f hf => ⟨(h.fld f hf).rd, (h.fld f hf).len⟩, e3⟩⟩
theorem FX.fin {w0 wf w : World} {i r k : Nat} {v : Value} {fs : List Fld} {ys : List Nat} (h : FX w0 wf w i r v k fs ys) (hk : fs.length = k) {S : Nat → Prop} (hS : ∀ b, S b → b < wf.heap.size) : Fin' w S v fs := by
  subst hk
  refine ⟨?_, fun f hf => (h.fld f hf).fr hS⟩
  have hrow := h.row
  rcases h.row.2 with ⟨rfl, h0⟩ | ⟨g, cap, cur, rfl, hb, hh, _⟩
  · exact ⟨none, 0, 0, by rw [h0], fun h => by omega⟩
  · refine ⟨_, g, cap, rfl, fun _ => ⟨rfl, fun e => ?_, (Array.getElem?_eq_some_iff.1 hh).1, fun j v hj => ?_⟩⟩
    · have := hS g e; omega
    · have hj2 : j < (cellsF fs).length := (List.getElem?_eq_some_iff.1 hj).1
      rw [cellsF_len] at hj2
      rw [hrow.cellAt j (by omega)]
      exact hj
def RF (l : List (Nat × List Nat)) (r : Nat) (u : Value) (w : World) : Prop := ∃ fs, fs.map Oc.says = l.map Oc.lays ∧ Fin' w (· = r) u fs
theorem RF.step {l : List (Nat × List Nat)} (r : Nat) (u : Value) (a b : World) (h : RF l r u a) (k : a.grownBy b (some r)) : RF l r u b := by
  obtain ⟨fs, h1, h2⟩ := h
  exact ⟨fs, h1, h2.step (Kpt.of_grown k rfl)⟩
theorem says_len {fs : List Fld} {l : List (Nat × List Nat)} (h : fs.map Oc.says = l.map Oc.lays) : fs.length = l.length := by simpa using congrArg List.length h
section
variable (s : ByteArray) (xs : List Nat) (a : Nat → Addr) (sh : Nat) (w0 w : World)
end
end Go.Proofs.YtbllilokcalbcaaDoor
/- The function that Rest hands to Take. -/
namespace Go.Proofs.YtbllilokcalbcaaDoor
open Go Go.RowKit
/-- What Rest's function leaves: the fields, and in block q what is left. -/
def RR (l : List (Nat × List Nat)) (ys : List Nat) (q : Nat) (r : Nat) (u : Value) (w : World) : Prop :=
  ∃ fs A c, fs.map Oc.says = l.map Oc.lays ∧ Fin' w (fun b => b = r ∨ b = q) u fs ∧ w.cell? ⟨q, 0, none⟩ = some (.slice A ys.length c) ∧ FR (fun b => b = r ∨ b = q) w ⟨0, A, ys.length, c, ys⟩ ∧ q ≠ r
theorem RR.step {l : List (Nat × List Nat)} {ys : List Nat} {q : Nat} (r : Nat) (u : Value) (a b : World) (h : RR l ys q r u a) (k : a.grownBy b (some r)) : RR l ys q r u b := by
  obtain ⟨fs, A, c, h1, h2, h3, h4, h5⟩ := h
  have hk : Kpt (fun b => b = r ∨ b = q) a b := Kpt.of_grown k (Or.inl rfl)
  exact ⟨fs, A, c, h1, h2.step hk, k.cell h3 (fun e => h5 (by injection e)), h4.step hk, h5⟩
section
variable (s : ByteArray) (xs : List Nat) (a : Nat → Addr) (sh q : Nat) (w0 w : World)
theorem rest_ok (hs : s.size ≤ 1000) (hb : Oc.bytes xs) (hl : xs.length ≤ 1099511627776) (hS : OSents w0 a) (hsh : w.cell? ⟨sh, 0, none⟩ = some (.string s)) (hq : Blk w q 39 #[.slice none 0 0]) (hq0 : w0.heap.size ≤ q) (hk : Oc.known s.data.toList = true) (l : List (Nat × List Nat)) (p : Nat) (h : Oc.reads (shN s) xs = .ok l p) :
    ReadsTo 69 #[.pointer (some ⟨sh, 0, none⟩), .pointer (some ⟨q, 0, none⟩)] (fun b => b = q) w0 w xs [] (RR l (xs.drop p) q) := by
  intro w2 i r hr hri hi hbel
  change Calls Tryd.prog 69 #[.pointer (some ⟨i, 0, none⟩), .pointer (some ⟨sh, 0, none⟩), .pointer (some ⟨q, 0, none⟩)] w2 _
  have p1 : w2.cell? ⟨sh, 0, none⟩ = some (.string s) := (hbel.cell (block_lt_of_cell hsh)).trans hsh
  have CF := fields_any s i r xs a w0 w2 hi hs hb hS
  have H := Lib.hid (And.intro hk h)
  have HQ := Lib.hid (hq.below hbel hq.lt)
  have HQR : Hid (q ≠ r ∧ q < w2.heap.size ∧ r < w2.heap.size) := Lib.hid ⟨by have := hq.lt; omega, (hq.below hbel hq.lt).lt, hi.lt⟩
  have HQI : Hid (i ≠ q) := Lib.hid (by have := hq.lt; omega)
  have HLL : Hid ((xs.drop p).length ≤ 1099511627776) := Lib.hid (by rw [List.length_drop]; omega)
  clear hk h hi hb hS hsh hq
  obtain ⟨ys, hys⟩ : ∃ ys, ys = xs.drop p := ⟨_, rfl⟩
  rw [← hys] at HLL ⊢
  have HYS := Lib.hid hys
  have HT : Hid (ys.take ys.length = ys ∧ ys.drop ys.length = []) := Lib.hid ⟨List.take_length, List.drop_length⟩
  clear hys
  go_enter Tryd.func69, Tryd.ntmps69
  go_wp2_with (first
    | (go_at_call 70; refine CF.mono ?_; rintro e w3 ⟨_, _, hf⟩; obtain ⟨v, fs, rfl, hsy, hx⟩ := hf H.out.1 _ _ H.out.2; rw [← HYS.out] at hx; have HX := Lib.hid hx; have HSY := Lib.hid hsy; have CL := left_any i r ys w0 w3 hx.at_; have CN := next_ok i r ys.length ys w0 w3 hx.at_ (Nat.le_refl _); rw [HT.out.1, HT.out.2] at CN; clear hx hsy hf CF)
    | (go_at_call 72; refine CL.mono ?_; rintro e w' ⟨rfl, rfl⟩; clear CL)
    | (go_at_call 71; refine CN.mono ?_; rintro e w4 ⟨v4, rfl, hv, hi, hg⟩; have HI := Lib.hid hi; have HG := Lib.hid hg; have CC := clone_any v4 ys w4 (hv.below hi.bel.1 (Nat.le_refl _)) HLL.out; clear hg hi hv CN)
    | (go_at_call 31; refine CC.mono ?_; rintro e w5 ⟨A, c, rfl, hrd, hn, hbl⟩; have HR5 := Lib.hid hrd; have HN5 := Lib.hid hn; have HB5 := Lib.hid hbl; have HQ5 : Hid (Blk w5 q 39 #[.slice none 0 0]) := Lib.hid (((HQ.out.grown HX.out.grw (fun e => HQR.out.1 (by injection e))).grown HG.out (fun e => HQR.out.1 (by injection e))).below hbl (Nat.lt_of_lt_of_le (Nat.lt_of_lt_of_le HQR.out.2.1 HX.out.grw.size) HG.out.size)); have p5 : w5.cell? ⟨q, 0, none⟩ = some (.slice none 0 0) := HQ5.out.cell 0; have z5 := HQ5.out.frozen 0; clear hrd hn hbl CC))
  go_ret
  have k3 : Kpt (fun b => b = r ∨ b = q) w2 w3 := Kpt.of_grown HX.out.grw (Or.inl rfl)
  have k4 : Kpt (fun b => b = r ∨ b = q) w3 w4 := Kpt.of_grown HG.out (Or.inl rfl)
  have k5 : Kpt (fun b => b = r ∨ b = q) w4 w5 := Kpt.of_below HB5.out
  have hg6 : w5.grownBy (w5.setCell ⟨q, 0, none⟩ (.slice A ys.length c)) (some q) := only_setCell (p := ⟨q, 0, none⟩) (World.grownBy.refl w5 (some q)) (Or.inl rfl) _
  have k6 : Kpt (fun b => b = r ∨ b = q) w5 (w5.setCell ⟨q, 0, none⟩ (.slice A ys.length c)) := Kpt.of_grown hg6 (Or.inr rfl)
  have hsz : fs.length = s.size := by rw [says_len HSY.out, Oc.reads_len H.out.2, shN_len]
  have hf3 := HX.out.fin hsz (S := fun b => b = r ∨ b = q) (fun b e => by rcases e with e | e; rw [e]; exact HQR.out.2.2; rw [e]; exact HQR.out.2.1)
  refine ⟨v, rfl, ?_, (k3.trans (k4.trans (k5.trans k6))), fs, A, c, HSY.out, ((hf3.step k4).step k5).step k6, ?_, ?_, HQR.out.1⟩
  · obtain ⟨v', k, hr', hw, h1, h2⟩ := HI.out.below HB5.out
    have hqi := HQI.out
    exact ⟨v', ⟨k.i_.far hqi _, k.r_.far (fun e => HQR.out.1 e.symm) _, k.ne⟩, hr', below_of_only hw hg6 hq0, h1, h2⟩
  · exact (HQ5.out.set_ 0 _).cell 0
  · refine FR.step ⟨HR5.out, rfl, fun h0 => ?_⟩ k6
    obtain ⟨g, cs, e1, e2, e3⟩ := HN5.out h0
    have z1 := HX.out.grw.size
    have z2 := HG.out.size
    have z3 := HQR.out
    exact ⟨g, e1, fun e => by rcases e with e | e <;> omega, e3.lt⟩
end
end Go.Proofs.YtbllilokcalbcaaDoor
/- octets.Read and octets.Rest. -/
namespace Go.Proofs.YtbllilokcalbcaaDoor
open Go Go.RowKit
theorem below_of_kpt {S : Nat → Prop} {a b c : World} (h : Below a.heap.size a b) (k : Kpt S b c) (hS : ∀ x, S x → a.heap.size ≤ x) : Below a.heap.size a c :=
  ⟨k.os.trans h.os, k.tape.trans h.tape, k.output.trans h.output, Nat.le_trans h.size k.size, fun x hx => (k.block x (Nat.lt_of_lt_of_le hx h.size) (fun e => by have := hS x e; omega)).trans (h.block x hx)⟩
section
variable (s : ByteArray) (xs : List Nat) (a : Nat → Addr) (A : Option Addr) (n c : Nat) (w : World)
abbrev shBox (w : World) (s : ByteArray) : World := w.alloc (.cells #[.string s] 9)
abbrev restBox (w : World) (s : ByteArray) : World := (shBox w s).alloc (.cells #[.slice none 0 0] 39)
theorem shBox_cell (w : World) (s : ByteArray) : (shBox w s).cell? ⟨w.heap.size, 0, none⟩ = some (.string s) := (Blk.new w 9 #[.string s]).cell 0
theorem restBox_cell (w : World) (s : ByteArray) : (restBox w s).cell? ⟨w.heap.size, 0, none⟩ = some (.string s) := ((Blk.new w 9 #[.string s]).alloc _).cell 0
theorem restBox_blk (w : World) (s : ByteArray) : Blk (restBox w s) (w.heap.size + 1) 39 #[.slice none 0 0] := by
  have h := Blk.new (shBox w s) 39 #[.slice none 0 0]
  rwa [show (shBox w s).heap.size = w.heap.size + 1 by simp] at h
theorem restBox_size (w : World) (s : ByteArray) : (restBox w s).heap.size = w.heap.size + 2 := by simp
theorem below_shBox (w : World) (s : ByteArray) : Below w.heap.size w (shBox w s) := (Below.refl _ _).alloc (Nat.le_refl _) _
theorem below_restBox (w : World) (s : ByteArray) : Below w.heap.size w (restBox w s) := (below_shBox w s).alloc (below_shBox w s).size _
set_option maxRecDepth 100000 in
theorem orest_any (hv : Rd w (.slice A n c) xs) (hs : s.size ≤ 1000) (hb : Oc.bytes xs) (hl : xs.length ≤ 1099511627776) (hS : OSents w a) (hk : Oc.known s.data.toList = true) (l : List (Nat × List Nat)) (p : Nat) (h : Oc.reads (shN s) xs = .ok l p) :
    Calls Tryd.prog 55 #[.string s, .slice A n c] w fun e w' => ∃ A1 b c1 A2 c2 fs, e = .returned (.tuple #[.slice A1 fs.length c1, .slice A2 (xs.drop p).length c2, .nilIface]) ∧ (0 < fs.length → A1 = some ⟨b, 0, none⟩) ∧ FRow w' b 0 fs ∧ fs.map Oc.says = l.map Oc.lays ∧ Rd w' (.slice A2 (xs.drop p).length c2) (xs.drop p) ∧ Below w.heap.size w w' := by
  have hmf : ∀ (fn : Fn) (first cap : Array Value) (w : World), (Instr.makeFunc fn first cap).run Tryd.prog w = .ok (.func fn first cap) w := fun _ _ _ _ => rfl
  have hrd := rest_ok s xs a w.heap.size (w.heap.size + 1) w (restBox w s) hs hb hl hS (restBox_cell w s) (restBox_blk w s) (by omega) hk l p h
  have CT := takeF_ok 69 #[.pointer (some ⟨w.heap.size, 0, none⟩), .pointer (some ⟨w.heap.size + 1, 0, none⟩)] (fun b => b = w.heap.size + 1) w (restBox w s) A n c xs (RR l (xs.drop p) (w.heap.size + 1)) enter_rest (below_restBox w s) hv (fun b h => by rw [restBox_size]; omega) hrd RR.step
  clear hrd hv hb hS hk h
  generalize xs.drop p = ys at CT ⊢
  go_enter Tryd.func55, Tryd.ntmps55
  go_wp2_with (go_at_call 68; refine CT.mono ?_; rintro e w1 ⟨u, r, rfl, hr, hf, hkp⟩; obtain ⟨fs, A2, c2, hsy, hfin, hc2, hfr, _⟩ := hf; have HB : Hid (Below w.heap.size w w1) := Lib.hid (below_of_kpt (below_restBox w s) hkp (fun _ h => by omega)); obtain ⟨A1, b, c1, rfl, hA, hrow⟩ := hfin.row (Nat.lt_of_lt_of_le (Nat.lt_of_lt_of_le (by rw [restBox_size]; omega) (Nat.le_refl (restBox w s).heap.size)) hkp.size); have HA := Lib.hid hA; have HR := Lib.hid hrow; have HSY := Lib.hid hsy; have HFR := Lib.hid hfr; clear hkp hsy hfin hA hrow CT hfr)
  go_quiet (fail)
  go_wp2
  go_ret3
  exact ⟨A1, b, c1, A2, c2, fs, rfl, HA.out, HR.out.below (below_drewN (Below.refl _ _) nq) (Nat.le_refl _), HSY.out, HFR.out.rd.below (below_drewN (Below.refl _ _) nq) (Nat.le_refl _), below_drewN HB.out nq⟩
theorem rest_bad (sh q : Nat) (w0 w : World) (hs : s.size ≤ 1000) (hb : Oc.bytes xs) (hS : OSents w0 a) (hsh : w.cell? ⟨sh, 0, none⟩ = some (.string s)) (ae : Addr) (h : ∀ w2 i r e w', FieldsPost s xs a w0 w2 i r e w' → Fails w2 r (ev ae) e w') :
    ReadsBad 69 #[.pointer (some ⟨sh, 0, none⟩), .pointer (some ⟨q, 0, none⟩)] (fun _ => False) w0 w xs ae := by
  intro w2 i r hr hri hi hbel
  change Calls Tryd.prog 69 #[.pointer (some ⟨i, 0, none⟩), .pointer (some ⟨sh, 0, none⟩), .pointer (some ⟨q, 0, none⟩)] w2 _
  have p1 : w2.cell? ⟨sh, 0, none⟩ = some (.string s) := (hbel.cell (block_lt_of_cell hsh)).trans hsh
  have CF := (fields_any s i r xs a w0 w2 hi hs hb hS).mono (h w2 i r)
  clear h hi hb hS hsh
  go_enter Tryd.func69, Tryd.ntmps69
  go_wp2_with (go_at_call 70; refine CF.mono ?_; rintro e w3 ⟨rfl, hd, hg⟩)
  exact ⟨rfl, rfl, hd, Kpt.of_grown hg (Or.inl rfl)⟩
set_option maxRecDepth 100000 in
theorem orest_bad (hv : Rd w (.slice A n c) xs) (hs : s.size ≤ 1000) (hb : Oc.bytes xs) (hS : OSents w a) (ae : Addr) (h : ∀ w2 i r e w', FieldsPost s xs a w w2 i r e w' → Fails w2 r (ev ae) e w') :
    Calls Tryd.prog 55 #[.string s, .slice A n c] w fun e w' => e = .returned (.tuple #[.slice none 0 0, .slice none 0 0, ev ae]) ∧ Below w.heap.size w w' := by
  have hmf : ∀ (fn : Fn) (first cap : Array Value) (w : World), (Instr.makeFunc fn first cap).run Tryd.prog w = .ok (.func fn first cap) w := fun _ _ _ _ => rfl
  have hrd := rest_bad s xs a w.heap.size (w.heap.size + 1) w (restBox w s) hs hb hS (restBox_cell w s) ae h
  have CT := takeF_bad 69 #[.pointer (some ⟨w.heap.size, 0, none⟩), .pointer (some ⟨w.heap.size + 1, 0, none⟩)] (fun _ => False) w (restBox w s) A n c xs ae enter_rest (below_restBox w s) hv (fun _ h => h.elim) hrd
  clear hrd hv hb hS h
  go_enter Tryd.func55, Tryd.ntmps55
  go_wp2_with (go_at_call 68; refine CT.mono ?_; rintro e w1 ⟨rfl, hkp⟩; have HB : Hid (Below w.heap.size w w1) := Lib.hid (below_of_kpt (below_restBox w s) hkp (fun _ h => h.elim)); have p1 : w1.cell? ⟨w.heap.size + 1, 0, none⟩ = some (.slice none 0 0) := (hkp.blk (restBox_blk w s) (fun h => h)).cell 0; clear hkp CT)
  go_quiet (fail)
  go_wp2
  go_ret3
  exact ⟨rfl, below_drewN HB.out nq⟩
end
end Go.Proofs.YtbllilokcalbcaaDoor
