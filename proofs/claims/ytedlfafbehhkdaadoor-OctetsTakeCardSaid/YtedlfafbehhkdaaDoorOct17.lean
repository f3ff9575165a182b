/- run: what is deferred, and run itself. -/
import Derived.Test.YtedlfafbehhkdaaDoorOct16
import Derived.Recover
import Derived.Lib.Builder
namespace Go.Proofs.YtedlfafbehhkdaaDoor
open Go Go.RowKit
theorem slots17 (x v : Value) : #[x] ++ (Array.replicate 17 undef).setIfInBounds 3 v = #[x, undef, undef, undef, v, undef, undef, undef, undef, undef, undef, undef, undef, undef, undef, undef, undef, undef] := by kernel_rfl
theorem stop_eql (r : Nat) (w : World) : (binOp .eql 20 (stopV r) .nilIface).run Tryd.prog w = .ok (.bool false) w := by kernel_rfl
theorem stop_assert (r : Nat) (w : World) : (Instr.typeAssert (stopV r) 20 88 true).run Tryd.prog w = .ok (.tuple #[.agg #[.pointer (some ⟨r, 0, none⟩)], .bool true]) w := by kernel_rfl
theorem stop_neq (r : Nat) (w : World) : (binOp .neq 67 (.pointer (some ⟨r, 0, none⟩)) (.pointer (some ⟨r, 0, none⟩))).run Tryd.prog w = .ok (.bool false) w := by
  cases h : Tryd.prog.info? 69 with
  | none =>
    have h2 : (Tryd.prog.info? 69).isSome = true := by kernel_rfl
    rw [h] at h2; cases h2
  | some j => exact Lib.run_neq_ptr_same w _ Tryd.underlying67 h
/-- the world in which the function that reads is called: run's variable, the In -/
abbrev runBox (w : World) (r : Nat) : World := (w.alloc (.cells #[.pointer (some ⟨r, 0, none⟩)] 67)).alloc (.cells #[.pointer (some ⟨r, 0, none⟩)] 87)
theorem catchI_idle (q : Nat) (w : World) :
    CallsD Tryd.prog 50 #[.pointer (some ⟨q, 0, none⟩)] .returning w fun e u' w' => e = .returned (.tuple #[]) ∧ u' = .returning ∧ w' = w := by
  refine callsD_of_wpS Tryd.func50 rfl fun c₀ cs hu => ?_
  apply wpS_seq
  apply wpS_region
  simp [wpOpsS, go_sem, recoverD, hu, Tryd.ntmps50, Exit.thenS]
  rw [slots17]
  refine wpS_of_wp ?_
  go_wp2
  exact ⟨rfl, _, by rw [← hu], _, results_none rfl _ _ _, rfl, rfl, rfl⟩
set_option maxRecDepth 100000 in
theorem catchI_stop (q r : Nat) (older : List PanicEntry) (w : World) (hq : w.cell? ⟨q, 0, none⟩ = some (.pointer (some ⟨r, 0, none⟩))) :
    CallsD Tryd.prog 50 #[.pointer (some ⟨q, 0, none⟩)] (.panicking ({ v := stopV r, recovered := false } :: older)) w fun e u' w' =>
      e = .returned (.tuple #[]) ∧ u' = .panicking ({ v := stopV r, recovered := true } :: older) ∧ Below w.heap.size w w' := by
  refine callsD_of_wpS Tryd.func50 rfl fun c₀ cs hu => ?_
  apply wpS_seq
  apply wpS_region
  simp [wpOpsS, go_sem, recoverD, hu, Tryd.ntmps50, Exit.thenS]
  rw [slots17]
  refine wpS_of_wp ?_
  have h1 := stop_eql r
  have h2 := stop_assert r
  have h3 := stop_neq r
  have hb : Hid (Below w.heap.size w (w.alloc (.cells #[.pointer (some ⟨r, 0, none⟩)] 88))) := Lib.hid ((Below.refl _ _).alloc (Nat.le_refl _) _)
  have hq2 : (w.alloc (.cells #[.pointer (some ⟨r, 0, none⟩)] 88)).cell? ⟨q, 0, none⟩ = some (.pointer (some ⟨r, 0, none⟩)) := (hb.out.cell (p := ⟨q, 0, none⟩) (block_lt_of_cell hq)).trans hq
  go_wp2
  refine ⟨rfl, .panicking ({ v := stopV r, recovered := true } :: older), rfl, .tuple #[], ?_, rfl, rfl, hb.out⟩
  exact results_none rfl _ _ _
theorem runI_ok (K : Nat) (cap : Array Value) (r : Nat) (w : World) (R : Value → World → Prop) (hK : ∀ args w, (callFunc K args).run Tryd.prog w = .ok (.enter K args) w)
    (hread : Calls Tryd.prog K (#[.pointer (some ⟨w.heap.size + 1, 0, none⟩)] ++ cap) (runBox w r) fun e w' => ∃ v, e = .returned v ∧ R v w') :
    Calls Tryd.prog 37 #[.pointer (some ⟨r, 0, none⟩), .func (.func K) #[] cap] w fun e w' => ∃ v, e = .returned v ∧ R v w' := by
  have hmf : ∀ (fn : Fn) (first cap : Array Value) (w : World), (Instr.makeFunc fn first cap).run Tryd.prog w = .ok (.func fn first cap) w := fun _ _ _ _ => rfl
  go_enter_defers Tryd.func37, Tryd.ntmps37
  go_wp2_with (refine hread.mono ?_; rintro e w1 ⟨v, rfl, hr⟩; have HR := Lib.hid hr; clear hr)
  refine leaves_cons (f := 50) (args := #[.pointer (some ⟨w.heap.size, 0, none⟩)]) (by simp) (by simp [go_sem]) ?_
  refine (catchI_idle w.heap.size _).mono ?_
  rintro e u' w'' ⟨rfl, rfl, rfl⟩
  refine ⟨_, results_tmp rfl _ _ _, ?_⟩
  exact ⟨v, rfl, HR.out⟩
theorem runI_bad (K : Nat) (cap : Array Value) (r : Nat) (w : World) (R : World → Prop) (hK : ∀ args w, (callFunc K args).run Tryd.prog w = .ok (.enter K args) w)
    (hread : Calls Tryd.prog K (#[.pointer (some ⟨w.heap.size + 1, 0, none⟩)] ++ cap) (runBox w r) fun e w' => e = .panicked [{ v := stopV r, recovered := false }] ∧ R w')
    (hq : ∀ a, R a → a.cell? ⟨w.heap.size, 0, none⟩ = some (.pointer (some ⟨r, 0, none⟩))) (hR : ∀ a b, R a → Below a.heap.size a b → R b) :
    Calls Tryd.prog 37 #[.pointer (some ⟨r, 0, none⟩), .func (.func K) #[] cap] w fun e w' => e = .returned (.int .i64 0) ∧ R w' := by
  have hmf : ∀ (fn : Fn) (first cap : Array Value) (w : World), (Instr.makeFunc fn first cap).run Tryd.prog w = .ok (.func fn first cap) w := fun _ _ _ _ => rfl
  go_enter_defers Tryd.func37, Tryd.ntmps37
  go_wp2_with (refine hread.mono ?_; rintro e w1 ⟨rfl, hr⟩; have HR := Lib.hid hr; clear hr)
  refine leaves_cons (f := 50) (args := #[.pointer (some ⟨w.heap.size, 0, none⟩)]) (by simp) (by simp [go_sem]) ?_
  refine (catchI_stop w.heap.size r [] _ (hq _ HR.out)).mono ?_
  rintro e u' w'' ⟨rfl, rfl, hb⟩
  exact ⟨_, results_tmp rfl _ _ _, rfl, hR _ _ HR.out hb⟩
theorem catchF_idle (q : Nat) (w : World) :
    CallsD Tryd.prog 54 #[.pointer (some ⟨q, 0, none⟩)] .returning w fun e u' w' => e = .returned (.tuple #[]) ∧ u' = .returning ∧ w' = w := by
  refine callsD_of_wpS Tryd.func54 rfl fun c₀ cs hu => ?_
  apply wpS_seq
  apply wpS_region
  simp [wpOpsS, go_sem, recoverD, hu, Tryd.ntmps54, Exit.thenS]
  rw [slots17]
  refine wpS_of_wp ?_
  go_wp2
  exact ⟨rfl, _, by rw [← hu], _, results_none rfl _ _ _, rfl, rfl, rfl⟩
set_option maxRecDepth 100000 in
theorem catchF_stop (q r : Nat) (older : List PanicEntry) (w : World) (hq : w.cell? ⟨q, 0, none⟩ = some (.pointer (some ⟨r, 0, none⟩))) :
    CallsD Tryd.prog 54 #[.pointer (some ⟨q, 0, none⟩)] (.panicking ({ v := stopV r, recovered := false } :: older)) w fun e u' w' =>
      e = .returned (.tuple #[]) ∧ u' = .panicking ({ v := stopV r, recovered := true } :: older) ∧ Below w.heap.size w w' := by
  refine callsD_of_wpS Tryd.func54 rfl fun c₀ cs hu => ?_
  apply wpS_seq
  apply wpS_region
  simp [wpOpsS, go_sem, recoverD, hu, Tryd.ntmps54, Exit.thenS]
  rw [slots17]
  refine wpS_of_wp ?_
  have h1 := stop_eql r
  have h2 := stop_assert r
  have h3 := stop_neq r
  have hb : Hid (Below w.heap.size w (w.alloc (.cells #[.pointer (some ⟨r, 0, none⟩)] 88))) := Lib.hid ((Below.refl _ _).alloc (Nat.le_refl _) _)
  have hq2 : (w.alloc (.cells #[.pointer (some ⟨r, 0, none⟩)] 88)).cell? ⟨q, 0, none⟩ = some (.pointer (some ⟨r, 0, none⟩)) := (hb.out.cell (p := ⟨q, 0, none⟩) (block_lt_of_cell hq)).trans hq
  go_wp2
  refine ⟨rfl, .panicking ({ v := stopV r, recovered := true } :: older), rfl, .tuple #[], ?_, rfl, rfl, hb.out⟩
  exact results_none rfl _ _ _
theorem runF_ok (K : Nat) (cap : Array Value) (r : Nat) (w : World) (R : Value → World → Prop) (hK : ∀ args w, (callFunc K args).run Tryd.prog w = .ok (.enter K args) w)
    (hread : Calls Tryd.prog K (#[.pointer (some ⟨w.heap.size + 1, 0, none⟩)] ++ cap) (runBox w r) fun e w' => ∃ v, e = .returned v ∧ R v w') :
    Calls Tryd.prog 49 #[.pointer (some ⟨r, 0, none⟩), .func (.func K) #[] cap] w fun e w' => ∃ v, e = .returned v ∧ R v w' := by
  have hmf : ∀ (fn : Fn) (first cap : Array Value) (w : World), (Instr.makeFunc fn first cap).run Tryd.prog w = .ok (.func fn first cap) w := fun _ _ _ _ => rfl
  go_enter_defers Tryd.func49, Tryd.ntmps49
  go_wp2_with (refine hread.mono ?_; rintro e w1 ⟨v, rfl, hr⟩; have HR := Lib.hid hr; clear hr)
  refine leaves_cons (f := 54) (args := #[.pointer (some ⟨w.heap.size, 0, none⟩)]) (by simp) (by simp [go_sem]) ?_
  refine (catchF_idle w.heap.size _).mono ?_
  rintro e u' w'' ⟨rfl, rfl, rfl⟩
  refine ⟨_, results_tmp rfl _ _ _, ?_⟩
  exact ⟨v, rfl, HR.out⟩
theorem runF_bad (K : Nat) (cap : Array Value) (r : Nat) (w : World) (R : World → Prop) (hK : ∀ args w, (callFunc K args).run Tryd.prog w = .ok (.enter K args) w)
    (hread : Calls Tryd.prog K (#[.pointer (some ⟨w.heap.size + 1, 0, none⟩)] ++ cap) (runBox w r) fun e w' => e = .panicked [{ v := stopV r, recovered := false }] ∧ R w')
    (hq : ∀ a, R a → a.cell? ⟨w.heap.size, 0, none⟩ = some (.pointer (some ⟨r, 0, none⟩))) (hR : ∀ a b, R a → Below a.heap.size a b → R b) :
    Calls Tryd.prog 49 #[.pointer (some ⟨r, 0, none⟩), .func (.func K) #[] cap] w fun e w' => e = .returned (.slice none 0 0) ∧ R w' := by
  have hmf : ∀ (fn : Fn) (first cap : Array Value) (w : World), (Instr.makeFunc fn first cap).run Tryd.prog w = .ok (.func fn first cap) w := fun _ _ _ _ => rfl
  go_enter_defers Tryd.func49, Tryd.ntmps49
  go_wp2_with (refine hread.mono ?_; rintro e w1 ⟨rfl, hr⟩; have HR := Lib.hid hr; clear hr)
  refine leaves_cons (f := 54) (args := #[.pointer (some ⟨w.heap.size, 0, none⟩)]) (by simp) (by simp [go_sem]) ?_
  refine (catchF_stop w.heap.size r [] _ (hq _ HR.out)).mono ?_
  rintro e u' w'' ⟨rfl, rfl, hb⟩
  exact ⟨_, results_tmp rfl _ _ _, rfl, hR _ _ HR.out hb⟩
theorem enter_third (args : Array Value) (w : World) : (callFunc 16 args).run Tryd.prog w = .ok (.enter 16 args) w := by kernel_rfl
theorem enter_broken (args : Array Value) (w : World) : (callFunc 17 args).run Tryd.prog w = .ok (.enter 17 args) w := by kernel_rfl
theorem enter_strange (args : Array Value) (w : World) : (callFunc 18 args).run Tryd.prog w = .ok (.enter 18 args) w := by kernel_rfl
theorem enter_read (args : Array Value) (w : World) : (callFunc 30 args).run Tryd.prog w = .ok (.enter 30 args) w := by kernel_rfl
theorem enter_rest (args : Array Value) (w : World) : (callFunc 32 args).run Tryd.prog w = .ok (.enter 32 args) w := by kernel_rfl
end Go.Proofs.YtedlfafbehhkdaaDoor
