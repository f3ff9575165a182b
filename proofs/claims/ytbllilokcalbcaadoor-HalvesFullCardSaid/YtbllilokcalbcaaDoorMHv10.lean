/- Layer 5: a log in memory; what leaves a call (attempt). -/
import Derived.Test.YtbllilokcalbcaaDoorMHv9
import Derived.Recover
import Derived.Lib.Builder
namespace Go.Proofs.YtbllilokcalbcaaDoor
open Go Go.RowKit
def logCells (d z used n : Nat) (v : Value) (next : Nat) (dead : Bool) : Array Value := #[.pointer (some ⟨d, 0, none⟩), .int .i64 0, .int .i64 (z : Int), .pointer (some ⟨d, 0, none⟩), .int .i64 (z : Int), .int .i64 (z : Int), .int .i64 (used : Int), .int .i64 (n : Int), v, .int .i64 (next : Int), .bool dead]
/-- A log at block l. -/
structure LogAt (B : Nat) (w : World) (l d z used n : Nat) (v : Value) (next : Nat) (dead : Bool) : Prop where
  blk : Blk w l 63 (logCells d z used n v next dead)
  low : B ≤ l
section
variable {B l d z used n next : Nat} {v : Value} {dead : Bool} {w w' : World}
theorem LogAt.tfr {B' : Nat} (h : LogAt B w l d z used n v next dead) (ht : TFr B' w w') : LogAt B w' l d z used n v next dead := ⟨ht.typed _ _ _ h.blk (by decide) (by decide), h.low⟩
theorem LogAt.below (h : LogAt B w l d z used n v next dead) (hb : Below w.heap.size w w') : LogAt B w' l d z used n v next dead := ⟨h.blk.below hb h.blk.lt, h.low⟩
theorem ldead_any (w : World) (h : LogAt B w l d z used n v next dead) : Calls Tryd.prog 13 #[.pointer (some ⟨l, 0, none⟩)] w fun e w' => e = .returned (.bool dead) ∧ w = w' := by
  have p : w.cell? ⟨l, 10, none⟩ = some (.bool dead) := h.blk.cell 10
  clear h
  go_enter Tryd.func13, Tryd.ntmps13
  go_wp2
  go_ret
  exact ⟨rfl, rfl⟩
theorem lserial_any (w : World) (h : LogAt B w l d z used n v next dead) : Calls Tryd.prog 19 #[.pointer (some ⟨l, 0, none⟩)] w fun e w' => e = .returned (.int .i64 (n : Int)) ∧ w = w' := by
  have p : w.cell? ⟨l, 7, none⟩ = some (.int .i64 (n : Int)) := h.blk.cell 7
  clear h
  go_enter Tryd.func19, Tryd.ntmps19
  go_wp2
  go_ret
  exact ⟨rfl, rfl⟩
theorem lroom_any (w : World) (h : LogAt B w l d z used n v next dead) (hu : used = 0 ∨ used = 1) (hn : next ≤ z) (hz : z ≤ 100000) : Calls Tryd.prog 24 #[.pointer (some ⟨l, 0, none⟩)] w fun e w' => e = .returned (.int .i64 ((z - next : Nat) : Int)) ∧ ∃ m, w' = w.drewN m := by
  have p6 : w.cell? ⟨l, 6, none⟩ = some (.int .i64 (used : Int)) := h.blk.cell 6
  have p2 : w.cell? ⟨l, 2, none⟩ = some (.int .i64 (z : Int)) := h.blk.cell 2
  have p5 : w.cell? ⟨l, 5, none⟩ = some (.int .i64 (z : Int)) := h.blk.cell 5
  have p9 : w.cell? ⟨l, 9, none⟩ = some (.int .i64 (next : Int)) := h.blk.cell 9
  have e : ((z - next : Nat) : Int) = (z : Int) - (next : Int) := by omega
  rw [e]
  have W1 : IntKind.i64.wrap ((z : Int) - (next : Int)) = (z : Int) - (next : Int) := IntWalk.i64_in _ (by omega)
  clear h
  rcases hu with rfl | rfl
  · go_enter Tryd.func24, Tryd.ntmps24
    go_wp2_with fail
    go_quiet (fail)
    go_wp2_with fail
    go_ret
    exact ⟨rfl, _, rfl⟩
  · go_enter Tryd.func24, Tryd.ntmps24
    go_wp2_with fail
    go_quiet (fail)
    go_wp2_with fail
    go_ret
    exact ⟨rfl, _, rfl⟩
end
theorem slots16 (x y v : Value) : #[x, y] ++ (Array.replicate 14 undef).setIfInBounds 3 v = #[x, y, undef, undef, undef, v, undef, undef, undef, undef, undef, undef, undef, undef, undef, undef] := by kernel_rfl
theorem ev_eql20 (a : Addr) (w : World) : (binOp .eql 20 (ev a) .nilIface).run Tryd.prog w = .ok (.bool false) w := by kernel_rfl
theorem ev_assert78 (a : Addr) (w : World) : (Instr.typeAssert (ev a) 20 78 true).run Tryd.prog w = .ok (.tuple #[.agg #[.nilIface], .bool false]) w := by kernel_rfl
theorem catchA_idle (q b : Nat) (w : World) :
    CallsD Tryd.prog 38 #[.pointer (some ⟨q, 0, none⟩), .pointer (some ⟨b, 0, none⟩)] .returning w fun e u' w' => e = .returned (.tuple #[]) ∧ u' = .returning ∧ w' = w := by
  refine callsD_of_wpS Tryd.func38 rfl fun c₀ cs hu => ?_
  apply wpS_seq
  apply wpS_region
  simp [wpOpsS, go_sem, recoverD, hu, Tryd.ntmps38, Exit.thenS]
  rw [slots16]
  refine wpS_of_wp ?_
  go_wp2
  exact ⟨rfl, _, by rw [← hu], _, results_none rfl _ _ _, rfl, rfl, rfl⟩
set_option maxRecDepth 100000 in
theorem catchA_down (q b l : Nat) (ae aD : Addr) (older : List PanicEntry) (w : World) (x : Bool) (c0 : Value) (hb : w.cell? ⟨b, 0, none⟩ = some (.pointer (some ⟨l, 0, none⟩))) (hl : w.cell? ⟨l, 10, none⟩ = some (.bool x)) (zl : w.frozen? ⟨l, 10, none⟩ = false) (hq : w.cell? ⟨q, 0, none⟩ = some c0) (zq : w.frozen? ⟨q, 0, none⟩ = false) (_hne : q ≠ l)
    (hD : w.cell? ⟨2, 0, none⟩ = some (ev aD)) :
    CallsD Tryd.prog 38 #[.pointer (some ⟨q, 0, none⟩), .pointer (some ⟨b, 0, none⟩)] (.panicking ({ v := ev ae, recovered := false } :: older)) w fun e u' w' =>
      e = .returned (.tuple #[]) ∧ u' = .panicking ({ v := ev ae, recovered := true } :: older) ∧ w' = (w.setCell ⟨l, 10, none⟩ (.bool true)).setCell ⟨q, 0, none⟩ (ev aD) := by
  refine callsD_of_wpS Tryd.func38 rfl fun c₀ cs hu => ?_
  apply wpS_seq
  apply wpS_region
  simp [wpOpsS, go_sem, recoverD, hu, Tryd.ntmps38, Exit.thenS]
  rw [slots16]
  refine wpS_of_wp ?_
  have h1 := ev_eql20 ae
  have h2 := ev_assert78 ae
  go_wp2
  refine ⟨rfl, .panicking ({ v := ev ae, recovered := true } :: older), rfl, .tuple #[], ?_, rfl, rfl, rfl⟩
  exact results_none rfl _ _ _
theorem results_cell_err {fn : Func} {p : Tmp} (h : fn.results = #[.cell p 27]) (tmps : Array Value) (w : World) (g : Nat) (c : Value) (hp : tmps.getD p undef = .pointer (some ⟨g, 0, none⟩)) (hg : w.cell? ⟨g, 0, none⟩ = some c) : (results fn tmps).run Tryd.prog w = .ok c w := by
  have hp' : tmps[p]?.getD undef = .pointer (some ⟨g, 0, none⟩) := by simpa using hp
  simp [results, h, hp', asAddr, go_sem, hg]
/-- the world in which the work is done: the receiver's box, the error's cell -/
abbrev attBox (w : World) (l : Nat) : World := (w.alloc (.cells #[.pointer (some ⟨l, 0, none⟩)] 30)).alloc (.cells #[.nilIface] 27)
theorem below_attBox (w : World) (l : Nat) : Below w.heap.size w (attBox w l) := ((Below.refl _ _).alloc (Nat.le_refl _) _).alloc (by simp) _
theorem attempt_ok (K : Nat) (first cap : Array Value) (l : Nat) (w : World) (R : World → Prop) (hK : ∀ args w, (callFunc K args).run Tryd.prog w = .ok (.enter K args) w)
    (hwork : Calls Tryd.prog K (first ++ cap) (attBox w l) fun e w' => e = .returned (.tuple #[]) ∧ R w') (hR : ∀ a, R a → ∃ c, Blk a (w.heap.size + 1) 27 #[c]) (hR2 : ∀ a u, R a → R (a.setCell ⟨w.heap.size + 1, 0, none⟩ u)) :
    Calls Tryd.prog 26 #[.pointer (some ⟨l, 0, none⟩), .func (.func K) first cap] w fun e w' => e = .returned .nilIface ∧ R w' := by
  have hmf : ∀ (fn : Fn) (first cap : Array Value) (w : World), (Instr.makeFunc fn first cap).run Tryd.prog w = .ok (.func fn first cap) w := fun _ _ _ _ => rfl
  have HR := Lib.hid hR
  have HR2 := Lib.hid hR2
  clear hR hR2
  go_enter_defers Tryd.func26, Tryd.ntmps26
  go_wp2_with fail
  refine hwork.mono ?_
  rintro e w1 ⟨rfl, hr⟩
  obtain ⟨c1, hc1⟩ := HR.out _ hr
  have HK1 := Lib.hid hc1
  have p0 := hc1.cell 0
  have z0 := hc1.frozen 0
  have HRR := Lib.hid hr
  clear hr hc1 hwork
  go_wp2_with fail
  refine leaves_cons (f := 38) (args := #[.pointer (some ⟨w.heap.size + 1, 0, none⟩), .pointer (some ⟨w.heap.size, 0, none⟩)]) (by simp) (by simp [go_sem]) ?_
  refine (catchA_idle (w.heap.size + 1) w.heap.size _).mono ?_
  rintro e u' w'' ⟨rfl, rfl, rfl⟩
  refine ⟨_, results_cell_err rfl _ _ (w.heap.size + 1) .nilIface rfl ((HK1.out.set_ 0 .nilIface).cell 0), ?_⟩
  exact ⟨rfl, HR2.out _ _ HRR.out⟩
theorem attempt_down (K : Nat) (first cap : Array Value) (l : Nat) (ae aD : Addr) (w : World) (R : World → Prop) (hK : ∀ args w, (callFunc K args).run Tryd.prog w = .ok (.enter K args) w)
    (hwork : Calls Tryd.prog K (first ++ cap) (attBox w l) fun e w' => e = .panicked [{ v := ev ae, recovered := false }] ∧ R w') (hR : ∀ a, R a → Blk a (w.heap.size + 1) 27 #[.nilIface] ∧ Blk a w.heap.size 30 #[.pointer (some ⟨l, 0, none⟩)] ∧ (∃ x, a.cell? ⟨l, 10, none⟩ = some (.bool x)) ∧ a.frozen? ⟨l, 10, none⟩ = false ∧ a.cell? ⟨2, 0, none⟩ = some (ev aD)) (hl : l < w.heap.size) :
    Calls Tryd.prog 26 #[.pointer (some ⟨l, 0, none⟩), .func (.func K) first cap] w fun e w' => e = .returned (ev aD) ∧ ∃ a, R a ∧ w' = (a.setCell ⟨l, 10, none⟩ (.bool true)).setCell ⟨w.heap.size + 1, 0, none⟩ (ev aD) := by
  have hmf : ∀ (fn : Fn) (first cap : Array Value) (w : World), (Instr.makeFunc fn first cap).run Tryd.prog w = .ok (.func fn first cap) w := fun _ _ _ _ => rfl
  have HR := Lib.hid hR
  clear hR
  go_enter_defers Tryd.func26, Tryd.ntmps26
  go_wp2_with fail
  refine hwork.mono ?_
  rintro e w1 ⟨rfl, hr⟩
  obtain ⟨k1, k2, ⟨x, k3⟩, k4, k5⟩ := HR.out _ hr
  have HRR := Lib.hid hr
  clear hr hwork
  refine leaves_cons (f := 38) (args := #[.pointer (some ⟨w.heap.size + 1, 0, none⟩), .pointer (some ⟨w.heap.size, 0, none⟩)]) (by simp) (by simp [go_sem]) ?_
  refine (catchA_down (w.heap.size + 1) w.heap.size l ae aD [] w1 x .nilIface (k2.cell 0) k3 k4 (k1.cell 0) (k1.frozen 0) (by omega) k5).mono ?_
  rintro e u' w'' ⟨rfl, rfl, rfl⟩
  have hk : Blk (w1.setCell ⟨l, 10, none⟩ (.bool true)) (w.heap.size + 1) 27 #[.nilIface] := k1.far (by show w.heap.size + 1 ≠ l; omega) _
  refine ⟨_, results_cell_err rfl _ _ (w.heap.size + 1) (ev aD) rfl ((hk.set_ 0 (ev aD)).cell 0), ?_⟩
  exact ⟨rfl, w1, HRR.out, rfl⟩
end Go.Proofs.YtbllilokcalbcaaDoor
