/- A loop over an iterator that goes through a known list, in its order: a round is asked only for the element that comes next. -/
import Derived.Test.YthagldpgibpbdaaDoorBase
import Derived.RangeFuncNested
import Derived.RangeFuncBound
import Derived.RangeFuncCalls
import Derived.RangeFuncLeaves
namespace Go.Proofs.YthagldpgibpbdaaDoor
open Go Go.RowKit
/-- the iterator's word: it goes through xs, whatever the rounds keep; they keep Kp -/
def Runs {α : Type} (n : Nat) (P : Program) (g : Nat) (lb : Array Value) (encs : α → Array Value) (Kp : World → World → Prop) (xs : List α) (w : World) : Prop :=
  ∀ (l : Nat) (J : List α → World → Prop) (W : World), Below w.heap.size w W → AbidesFrom W.heap.size J →
    (∀ pre x rest W1, xs = pre ++ x :: rest → J pre W1 → YieldAt Fence.wide (n - 1) P l (encs x) W1 fun e W' => e = .returned (.bool true) ∧ J (pre ++ [x]) W' ∧ Kp W1 W') → J [] W →
    CallsIn Fence.wide n P g (#[.func (.yield l) #[] #[]] ++ lb) W fun e W' => (∃ v, e = .returned v) ∧ J xs W'
/-- how a round may be left: behind its last statement -/
def Rounds {α : Type} (B : Nat) (Kp : World → World → Prop) (I : List α → World → Prop) (xs : List α) (W : World) (e : Exit) (W' : World) : Prop :=
  e = .normal ∧ KeepsFrom B W W' ∧ Kp W W' ∧ I xs W'
/-- the two blocks of the loop's own lie there: the rounds' deferred calls, the record -/
def Lies (B : Nat) (r : Loop) (W : World) : Prop := W.heap[B]? = some (.deferred (some [])) ∧ W.heap[B + 1]? = some (.loop r)
theorem Lies.from {B : Nat} {r : Loop} {W W' : World} (h : Lies B r W) (k : KeepsFrom B W W') : Lies B r W' := ⟨k.same _ _ (Nat.le_refl _) h.1 rfl, k.same _ _ (Nat.le_succ _) h.2 rfl⟩
theorem Lies.put {B : Nat} {r : Loop} {W : World} (h : Lies B r W) (r' : Loop) : Lies B r' (W.putObj (B + 1) (.loop r')) :=
  ⟨(World.putObj_heap_other (by omega)).trans h.1, World.putObj_heap_same (Array.getElem?_eq_some_iff.1 h.2).1⟩
theorem Lies.grown {B C : Nat} {r : Loop} {W W' : World} {row : Option Nat} (h : Lies B r W) (hg : W.grownBy W' row) (hr : ∀ j, row = some j → C ≤ j ∧ ∃ o : Obj, W.heap[j]? = some o ∧ o.isWalk = true) : Lies B r W' :=
  ⟨(grownBy_keeps hg (fun j e => (hr j e).2) h.1 rfl).trans h.1, (grownBy_keeps hg (fun j e => (hr j e).2) h.2 rfl).trans h.2⟩
section
variable {α : Type} {P : Program} {n : Nat}
theorem range_runs {g : Operand} {ps : Array Tmp} {assign body : Code} {Q : Exit → Act → World → Prop} {a : Act} {w w0 : World} {gf : Nat} {Kp : World → World → Prop} {lb : Array Value} {encs : α → Array Value} {xs : List α}
    (hg : a.eval g = .func (.func gf) #[] lb) (eg : ∀ args w, (callFunc gf args).run P w = .ok (.enter gf args) w) (hrun : Runs (n - 1) P gf lb encs Kp xs w0) (hw0 : Below w0.heap.size w0 w) (hKt : ∀ {A B C : World}, Kp A B → Kp B C → Kp A C) (hKb : ∀ (W : World) (l : Nat) (o o' : Obj), w.heap.size ≤ l → W.heap[l]? = some o → o.isCells = false → Kp W (W.putObj l o')) (hps : ∀ x, (encs x).size = ps.size)
    (I : List α → World → Prop) (hI : OwnFrom w.heap.size I) (h0 : I [] w) (Ax : α → Act → World → Prop) (hAx : ∀ x a', OwnFrom w.heap.size (fun (_ : Unit) W => Ax x a' W))
    (hassign : ∀ (l : Nat) (pre : List α) (x : α) (rest : List α) (W : World) (K : Act → World → Prop), xs = pre ++ x :: rest → I pre W → (∀ a' W', KeepsFrom w.heap.size W W' → Kp W W' → I pre W' → Ax x a' W' → K a' W') →
      assign.wpIn (Fence.wide.inRound l) (n - 1 - 1) P (Exit.then K (fun _ _ _ => False)) { tmps := (ps.zip (encs x)).foldl (fun t (p, v) => t.setIfInBounds p v) a.tmps, defers := [] } W)
    (hbody : ∀ (l : Nat) (pre : List α) (x : α) (rest : List α) (a' : Act) (W : World), xs = pre ++ x :: rest → I pre W → Ax x a' W → body.wpIn (Fence.wide.inRound l) (n - 1 - 1) P (fun e _ W' => Rounds w.heap.size Kp I (pre ++ [x]) W e W') a' W)
    (hdone : ∀ (D : Nat) (W : World), w.heap.size ≤ D → I xs W → W.heap[D]? = some (.deferred (some [])) → Q .normal { a with defers := { target := .collected D, args := #[] } :: a.defers } W) :
    (Code.rangeFunc g ps assign body).wpIn Fence.wide n P Q a w := by
  refine wpIn_rangeFunc fun fn _ => ?_
  obtain ⟨B, hB⟩ : ∃ B, B = w.heap.size := ⟨_, rfl⟩
  obtain ⟨r, hr⟩ : ∃ r : LoopState → Loop, r = fun s => { state := s, pending := none, fn, tmps := a.tmps, params := ps, assign, body, defers := B } := ⟨_, rfl⟩
  have rs : ∀ s, (r s).state = s ∧ (r s).pending = none ∧ (r s).fn = fn ∧ (r s).tmps = a.tmps ∧ (r s).params = ps ∧ (r s).assign = assign ∧ (r s).body = body := fun s => by rw [hr]; exact ⟨rfl, rfl, rfl, rfl, rfl, rfl, rfl⟩
  have rt : ∀ s t, { r s with state := t } = r t := fun s t => by rw [hr]
  have rt2 : ∀ s t, { r s with state := t, pending := none } = r t := fun s t => by rw [hr]
  have s1 : (w.alloc (.deferred (some []))).heap.size = w.heap.size + 1 := by simp
  have lies1 : Lies B (r .ready) ((w.alloc (.deferred (some []))).alloc (.loop (r .ready))) := by
    rw [hB]
    refine ⟨(Below.heap_alloc _ _ _ (by simp)).trans (World.alloc_heap_new w _), ?_⟩
    have h := World.alloc_heap_new (w.alloc (.deferred (some []))) (.loop (r .ready))
    rwa [s1] at h
  have bel1 : Below w.heap.size w ((w.alloc (.deferred (some []))).alloc (.loop (r .ready))) := ((Below.refl _ w).alloc (Nat.le_refl _) _).alloc (by simp) _
  have inv1 : I [] ((w.alloc (.deferred (some []))).alloc (.loop (r .ready))) := hI.alloc _ (hI.alloc _ h0)
  have sz1 : ((w.alloc (.deferred (some []))).alloc (.loop (r .ready))).heap.size = B + 2 := by simp [hB]
  have start : (Instr.enterLoop fn a.tmps ps assign body Fence.wide.round).run P w = .ok (B + 1, [{ target := .collected B, args := #[] }]) ((w.alloc (.deferred (some []))).alloc (.loop (r .ready))) := by
    rw [hr, hB]; exact run_enterLoop_outer _ _ _ _ _
  generalize (w.alloc (.deferred (some []))).alloc (.loop (r .ready)) = W1 at lies1 bel1 inv1 sz1 start
  refine ⟨B + 1, _, W1, { target := .fn (.func gf) lb, args := #[.func (.yield (B + 1)) #[] #[]] }, W1, gf, #[.func (.yield (B + 1)) #[] #[]] ++ lb, W1, start, ?_, fun _ _ => trivial, ?_, (fun e => by cases e), ?_⟩
  · simp only [resolve, hg]
    simp [go_sem]
  · simp [invoke, go_sem, eg]
  -- the iterator's word, at the caller's condition with the two blocks beside it
  have kept : AbidesFrom W1.heap.size (fun (pre : List α) W => I pre W ∧ Lies B (r .ready) W) := fun s A C row hs hgr hro =>
    ⟨hI s A C row hs.1 hgr (fun j e => by obtain ⟨h1, o, h2, h3⟩ := hro j e; exact ⟨by omega, o, h2, Obj.not_cells_of_walk h3⟩), hs.2.grown hgr hro⟩
  refine (hrun (B + 1) (fun pre W => I pre W ∧ Lies B (r .ready) W) W1 (hw0.trans (bel1.mono hw0.size)) kept ?_ ⟨inv1, lies1⟩).mono ?_
  · -- a round
    rintro pre x rest W hx ⟨hi, hl⟩
    refine ⟨fn, _, assign, body, ?_, roundIn_of_wpIn trivial (hassign _ pre x rest W _ hx hi fun a' Wa k1 b1 i1 x1 => ?_)⟩
    · have h := run_yield (P := P) (args := encs x) hl.2 (by rw [(rs _).2.2.2.2.1]; exact hps x)
      rw [(rs _).2.2.1, (rs _).2.2.2.1, (rs _).2.2.2.2.1, (rs _).2.2.2.2.2.1, (rs _).2.2.2.2.2.2] at h
      exact h
    · have la := hl.from (hB ▸ k1)
      refine ⟨_, run_beginRound la.2 (rs _).1, ?_⟩
      rw [rt]
      have lb' := la.put (r .busy)
      have own : ∀ {W' : World} {s : LoopState} (t : LoopState) (p : List α), I p W' → Lies B (r s) W' → I p (W'.putObj (B + 1) (.loop (r t))) := fun {W' s} t p h k => hI.putObj _ h (by omega) k.2 rfl
      refine wpIn_mono (hbody _ pre x rest a' _ hx (own .busy pre i1 la) ((hAx x a').putObj (s := ()) _ x1 (by omega) la.2 rfl)) ?_
      rintro e a3 W3 ⟨rfl, k3, b3, i3⟩
      rw [← hB] at k3
      have lc := lb'.from k3
      have fin := run_endRound (P := P) none lc.2
      refine ⟨_, _, fin, rfl, ⟨?_, ?_⟩, ?_⟩
      · simp only [Option.isNone_none, if_true]
        rw [rt2]; exact own .ready _ i3 lc
      · simp only [Option.isNone_none, if_true]
        rw [rt2]; exact lc.put _
      · exact hKt b1 (hKt (hKb _ _ _ _ (by omega) la.2 rfl) (hKt b3 (hKb _ _ _ _ (by omega) lc.2 rfl)))
  · -- behind it
    rintro e W2 ⟨⟨v, rfl⟩, hi, hl⟩
    have h := run_endLoop (P := P) hl.2 (by rw [(rs _).1]; simp)
    rw [(rs _).2.1] at h
    exact ⟨none, _, h, hdone B _ (by omega) (hI.putObj _ hi (by omega) hl.2 rfl) ((World.putObj_heap_other (by omega)).trans hl.1)⟩
end
end Go.Proofs.YthagldpgibpbdaaDoor
