/- Deltas as lists of bytes: the steps behind the sizes, the text that they make of a base, the copies and fresh bytes of a target; what is made so makes the target. -/
import Derived.Test.YthagldpgibpbdaaDoorShaMath
namespace Go.Proofs.YthagldpgibpbdaaDoor.Dl
open Go.Proofs.YthagldpgibpbdaaDoor
/-- a byte, 0 beyond the end -/
def at0 (d : List Nat) (p : Nat) : Nat := d.getD p 0
def two (d : List Nat) (p : Nat) : Nat := at0 d p * 256 + at0 d (p + 1)
inductive Ev where
  | bad (short : Bool)
  | copy (n src : Nat)
  | fresh (n pos : Nat)
/-- the step at a place, and how many bytes it takes -/
def evAt (d : List Nat) (p : Nat) : Ev × Nat :=
  if at0 d p % 128 = 0 then (.bad false, 0)
  else if at0 d p < 128 then (if d.length < p + 1 + at0 d p then (.bad true, 0) else (.fresh (at0 d p) (p + 1), 1 + at0 d p))
  else (if d.length < p + 3 then (.bad true, 0) else (.copy (at0 d p - 128) (two d (p + 1)), 3))
theorem evAt_pos {d : List Nat} {p : Nat} (h : ∀ s, (evAt d p).1 ≠ .bad s) : 0 < (evAt d p).2 := by
  have : (∃ s, (evAt d p).1 = .bad s) ∨ 0 < (evAt d p).2 := by
    unfold evAt
    split
    · exact .inl ⟨_, rfl⟩
    · split
      · split
        · exact .inl ⟨_, rfl⟩
        · exact .inr (show 0 < 1 + at0 d p by omega)
      · split
        · exact .inl ⟨_, rfl⟩
        · exact .inr (show 0 < 3 by omega)
  rcases this with ⟨s, e⟩ | e
  · exact absurd e (h s)
  · exact e
/-- the steps from a place on, at most f of them -/
def evsF (d : List Nat) : Nat → Nat → List Ev
  | 0, _ => []
  | f + 1, p => if p < d.length then
      match evAt d p with
      | (.bad s, _) => [.bad s]
      | (e, k) => e :: evsF d f (p + k)
    else []
theorem evsF_succ (d : List Nat) (f p : Nat) : evsF d (f + 1) p = if p < d.length then
      match evAt d p with
      | (.bad s, _) => [.bad s]
      | (e, k) => e :: evsF d f (p + k)
    else [] := rfl
theorem evsF_more (d : List Nat) : ∀ (f p : Nat), d.length ≤ p + f → ∀ g, f ≤ g → evsF d g p = evsF d f p
  | 0, p, h, g, _ => by
    cases g with
    | zero => rfl
    | succ g => rw [evsF_succ, if_neg (by omega)]; rfl
  | f + 1, p, h, g, hg => by
    cases g with
    | zero => omega
    | succ g =>
      rw [evsF_succ, evsF_succ]
      by_cases hp : p < d.length
      · rw [if_pos hp, if_pos hp]
        have hk : (∀ s, (evAt d p).1 ≠ .bad s) → 0 < (evAt d p).2 := evAt_pos
        rcases he : evAt d p with ⟨e, k⟩
        rw [he] at hk
        cases e with
        | bad s => rfl
        | copy n s =>
          have := hk (by intro s' h'; cases h')
          show Ev.copy n s :: evsF d g (p + k) = Ev.copy n s :: evsF d f (p + k)
          rw [evsF_more d f (p + k) (by simp at this; omega) g (by omega)]
        | fresh n s =>
          have := hk (by intro s' h'; cases h')
          show Ev.fresh n s :: evsF d g (p + k) = Ev.fresh n s :: evsF d f (p + k)
          rw [evsF_more d f (p + k) (by simp at this; omega) g (by omega)]
      · rw [if_neg hp, if_neg hp]
def evs (d : List Nat) (p : Nat) : List Ev := evsF d (d.length - p) p
theorem evs_end {d : List Nat} {p : Nat} (h : d.length ≤ p) : evs d p = [] := by
  unfold evs; rw [show d.length - p = 0 by omega]; rfl
theorem evs_bad {d : List Nat} {p k : Nat} {s : Bool} (h : p < d.length) (he : evAt d p = (.bad s, k)) : evs d p = [.bad s] := by
  unfold evs
  obtain ⟨f, hf⟩ : ∃ f, d.length - p = f + 1 := ⟨d.length - p - 1, by omega⟩
  rw [hf, evsF_succ, if_pos h, he]
theorem evs_step {d : List Nat} {p k : Nat} {e : Ev} (h : p < d.length) (he : evAt d p = (e, k)) (hb : ∀ s, e ≠ .bad s) : evs d p = e :: evs d (p + k) := by
  have hk := evAt_pos (d := d) (p := p) (by rw [he]; exact hb)
  rw [he] at hk
  unfold evs
  obtain ⟨f, hf⟩ : ∃ f, d.length - p = f + 1 := ⟨d.length - p - 1, by omega⟩
  rw [hf, evsF_succ, if_pos h, he]
  cases e with
  | bad s => exact absurd rfl (hb s)
  | copy n s => show _ :: evsF d f (p + k) = _; rw [evsF_more d (d.length - (p + k)) (p + k) (by omega) f (by simp at hk; omega)]
  | fresh n s => show _ :: evsF d f (p + k) = _; rw [evsF_more d (d.length - (p + k)) (p + k) (by omega) f (by simp at hk; omega)]
theorem evs_len (d : List Nat) (p : Nat) : (evs d p).length ≤ d.length - p := by
  unfold evs
  generalize d.length - p = f
  induction f generalizing p with
  | zero => exact Nat.le_refl _
  | succ f ih =>
    rw [evsF_succ]
    split
    · rcases evAt d p with ⟨e, k⟩
      cases e with
      | bad s => simp
      | copy n s => have := ih (p + k); simp only [List.length_cons]; omega
      | fresh n s => have := ih (p + k); simp only [List.length_cons]; omega
    · simp
/-- a step that may stand in a delta -/
def okE (d : List Nat) : Ev → Prop
  | .bad _ => True
  | .copy n f => 0 < n ∧ n ≤ 127 ∧ f ≤ 65535
  | .fresh n q => 0 < n ∧ n ≤ 127 ∧ q + n ≤ d.length
theorem evAt_ok {d : List Nat} (hb : ∀ i, d.getD i 0 < 256) (p : Nat) : okE d (evAt d p).1 := by
  have h0 := hb p
  have h1 := hb (p + 1)
  have h2 := hb (p + 1 + 1)
  unfold evAt two
  simp only [← show at0 d p = d.getD p 0 from rfl, ← show at0 d (p + 1) = d.getD (p + 1) 0 from rfl, ← show at0 d (p + 1 + 1) = d.getD (p + 1 + 1) 0 from rfl] at h0 h1 h2
  split
  · trivial
  · split
    · split
      · trivial
      · exact ⟨by omega, by omega, by omega⟩
    · split
      · trivial
      · exact ⟨by omega, by omega, by omega⟩
open Classical in
noncomputable def norm (d : List Nat) (e : Ev) : Ev := if okE d e then e else .bad false
theorem norm_ok {d : List Nat} {e : Ev} (h : okE d e) : norm d e = e := by unfold norm; rw [if_pos h]
theorem ok_norm (d : List Nat) (e : Ev) : okE d (norm d e) := by
  unfold norm
  split
  · assumption
  · trivial
theorem evs_norm {d : List Nat} (hb : ∀ i, d.getD i 0 < 256) (p : Nat) : (evs d p).map (norm d) = evs d p := by
  unfold evs
  generalize d.length - p = f
  induction f generalizing p with
  | zero => rfl
  | succ f ih =>
    rw [evsF_succ]
    have h := evAt_ok hb p
    split
    · rcases he : evAt d p with ⟨e, k⟩
      rw [he] at h
      cases e with
      | bad s => simp [norm_ok h]
      | copy n s => simp [norm_ok h, ih]
      | fresh n s => simp [norm_ok h, ih]
    · rfl
/-- what a delta makes: an error's number, or a text -/
inductive Res where
  | err (k : Nat)
  | ok (l : List Nat)
/-- the text of the steps (numbers of errors: 0 range, 1 short, 2 long, 3 form) -/
def runE (base d : List Nat) (to : Nat) : List Ev → List Nat → Res
  | [], out => if out.length < to then .err 1 else .ok out
  | .bad s :: _, _ => .err (if s then 1 else 3)
  | .copy n f :: r, out => if base.length < f + n then .err 0 else if to < out.length + n then .err 2 else runE base d to r (out ++ (base.drop f).take n)
  | .fresh n p :: r, out => if to < out.length + n then .err 2 else runE base d to r (out ++ (d.drop p).take n)
/-- how many copies and fresh steps -/
def count : List Ev → Nat → Nat → Option (Nat × Nat)   -- none: an error
  | [], a, b => some (a, b)
  | .bad _ :: _, _, _ => none
  | .copy _ _ :: r, a, b => count r (a + 1) b
  | .fresh _ _ :: r, a, b => count r a (b + 1)
end Go.Proofs.YthagldpgibpbdaaDoor.Dl
