/- The iterator over the copies that make a target (delta.copies). -/
import Derived.Test.YthagldpgibpbdaaDoorDl10
import Derived.Test.YthagldpgibpbdaaDoorRng
namespace Go.Proofs.YthagldpgibpbdaaDoor
open Go Go.RowKit Go.Shelf
attribute [local go_sem] Oper.semAt_some
namespace Dl
/-- the copies of a target from a place on: place, bytes, from where -/
def cpsF (base target : List Nat) : Nat → Nat → List (Nat × Nat × Nat)
  | 0, _ => []
  | f + 1, p => if p < target.length then
      if 0 < (lg base (target.drop p)).1 then (p, (lg base (target.drop p)).1, (lg base (target.drop p)).2) :: cpsF base target f (p + (lg base (target.drop p)).1)
      else cpsF base target f (p + 1)
    else []
theorem cpsF_succ (base target : List Nat) (f p : Nat) : cpsF base target (f + 1) p = if p < target.length then
      if 0 < (lg base (target.drop p)).1 then (p, (lg base (target.drop p)).1, (lg base (target.drop p)).2) :: cpsF base target f (p + (lg base (target.drop p)).1)
      else cpsF base target f (p + 1)
    else [] := rfl
theorem cpsF_more (base target : List Nat) : ∀ (f p : Nat), target.length ≤ p + f → ∀ g, f ≤ g → cpsF base target g p = cpsF base target f p
  | 0, p, h, g, _ => by
    cases g with
    | zero => rfl
    | succ g => rw [cpsF_succ, if_neg (by omega)]; rfl
  | f + 1, p, h, g, hg => by
    cases g with
    | zero => omega
    | succ g =>
      rw [cpsF_succ, cpsF_succ]
      by_cases hp : p < target.length
      · rw [if_pos hp, if_pos hp]
        by_cases h0 : 0 < (lg base (target.drop p)).1
        · rw [if_pos h0, if_pos h0, cpsF_more base target f _ (by omega) g (by omega)]
        · rw [if_neg h0, if_neg h0, cpsF_more base target f _ (by omega) g (by omega)]
      · rw [if_neg hp, if_neg hp]
def cps (base target : List Nat) (p : Nat) : List (Nat × Nat × Nat) := cpsF base target (target.length - p) p
theorem cps_end {base target : List Nat} {p : Nat} (h : target.length ≤ p) : cps base target p = [] := by
  unfold cps; rw [show target.length - p = 0 by omega]; rfl
theorem cps_copy {base target : List Nat} {p : Nat} (h : p < target.length) (h0 : 0 < (lg base (target.drop p)).1) : cps base target p = (p, (lg base (target.drop p)).1, (lg base (target.drop p)).2) :: cps base target (p + (lg base (target.drop p)).1) := by
  unfold cps
  obtain ⟨f, hf⟩ : ∃ f, target.length - p = f + 1 := ⟨target.length - p - 1, by omega⟩
  rw [hf, cpsF_succ, if_pos h, if_pos h0, cpsF_more base target (target.length - (p + (lg base (target.drop p)).1)) _ (by omega) f (by omega)]
theorem cps_skip {base target : List Nat} {p : Nat} (h : p < target.length) (h0 : (lg base (target.drop p)).1 = 0) : cps base target p = cps base target (p + 1) := by
  unfold cps
  obtain ⟨f, hf⟩ : ∃ f, target.length - p = f + 1 := ⟨target.length - p - 1, by omega⟩
  rw [hf, cpsF_succ, if_pos h, if_neg (by omega), show target.length - (p + 1) = f by omega]
end Dl
def cpV (x : Nat × Nat × Nat) : Array Value := #[.int .i64 (x.1 : Int), .agg #[.int .i64 (x.2.1 : Int), .slice none 0 0, .int .i64 (x.2.2 : Int)]]
/-- what the iterator over copies reads: both boxes, both texts -/
structure CIn (w : World) (bB bT : Nat) (bv tv : Value) (base target : List Nat) : Prop where
  bb : Boxed w bB 22 bv
  bt : Boxed w bT 22 tv
  rb : Rd w bv base
  rt : Rd w tv target
  mx : ∃ m, w.cell? ⟨22, 0, none⟩ = some (.int .i64 m)
/-- what a round keeps: what lay below n₀, the two boxes, and every step in memory -/
def KpC (n₀ bB bT : Nat) (W W' : World) : Prop := Below n₀ W W' ∧ (∀ k, k = bB ∨ k = bT → W'.heap[k]? = W.heap[k]?) ∧
  ∀ (k : Nat) (cs : Array Value) (z : Nat × Nat), W.heap[k]? = some (.cells cs 44 z) → W'.heap[k]? = some (.cells cs 44 z)
theorem KpC.refl (n₀ bB bT : Nat) (W : World) : KpC n₀ bB bT W W := ⟨Below.refl _ _, fun _ _ => rfl, fun _ _ _ h => h⟩
theorem KpC.trans {n₀ bB bT : Nat} {A B C : World} (h : KpC n₀ bB bT A B) (k : KpC n₀ bB bT B C) : KpC n₀ bB bT A C :=
  ⟨h.1.trans k.1, fun j hj => (k.2.1 j hj).trans (h.2.1 j hj), fun j cs z e => k.2.2 j cs z (h.2.2 j cs z e)⟩
theorem longest_all (bv tv : Value) (base text : List Nat) (w : World) (hB : Rd w bv base) (hT : Rd w tv text) (bb : Sha.Byte base) (bt : Sha.Byte text) (lb : base.length ≤ 1000000) (lt : text.length ≤ 1000000)
    (hm : ∃ m, w.cell? ⟨22, 0, none⟩ = some (.int .i64 m)) :
    Calls Tryd.prog 31 #[bv, tv] w fun e w' => e = .returned (.agg #[.int .i64 ((Dl.lg base text).1 : Int), .slice none 0 0, .int .i64 ((Dl.lg base text).2 : Int)]) ∧ Below w.heap.size w w' := by
  obtain ⟨A, cb, rfl, hcb, hA⟩ := hB
  obtain ⟨A2, ct, rfl, hct, hA2⟩ := hT
  obtain ⟨m, hm⟩ := hm
  by_cases h4 : text.length < 4
  · rw [Dl.lg_short h4]
    exact longest_short A _ cb A2 _ ct w h4
  · obtain ⟨b2, o2, rfl, _⟩ := hA2 (by omega)
    exact longest_any A _ cb b2 o2 _ ct base text m w ⟨A, cb, rfl, hcb, hA⟩ ⟨_, ct, rfl, hct, hA2⟩ bb bt lb lt (by omega) hm
end Go.Proofs.YthagldpgibpbdaaDoor
