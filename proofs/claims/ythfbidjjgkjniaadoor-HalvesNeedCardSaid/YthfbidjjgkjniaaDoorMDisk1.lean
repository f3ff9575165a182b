/- A disk in memory: its block, its two maps, its row of pending writes. -/
import Derived.Test.YthfbidjjgkjniaaDoorMMapF
import Derived.Test.YthfbidjjgkjniaaDoorMByt
import Derived.Test.YthfbidjjgkjniaaDoorMErr
import Derived.WalkLawsBesides
import Derived.WalkSpells
import Derived.Laws.OwnMore
namespace Go.Proofs.YthfbidjjgkjniaaDoor
open Go Go.RowKit
namespace Dk
/-- the place of the last write of a sector -/
def lastAt (i : Int) : Nat → List (Nat × List Nat) → Option Nat
  | _, [] => none
  | k, p :: ps => match lastAt i (k + 1) ps with
    | some j => some j
    | none => if (p.1 : Int) = i then some k else none
def last (ps : List (Nat × List Nat)) (i : Int) : Option Nat := lastAt i 0 ps
theorem lastAt_snoc (i : Int) : ∀ (ps : List (Nat × List Nat)) (k : Nat) (q : Nat × List Nat), lastAt i k (ps ++ [q]) = if (q.1 : Int) = i then some (k + ps.length) else lastAt i k ps
  | [], k, q => by simp [lastAt]
  | p :: ps, k, q => by
    rw [List.cons_append, lastAt, lastAt_snoc i ps (k + 1) q]
    by_cases h : (q.1 : Int) = i
    · simp only [if_pos h]
      simp; omega
    · simp only [if_neg h]
      rw [lastAt]
theorem last_snoc (ps : List (Nat × List Nat)) (q : Nat × List Nat) (i : Int) : last (ps ++ [q]) i = if (q.1 : Int) = i then some ps.length else last ps i := by
  unfold last
  rw [lastAt_snoc, Nat.zero_add]
theorem lastAt_some {i : Int} : ∀ {ps : List (Nat × List Nat)} {k j : Nat}, lastAt i k ps = some j → k ≤ j ∧ ∃ p, ps[j - k]? = some p ∧ (p.1 : Int) = i
  | [], k, j, h => by cases h
  | p :: ps, k, j, h => by
    rw [lastAt] at h
    cases hr : lastAt i (k + 1) ps with
    | some j' =>
      rw [hr] at h
      injection h with h
      subst h
      obtain ⟨h1, q, h2, h3⟩ := lastAt_some hr
      refine ⟨by omega, q, ?_, h3⟩
      rw [show j' - k = (j' - (k + 1)) + 1 by omega]
      simpa using h2
    | none =>
      rw [hr] at h
      by_cases hp : (p.1 : Int) = i
      · simp only [if_pos hp] at h
        injection h with h
        subst h
        exact ⟨Nat.le_refl _, p, by simp, hp⟩
      · simp only [if_neg hp] at h
        cases h
theorem last_some {i : Int} {ps : List (Nat × List Nat)} {j : Nat} (h : last ps i = some j) : ∃ p, ps[j]? = some p ∧ (p.1 : Int) = i := by
  obtain ⟨_, p, h1, h2⟩ := lastAt_some h
  exact ⟨p, by simpa using h1, h2⟩
/-- what a disk is: its sectors as they are safe (32 bytes each), what is pending, in order, its switches and numbers -/
structure D where
  size : Nat
  safe : Nat → List Nat
  pend : List (Nat × List Nat)
  off : Bool
  armed : Bool
  left : Nat
  deeds : Nat
structure Ok (S : D) : Prop where
  size : S.size ≤ 4096
  len : ∀ i, (S.safe i).length = 32
  byte : ∀ i, Sha.Byte (S.safe i)
  plen : ∀ p ∈ S.pend, p.1 < S.size ∧ p.2.length = 32 ∧ Sha.Byte p.2
  few : S.pend.length ≤ 1000000
  left : S.left ≤ 9223372036854775807
  deeds : S.deeds ≤ 1000000
end Dk
def cellsW (ps : List (Nat × List Nat)) : List Value := ps.flatMap fun p => .int .i64 (p.1 : Int) :: cellsB p.2
/-- A disk at block d; its memory lies from block B on. -/
structure DiskAt (B : Nat) (w : World) (d : Nat) (S : Dk.D) (ms ml : Nat) (v : Value) (c1 c2 : Nat) (fS : Int → Option Value) : Prop where
  blk : Blk w d 58 #[.int .i64 (S.size : Int), .map (some ms), v, .map (some ml), .bool S.off, .bool S.armed, .int .i64 (S.left : Int), .int .i64 (S.deeds : Int)]
  safe : MapF w ms c1 fS
  safeAt : ∀ i : Nat, i < S.size → (fS i).getD (.agg (u8s (List.replicate 32 0))) = .agg (u8s (S.safe i))
  last : MapF w ml c2 (fun i => (Dk.last S.pend i).map fun (k : Nat) => Value.int .i64 (k : Int))
  row : w.ownsRow B 72 33 v S.pend.length (cellsW S.pend)
  ok : Dk.Ok S
  bd : B ≤ d ∧ B ≤ ms ∧ B ≤ ml
  ne : ms ≠ ml ∧ d ≠ ms ∧ d ≠ ml
  c1 : c1 ≤ 1000000000
  c2 : c2 ≤ 1000000000
section
variable {B : Nat} {w w' : World} {d ms ml c1 c2 : Nat} {S : Dk.D} {v : Value} {fS : Int → Option Value}
theorem DiskAt.rowNe (h : DiskAt B w d S ms ml v c1 c2 fS) : some d ≠ v.ownBlock ∧ some ms ≠ v.ownBlock ∧ some ml ≠ v.ownBlock := by
  have hr := h.row
  have hm1 := h.safe
  have hm2 := h.last
  have hb := h.blk
  rcases hr.2 with ⟨rfl, _⟩ | ⟨g, cap, cur, rfl, _, hh, _⟩
  · exact ⟨by simp [Value.ownBlock], by simp [Value.ownBlock], by simp [Value.ownBlock]⟩
  · refine ⟨fun e => ?_, fun e => ?_, fun e => ?_⟩
    · injection e with e
      subst e
      have := hb.symm.trans hh
      injection this with this
      injection this with _ e _
      revert e; decide
    · injection e with e
      subst e
      obtain ⟨D, ⟨es, clock, h1, _⟩, _⟩ := hm1
      rw [h1] at hh
      cases hh
    · injection e with e
      subst e
      obtain ⟨D, ⟨es, clock, h1, _⟩, _⟩ := hm2
      rw [h1] at hh
      cases hh
/-- the disk stands as it stood where all from B on does -/
theorem DiskAt.kept (h : DiskAt B w d S ms ml v c1 c2 fS) {row : Option Nat} (hg : w.grownBy w' row) (h1 : some d ≠ row) (h2 : some ms ≠ row) (h3 : some ml ≠ row) (h4 : v.ownBlock = none ∨ v.ownBlock ≠ row) : DiskAt B w' d S ms ml v c1 c2 fS :=
  ⟨h.blk.grown hg h1, h.safe.kept hg h2, h.safeAt, h.last.kept hg h3, h.row.kept hg h4, h.ok, h.bd, h.ne, h.c1, h.c2⟩
theorem DiskAt.below (h : DiskAt B w d S ms ml v c1 c2 fS) (hb : Below w.heap.size w w') : DiskAt B w' d S ms ml v c1 c2 fS :=
  h.kept (only_of_below hb none) (by simp) (by simp) (by simp) (by cases hv : v.ownBlock with | none => exact Or.inl rfl | some g => exact Or.inr (by simp))
end
end Go.Proofs.YthfbidjjgkjniaaDoor
