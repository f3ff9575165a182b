/- The document's Rest by an entry's shapes: what it answers. -/
import Derived.Test.YtjkneidoochfjaaGreatDoorMEn34
import Derived.Test.YtjkneidoochfjaaGreatDoorMOct24ss
import Derived.Test.YtjkneidoochfjaaGreatDoorMEn35s
namespace Go.Proofs.YtjkneidoochfjaaGreatDoor
open Go Go.RowKit
namespace Oc
inductive G where
  | bad (e : Nat)
  | ok (l : List (Nat × List Nat)) (r : List Nat)
/-- the fields, and what is left -/
def got : List Nat → List Nat → G
  | [], ys => .ok [] ys
  | c :: s, ys => match step c ys with
    | .bad e => .bad e
    | .ok n x k => match got s (ys.drop k) with
      | .bad e => .bad e
      | .ok l r => .ok ((n, x) :: l) r
theorem fold_got (xs : List Nat) : ∀ (s : List Nat) (l : List (Nat × List Nat)) (p : Nat), (∀ e, got s (xs.drop p) = .bad e → s.foldl (Got.next xs) (.ok l p) = .bad e) ∧ (∀ l' r, got s (xs.drop p) = .ok l' r → ∃ q, s.foldl (Got.next xs) (.ok l p) = .ok (l ++ l') q ∧ xs.drop q = r)
  | [], l, p => ⟨fun e h => (by cases h), fun l' r h => by
      injection h with h1 h2
      subst h1 h2
      exact ⟨p, by simp, rfl⟩⟩
  | c :: s, l, p => by
    have hn : Got.next xs (.ok l p) c = match step c (xs.drop p) with | .bad e => .bad e | .ok n x k => .ok (l ++ [(n, x)]) (p + k) := rfl
    rw [List.foldl_cons, hn]
    unfold got
    cases hs : step c (xs.drop p) with
    | bad e => exact ⟨fun e' h => (by injection h with h; subst h; exact next_bad xs e s), fun l' r h => (by cases h)⟩
    | ok n x k =>
      have ih := fold_got xs s (l ++ [(n, x)]) (p + k)
      rw [← List.drop_drop] at ih
      dsimp only
      cases hg : got s ((xs.drop p).drop k) with
      | bad e => exact ⟨fun e' h => (by injection h with h; subst h; exact ih.1 e hg), fun l' r h => (by cases h)⟩
      | ok l1 r1 =>
        refine ⟨fun e' h => (by cases h), fun l' r h => ?_⟩
        injection h with h1 h2
        subst h1 h2
        obtain ⟨q, h3, h4⟩ := ih.2 _ _ hg
        exact ⟨q, by rw [h3, List.append_assoc]; rfl, h4⟩
theorem reads_got (s xs : List Nat) : (∀ e, got s xs = .bad e → reads s xs = .bad e) ∧ (∀ l r, got s xs = .ok l r → ∃ q, reads s xs = .ok l q ∧ xs.drop q = r) := by
  have h := fold_got xs s [] 0
  rw [List.drop_zero] at h
  exact ⟨h.1, fun l r hg => by obtain ⟨q, h1, h2⟩ := h.2 l r hg; exact ⟨q, by rw [List.nil_append] at h1; exact h1, h2⟩⟩
theorem got_one (c : Nat) (ys : List Nat) : got [c] ys = match step c ys with | .bad e => .bad e | .ok n x k => .ok [(n, x)] (ys.drop k) := by
  unfold got
  cases step c ys <;> rfl
theorem got_cons (c : Nat) (s ys : List Nat) : got (c :: s) ys = match step c ys with | .bad e => .bad e | .ok n x k => match got s (ys.drop k) with | .bad e => .bad e | .ok l r => .ok ((n, x) :: l) r := rfl
theorem step_numx {c n k : Nat} {x ys : List Nat} (h1 : c ≠ 111) (h2 : c ≠ 116) (h : step c ys = .ok n x k) : x = [] := by
  unfold step at h
  rw [if_neg h1, if_neg h2] at h
  split at h
  · cases h
  · split at h
    · cases h
    · injection h with _ h _; exact h.symm
theorem step_txtn {c n k : Nat} {x ys : List Nat} (h1 : c = 111 ∨ c = 116) (h : step c ys = .ok n x k) : n = 0 := by
  unfold step at h
  rcases h1 with rfl | rfl
  · rw [if_pos rfl] at h
    split at h
    · cases h
    · injection h with h _ _; exact h.symm
  · rw [if_neg (by decide), if_pos rfl] at h
    split at h
    · cases h
    · split at h
      · cases h
      · injection h with h _ _; exact h.symm
end Oc
namespace En
theorem got_b (ys : List Nat) : Oc.got [98] ys = match num 98 ys with | .bad e => .bad e | .ok n r => .ok [(n, [])] r := by
  rw [Oc.got_one]
  unfold num
  cases h : Oc.step 98 ys with
  | bad e => rfl
  | ok n x k => rw [Oc.step_numx (by decide) (by decide) h]
theorem got_t (ys : List Nat) : Oc.got [116] ys = match txt ys with | .bad e => .bad e | .ok x r => .ok [(0, x)] r := by
  rw [Oc.got_one]
  unfold txt
  cases h : Oc.step 116 ys with
  | bad e => rfl
  | ok n x k => rw [Oc.step_txtn (Or.inr rfl) h]
theorem txt_short {ys x r : List Nat} (h : txt ys = .ok x r) : x.length ≤ ys.length ∧ r.length ≤ ys.length := by
  unfold txt at h
  cases hs : Oc.step 116 ys with
  | bad e => rw [hs] at h; cases h
  | ok n y k =>
    rw [hs] at h
    injection h with h1 h2
    subst h1 h2
    refine ⟨?_, by rw [List.length_drop]; omega⟩
    unfold Oc.step at hs
    rw [if_neg (by decide), if_pos rfl] at hs
    split at hs
    · cases hs
    · split at hs
      · cases hs
      · injection hs with _ h _
        rw [← h, List.length_take, List.length_drop]
        omega
theorem oid_short {ys x r : List Nat} (h : oid ys = .ok x r) : r.length ≤ ys.length := by
  unfold oid at h
  cases hs : Oc.step 111 ys with
  | bad e => rw [hs] at h; cases h
  | ok n y k =>
    rw [hs] at h
    injection h with h1 h2
    subst h2
    rw [List.length_drop]
    omega
theorem num_short {c n : Nat} {ys r : List Nat} (h : num c ys = .ok n r) : r.length ≤ ys.length := by
  unfold num at h
  cases hs : Oc.step c ys with
  | bad e => rw [hs] at h; cases h
  | ok n y k =>
    rw [hs] at h
    injection h with h1 h2
    subst h2
    rw [List.length_drop]
    omega
/-- an entry's front -/
def front (ys : List Nat) : P (Nat × Nat × Nat × Nat) := match num 98 ys with
  | .bad e => .bad e
  | .ok c r => match num 113 r with
    | .bad e => .bad e
    | .ok n r => match num 98 r with
      | .bad e => .bad e
      | .ok a r => match num 98 r with
        | .bad e => .bad e
        | .ok nu r => .ok (c, n, a, nu) r
theorem front_short {ys r : List Nat} {q : Nat × Nat × Nat × Nat} (h : front ys = .ok q r) : r.length ≤ ys.length := by
  unfold front at h
  cases h1 : num 98 ys with
  | bad e => rw [h1] at h; cases h
  | ok c r1 =>
    have a1 := num_short h1
    rw [h1] at h
    dsimp only at h
    cases h2 : num 113 r1 with
    | bad e => rw [h2] at h; cases h
    | ok n r2 =>
      have a2 := num_short h2
      rw [h2] at h
      dsimp only at h
      cases h3 : num 98 r2 with
      | bad e => rw [h3] at h; cases h
      | ok a r3 =>
        have a3 := num_short h3
        rw [h3] at h
        dsimp only at h
        cases h4 : num 98 r3 with
        | bad e => rw [h4] at h; cases h
        | ok nu r4 =>
          have a4 := num_short h4
          rw [h4] at h
          injection h with h5 h6
          subst h6
          omega
theorem got_front (ys : List Nat) : Oc.got [98, 113, 98, 98] ys = match front ys with | .bad e => .bad e | .ok q r => .ok [(q.1, []), (q.2.1, []), (q.2.2.1, []), (q.2.2.2, [])] r := by
  unfold front
  rw [Oc.got_cons]
  unfold num
  cases h1 : Oc.step 98 ys with
  | bad e => rfl
  | ok n1 x1 k1 =>
    rw [Oc.step_numx (by decide) (by decide) h1]
    dsimp only
    rw [Oc.got_cons]
    cases h2 : Oc.step 113 (ys.drop k1) with
    | bad e => rfl
    | ok n2 x2 k2 =>
      rw [Oc.step_numx (by decide) (by decide) h2]
      dsimp only
      rw [Oc.got_cons]
      cases h3 : Oc.step 98 ((ys.drop k1).drop k2) with
      | bad e => rfl
      | ok n3 x3 k3 =>
        rw [Oc.step_numx (by decide) (by decide) h3]
        dsimp only
        rw [Oc.got_one]
        cases h4 : Oc.step 98 (((ys.drop k1).drop k2).drop k3) with
        | bad e => rfl
        | ok n4 x4 k4 =>
          rw [Oc.step_numx (by decide) (by decide) h4]
/-- an update's three fields -/
def three (ys : List Nat) : P (List Nat × List Nat × List Nat) := match txt ys with
  | .bad e => .bad e
  | .ok x r => match oid r with
    | .bad e => .bad e
    | .ok a r => match oid r with
      | .bad e => .bad e
      | .ok b r => .ok (x, a, b) r
theorem rdUp_three (ys : List Nat) : rdUp ys = match three ys with | .bad e => .bad e | .ok q r => .ok ⟨textOf q.1, q.2.1, q.2.2⟩ r := by
  unfold rdUp three
  cases txt ys with
  | bad e => rfl
  | ok x r =>
    dsimp only
    cases oid r with
    | bad e => rfl
    | ok a r =>
      dsimp only
      cases oid r <;> rfl
theorem got_three (ys : List Nat) : Oc.got [116, 111, 111] ys = match three ys with | .bad e => .bad e | .ok q r => .ok [(0, q.1), (0, q.2.1), (0, q.2.2)] r := by
  unfold three
  rw [Oc.got_cons]
  unfold txt oid
  cases h1 : Oc.step 116 ys with
  | bad e => rfl
  | ok n1 x1 k1 =>
    rw [Oc.step_txtn (Or.inr rfl) h1]
    dsimp only
    rw [Oc.got_cons]
    cases h2 : Oc.step 111 (ys.drop k1) with
    | bad e => rfl
    | ok n2 x2 k2 =>
      rw [Oc.step_txtn (Or.inl rfl) h2]
      dsimp only
      rw [Oc.got_one]
      cases h3 : Oc.step 111 ((ys.drop k1).drop k2) with
      | bad e => rfl
      | ok n3 x3 k3 => rw [Oc.step_txtn (Or.inl rfl) h3]
/-- an entry's parts, by its front -/
theorem parts_front (ys : List Nat) : parts ys = match front ys with
    | .bad e => .bad e
    | .ok q r => match many rdUp q.2.2.2 [] r with
      | .bad e => .bad e
      | .ok us r => match num 98 r with
        | .bad e => .bad e
        | .ok no r => match many txt no [] r with
          | .bad e => .bad e
          | .ok os r => .ok ⟨q.1, q.2.1, q.2.2.1, us, os⟩ r := by
  unfold parts front
  cases num 98 ys with
  | bad e => rfl
  | ok c r =>
    dsimp only
    cases num 113 r with
    | bad e => rfl
    | ok n r =>
      dsimp only
      cases num 98 r with
      | bad e => rfl
      | ok a r =>
        dsimp only
        cases num 98 r <;> rfl
theorem three_good {ys r : List Nat} {q : List Nat × List Nat × List Nat} (hb : Oc.bytes ys) (h : three ys = .ok q r) : Id32 q.2.1 ∧ Id32 q.2.2 ∧ Oc.bytes q.1 ∧ Oc.bytes r := by
  unfold three at h
  cases h1 : txt ys with
  | bad e => rw [h1] at h; cases h
  | ok x r1 =>
    obtain ⟨_, h1b, h1c⟩ := txt_inv hb h1
    rw [h1] at h
    dsimp only at h
    cases h2 : oid r1 with
    | bad e => rw [h2] at h; cases h
    | ok a r2 =>
      obtain ⟨_, h2b, h2c⟩ := oid_inv h1c h2
      rw [h2] at h
      dsimp only at h
      cases h3 : oid r2 with
      | bad e => rw [h3] at h; cases h
      | ok b r3 =>
        obtain ⟨_, h3b, h3c⟩ := oid_inv h2c h3
        rw [h3] at h
        injection h with h4 h5
        subst h4 h5
        exact ⟨h2b, h3b, h1b, h3c⟩
theorem front_good {ys r : List Nat} {q : Nat × Nat × Nat × Nat} (hb : Oc.bytes ys) (h : front ys = .ok q r) : q.1 ≤ 255 ∧ q.2.1 ≤ 4611686018427387903 ∧ q.2.2.1 ≤ 255 ∧ q.2.2.2 ≤ 255 ∧ Oc.bytes r := by
  have m1 : Oc.mostN 98 = 255 := by kernel_rfl
  have m2 : Oc.mostN 113 ≤ 4611686018427387903 := by decide
  unfold front at h
  cases h1 : num 98 ys with
  | bad e => rw [h1] at h; cases h
  | ok c r1 =>
    obtain ⟨_, h1b, h1c⟩ := num_inv (Or.inl rfl) hb h1
    rw [h1] at h
    dsimp only at h
    cases h2 : num 113 r1 with
    | bad e => rw [h2] at h; cases h
    | ok n r2 =>
      obtain ⟨_, h2b, h2c⟩ := num_inv (Or.inr rfl) h1c h2
      rw [h2] at h
      dsimp only at h
      cases h3 : num 98 r2 with
      | bad e => rw [h3] at h; cases h
      | ok a r3 =>
        obtain ⟨_, h3b, h3c⟩ := num_inv (Or.inl rfl) h2c h3
        rw [h3] at h
        dsimp only at h
        cases h4 : num 98 r3 with
        | bad e => rw [h4] at h; cases h
        | ok nu r4 =>
          obtain ⟨_, h4b, h4c⟩ := num_inv (Or.inl rfl) h3c h4
          rw [h4] at h
          injection h with h5 h6
          subst h5 h6
          exact ⟨by rw [← m1]; exact h1b, by show n ≤ _; omega, by rw [← m1]; exact h3b, by rw [← m1]; exact h4b, h4c⟩
end En
/-- How the document's Rest ends by a shape. -/
def RestG (s : List Nat) (xs : List Nat) (w0 w : World) (e : Ending) (w' : World) : Prop :=
  Below w.heap.size w w' ∧ (∀ k, Oc.got s xs = .bad k → e = .returned (.tuple #[.slice none 0 0, .slice none 0 0, .int .i64 (k : Int)])) ∧
  (∀ l r, Oc.got s xs = .ok l r → ∃ A1 b c1 fs A2 c2, e = .returned (.tuple #[.slice A1 fs.length c1, .slice A2 r.length c2, .int .i64 0]) ∧ (A1 = some ⟨b, 0, none⟩ ∧ w.heap.size ≤ b) ∧ FRow w' b 0 fs ∧ fs.map Oc.says = l.map Oc.lays ∧ Rd w0 (.slice A2 r.length c2) r ∧ ∀ f ∈ fs, Rd w0 (.slice f.A f.l f.c) f.bs)
theorem restG_any (s : ByteArray) (xs : List Nat) (A : Option Addr) (n c : Nat) (w0 w : World) (hw : Below w0.heap.size w0 w) (hs : s.size ≤ 1000) (hk : Oc.known s.data.toList = true) (hv : Rd w0 (.slice A n c) xs) (hb : Oc.bytes xs) (hx : xs.length ≤ 1099511627776) :
    Calls Tryz.prog 37 #[.string s, .slice A n c] w (RestG (shN s) xs w0 w) := by
  refine (rrest1_any s xs A n c w0 w hw hs hv hb hx).mono ?_
  rintro e w' ⟨h1, _, h3, h4⟩
  obtain ⟨g1, g2⟩ := Oc.reads_got (shN s) xs
  refine ⟨h1, fun k hg => h3 hk k (g1 k hg), fun l r hg => ?_⟩
  obtain ⟨p, hp, hr⟩ := g2 l r hg
  have h5 := h4 hk l p hp
  rw [hr] at h5
  exact h5
end Go.Proofs.YtjkneidoochfjaaGreatDoor
/- The document's entry of bytes while it is read: what stands. -/
namespace Go.Proofs.YtjkneidoochfjaaGreatDoor
open Go Go.RowKit
/-- what stands while the document's Parse reads -/
structure RdP (w wr : World) (g1 g2 : Nat) (x y z : Int) (vU : Value) (us : List En.Up) (vO : Value) (ts : List En.Bt) : Prop where
  bel : Below w.heap.size w wr
  r1 : Blk wr g1 29 zR
  box : Blk wr g2 29 #[.int .i64 x, .int .i64 y, .int .i64 z, vU, vO]
  ups : wr.ownsRow (g2 + 1) 58 65 vU us.length (cellsU us)
  objs : wr.ownsRow (g2 + 1) 32 1 vO ts.length (ts.map (·.val))
  txt : ∀ t ∈ ts, Rd w t.val t.text ∧ Oc.bytes t.text
  fit : ∀ u ∈ us, u.Fit
  ord : w.heap.size ≤ g1 ∧ g1 < g2 ∧ g2 < wr.heap.size
section
variable {w wr w' : World} {g1 g2 : Nat} {x y z : Int} {vU vO v2 : Value} {us : List En.Up} {ts : List En.Bt}
theorem own_keep {B zz n : Nat} {t : TypeId} {v : Value} {xs : List Value} (h : wr.ownsRow B t zz v n xs) (hb : Below wr.heap.size wr w') : w'.ownsRow B t zz v n xs :=
  h.kept (only_of_below hb none) (by cases hv : v.ownBlock with | none => exact Or.inl rfl | some g => exact Or.inr (by simp))
theorem RdP.below (h : RdP w wr g1 g2 x y z vU us vO ts) (hb : Below wr.heap.size wr w') : RdP w w' g1 g2 x y z vU us vO ts :=
  ⟨below_next h.bel hb, h.r1.below hb h.r1.lt, h.box.below hb h.box.lt, own_keep h.ups hb, own_keep h.objs hb, h.txt, h.fit, by have := h.ord; have := hb.size; omega⟩
/-- behind an append onto the updates -/
theorem RdP.appU (h : RdP w wr g1 g2 x y z vU us vO ts) {u : En.Up} (hu : u.Fit) (ho : w'.ownsRow (g2 + 1) 58 65 v2 (us.length + 1) (cellsU us ++ cellsU1 u)) (hg : wr.grownBy w' vU.ownBlock) :
    Blk w' g2 29 #[.int .i64 x, .int .i64 y, .int .i64 z, vU, vO] ∧ RdP w (w'.setCell ⟨g2, 3, none⟩ v2) g1 g2 x y z v2 (us ++ [u]) vO ts := by
  have ne : ∀ {g}, g < g2 + 1 → some g ≠ vU.ownBlock := fun hg e => by
    have := (h.ups.lt _ e.symm).1
    omega
  have hord := h.ord
  have hB : Blk w' g2 29 #[.int .i64 x, .int .i64 y, .int .i64 z, vU, vO] := h.box.grown hg (ne (by omega))
  have hR : Blk w' g1 29 zR := h.r1.grown hg (ne (by omega))
  have hb : Below w.heap.size w w' := ⟨hg.os.trans h.bel.os, hg.tape.trans h.bel.tape, hg.output.trans h.bel.output, Nat.le_trans h.bel.size hg.size, fun b hb => (hg.block b (Nat.lt_of_lt_of_le hb h.bel.size) (ne (by omega))).trans (h.bel.block b hb)⟩
  have hO : w'.ownsRow (g2 + 1) 32 1 vO ts.length (ts.map (·.val)) := h.objs.kept hg (by
    cases hv : vO.ownBlock with
    | none => exact Or.inl rfl
    | some g =>
      refine Or.inr fun e => ?_
      obtain ⟨cs1, hb1⟩ := own_blk h.objs hv
      obtain ⟨cs2, hb2⟩ := own_blk h.ups e.symm
      exact blk_ne hb1 hb2 (by decide) rfl)
  refine ⟨hB, ⟨hb.setCell (p := ⟨g2, 3, none⟩) (by show w.heap.size ≤ g2; omega) v2, hR.far (by show g1 ≠ g2; omega) v2, by have h1 := hB.set_ 3 v2; exact h1, ?_, ownsRow_far hO (by show g2 < g2 + 1; omega) _, h.txt, fun v hv => ?_, ?_⟩⟩
  · rw [List.length_append, List.length_singleton, show cellsU (us ++ [u]) = cellsU us ++ cellsU1 u by simp [cellsU]]
    exact ownsRow_far ho (by show g2 < g2 + 1; omega) _
  · rcases List.mem_append.1 hv with hv | hv
    · exact h.fit v hv
    · rw [List.mem_singleton.1 hv]; exact hu
  · have h1 := hg.size
    simp only [World.setCell, Array.size_modify]
    omega
/-- behind an append onto the objects -/
theorem RdP.appT (h : RdP w wr g1 g2 x y z vU us vO ts) {t : En.Bt} (ht : Rd w t.val t.text ∧ Oc.bytes t.text) (ho : w'.ownsRow (g2 + 1) 32 1 v2 (ts.length + 1) (ts.map (·.val) ++ [t.val])) (hg : wr.grownBy w' vO.ownBlock) :
    Blk w' g2 29 #[.int .i64 x, .int .i64 y, .int .i64 z, vU, vO] ∧ RdP w (w'.setCell ⟨g2, 4, none⟩ v2) g1 g2 x y z vU us v2 (ts ++ [t]) := by
  have ne : ∀ {g}, g < g2 + 1 → some g ≠ vO.ownBlock := fun hg e => by
    have := (h.objs.lt _ e.symm).1
    omega
  have hord := h.ord
  have hB : Blk w' g2 29 #[.int .i64 x, .int .i64 y, .int .i64 z, vU, vO] := h.box.grown hg (ne (by omega))
  have hR : Blk w' g1 29 zR := h.r1.grown hg (ne (by omega))
  have hb : Below w.heap.size w w' := ⟨hg.os.trans h.bel.os, hg.tape.trans h.bel.tape, hg.output.trans h.bel.output, Nat.le_trans h.bel.size hg.size, fun b hb => (hg.block b (Nat.lt_of_lt_of_le hb h.bel.size) (ne (by omega))).trans (h.bel.block b hb)⟩
  have hU : w'.ownsRow (g2 + 1) 58 65 vU us.length (cellsU us) := h.ups.kept hg (by
    cases hv : vU.ownBlock with
    | none => exact Or.inl rfl
    | some g =>
      refine Or.inr fun e => ?_
      obtain ⟨cs1, hb1⟩ := own_blk h.ups hv
      obtain ⟨cs2, hb2⟩ := own_blk h.objs e.symm
      exact blk_ne hb1 hb2 (by decide) rfl)
  refine ⟨hB, ⟨hb.setCell (p := ⟨g2, 4, none⟩) (by show w.heap.size ≤ g2; omega) v2, hR.far (by show g1 ≠ g2; omega) v2, by have h1 := hB.set_ 4 v2; exact h1, ownsRow_far hU (by show g2 < g2 + 1; omega) _, ?_, fun t' ht' => ?_, h.fit, ?_⟩⟩
  · rw [List.length_append, List.length_singleton, List.map_append]
    exact ownsRow_far ho (by show g2 < g2 + 1; omega) _
  · rcases List.mem_append.1 ht' with ht' | ht'
    · exact h.txt t' ht'
    · rw [List.mem_singleton.1 ht']; exact ht
  · have h1 := hg.size
    simp only [World.setCell, Array.size_modify]
    omega
theorem enc_own {B : Nat} (hu : wr.ownsRow B 58 65 vU us.length (cellsU us)) (ho : wr.ownsRow B 32 1 vO ts.length (ts.map (·.val))) (ht : ∀ t ∈ ts, Rd wr t.val t.text ∧ Oc.bytes t.text) (hf : ∀ u ∈ us, u.Fit) : ∃ U cu O co, vU = .slice U us.length cu ∧ vO = .slice O ts.length co ∧ ts.length ≤ co ∧ EnC wr ⟨x, y, z, us, ts.map (·.text)⟩ #[.int .i64 x, .int .i64 y, .int .i64 z, vU, vO] U cu O co ts := by
  obtain ⟨U, cu, rfl⟩ := own_slice hu
  obtain ⟨O, co, rfl⟩ := own_slice ho
  have hco : ts.length ≤ co := by
    rcases ho.2 with ⟨h', h0⟩ | ⟨g', cap', cur, h', _, _, hnc, _⟩
    · omega
    · injection h' with _ _ e3
      omega
  refine ⟨U, cu, O, co, rfl, rfl, hco, ⟨by simp, rdk_own hu, hf, ⟨by simp, fun h0 => ?_, fun t htm => ⟨(ht t htm).1, byte_of (ht t htm).2⟩⟩, rfl⟩⟩
  rw [List.length_map] at h0
  rcases ho.2 with ⟨_, h'⟩ | ⟨g', cap', cur, h', _, hgg, hnc, hcm, hcs, htk⟩
  · omega
  · injection h' with e1 _ _
    refine ⟨g', 0, e1, (Array.getElem?_eq_some_iff.1 hgg).1, fun i t ht => ?_⟩
    have hB : Blk wr g' 32 cur := hgg
    have h3 : (ts.map (·.val))[i]? = some t.val := by rw [List.getElem?_map, ht]; rfl
    rw [Nat.zero_add, hB.cell i]
    rw [← htk, List.getElem?_take] at h3
    split at h3
    · simpa using h3
    · exact absurd h3 (by simp)
/-- the entry that was read -/
theorem RdP.ent (h : RdP w wr g1 g2 x y z vU us vO ts) : ∃ U cu O co, vU = .slice U us.length cu ∧ vO = .slice O ts.length co ∧ ts.length ≤ co ∧ EnC wr ⟨x, y, z, us, ts.map (·.text)⟩ #[.int .i64 x, .int .i64 y, .int .i64 z, vU, vO] U cu O co ts :=
  enc_own h.ups h.objs (fun t ht => ⟨((h.txt t ht).1).below h.bel (Nat.le_refl _), (h.txt t ht).2⟩) h.fit
/-- and stored as the result -/
theorem RdP.res (h : RdP w wr g1 g2 x y z vU us vO ts) (cs : Array Value) : ∃ U cu O co, vU = .slice U us.length cu ∧ vO = .slice O ts.length co ∧ ts.length ≤ co ∧ EnC (wr.setRow g1 cs) ⟨x, y, z, us, ts.map (·.text)⟩ #[.int .i64 x, .int .i64 y, .int .i64 z, vU, vO] U cu O co ts :=
  have hg : wr.grownBy (wr.setRow g1 cs) (some g1) := only_setRow (World.grownBy.refl wr _) (Or.inl rfl) _
  have hord := h.ord
  have no : ∀ {v : Value} {e zz n : Nat} {xs : List Value}, wr.ownsRow (g2 + 1) e zz v n xs → v.ownBlock = none ∨ v.ownBlock ≠ some g1 := fun {v _ _ _ _} ho => by
    cases hv : v.ownBlock with
    | none => exact Or.inl rfl
    | some g => exact Or.inr (fun e => by have h5 := World.ownsRow.lt ho g hv; injection e with e; omega)
  enc_own (h.ups.kept hg (no h.ups)) (h.objs.kept hg (no h.objs)) (fun t ht => ⟨((h.txt t ht).1).below (below_row h.bel hord.1 _) (Nat.le_refl _), (h.txt t ht).2⟩) h.fit
end
end Go.Proofs.YtjkneidoochfjaaGreatDoor
