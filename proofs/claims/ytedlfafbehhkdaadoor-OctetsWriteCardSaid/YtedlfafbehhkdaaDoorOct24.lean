/- The document's own reading (cartageref02.Rest): its words. -/
import Derived.Test.YtedlfafbehhkdaaDoorOct23
namespace Go.Proofs.YtedlfafbehhkdaaDoor
open Go Go.RowKit
namespace Oc
theorem val_mono {l : List Nat} {j : Nat} : ∀ {z : Nat}, j ≤ z → z ≤ l.length → val (l.take j) ≤ val (l.take z)
  | 0, h, _ => by rw [show j = 0 by omega]; exact Nat.le_refl _
  | z + 1, h, hz => by
    by_cases e : j = z + 1
    · rw [e]; exact Nat.le_refl _
    · have := val_mono (l := l) (j := j) (z := z) (by omega) (by omega)
      rw [val_take (by omega)]
      omega
theorem val_from : ∀ (l : List Nat) (a : Nat), l.foldl (fun n b => n * 256 + b) a = a * 256 ^ l.length + val l
  | [], a => by simp [val]
  | x :: l, a => by
    have h1 := val_from l (a * 256 + x)
    have h2 := val_from l x
    rw [List.foldl_cons, h1, List.length_cons, Nat.pow_succ]
    have e : val (x :: l) = x * 256 ^ l.length + val l := by
      show List.foldl _ (0 * 256 + x) l = _
      rw [Nat.zero_mul, Nat.zero_add, h2]
    rw [e, Nat.add_mul, Nat.mul_assoc, Nat.mul_comm 256]
    omega
theorem val_head {l : List Nat} (hb : bytes l) (hl : 8 ≤ l.length) : (4611686018427387903 < val (l.take 8)) ↔ 64 ≤ l.getD 0 0 := by
  rcases l with _ | ⟨x, l⟩
  · simp at hl
  have e : val ((x :: l).take 8) = x * 256 ^ 7 + val (l.take 7) := by
    show List.foldl _ (0 * 256 + x) (l.take 7) = _
    rw [Nat.zero_mul, Nat.zero_add, val_from, List.length_take, Nat.min_eq_left (by simp at hl; omega)]
  have hv := val_lt 7 (l.take 7) (bytes_take (fun y hy => hb y (List.mem_cons_of_mem _ hy)) 7) (by rw [List.length_take]; simp at hl; omega)
  rw [e]
  have h7 : (256 : Nat) ^ 7 = 72057594037927936 := by decide
  rw [h7] at hv ⊢
  show _ ↔ 64 ≤ x
  omega
theorem range_iff {c : Nat} (h : 0 ≤ size c) (h1 : c ≠ 111) (h2 : c ≠ 116) {l : List Nat} (hb : bytes l) (hl : zs c ≤ l.length) : (mostN c < val (l.take (zs c))) ↔ (zs c = 8 ∧ 64 ≤ l.getD 0 0) := by
  rcases letter h with rfl | rfl | rfl | rfl | rfl
  · have hv := val_lt 1 (l.take 1) (bytes_take hb 1) (by rw [List.length_take]; have : zs 98 = 1 := rfl; omega)
    have e1 : zs 98 = 1 := rfl
    have e2 : mostN 98 = 255 := rfl
    rw [e1, e2]
    omega
  · have e1 : zs 119 = 4 := rfl
    have e2 : mostN 119 = 4294967295 := rfl
    rw [e1] at hl
    have hv := val_lt 4 (l.take 4) (bytes_take hb 4) (by rw [List.length_take]; omega)
    have h4 : (256 : Nat) ^ 4 = 4294967296 := by decide
    rw [e1, e2]
    omega
  · have e1 : zs 113 = 8 := rfl
    have e2 : mostN 113 = 4611686018427387903 := rfl
    rw [e1] at hl
    rw [e1, e2, val_head hb hl]
    exact ⟨fun h => ⟨rfl, h⟩, fun h => h.2⟩
  · exact absurd rfl h1
  · exact absurd rfl h2
theorem most_small (c : Nat) : mostN c ≤ 4611686018427387903 := by
  have := most_le c
  unfold mostN
  omega
theorem val_two {l : List Nat} (h : 2 ≤ l.length) : val (l.take 2) = l.getD 0 0 * 256 + l.getD 1 0 := by
  rw [val_take (k := 1) (by omega), val_take (k := 0) (by omega)]
  simp [val]
end Oc
/-- What the document's Rest answers. -/
def RRestPost (s : ByteArray) (xs : List Nat) (w : World) (e : Ending) (w' : World) : Prop :=
  Below w.heap.size w w' ∧
  (Oc.known s.data.toList = false → e = .returned (.tuple #[.slice none 0 0, .slice none 0 0, .int .i64 7])) ∧
  (Oc.known s.data.toList = true → ∀ c, Oc.reads (shN s) xs = .bad c → e = .returned (.tuple #[.slice none 0 0, .slice none 0 0, .int .i64 (c : Int)])) ∧
  (Oc.known s.data.toList = true → ∀ l p, Oc.reads (shN s) xs = .ok l p → ∃ A1 b c1 fs A2 c2, e = .returned (.tuple #[.slice A1 fs.length c1, .slice A2 (xs.drop p).length c2, .int .i64 0]) ∧ (0 < fs.length → A1 = some ⟨b, 0, none⟩) ∧ FRow w' b 0 fs ∧ fs.map Oc.says = l.map Oc.lays ∧ Rd w' (.slice A2 (xs.drop p).length c2) (xs.drop p))
/-- what the loop keeps -/
def RRel (s : ByteArray) (xs : List Nat) (w wr : World) (vb v : Value) (k : Nat) : Prop :=
  ∃ l p fs, Oc.reads ((shN s).take k) xs = .ok l p ∧ fs.map Oc.says = l.map Oc.lays ∧ Rd w vb (xs.drop p) ∧ OwnF w wr v k (cellsF fs) ∧ ∀ f ∈ fs, Rd w (.slice f.A f.l f.c) f.bs ∧ f.bs.length = f.l
theorem rrest_bad {s : ByteArray} {xs : List Nat} {w w' : World} {c : Nat} (hk : Oc.known s.data.toList = true) (hr : Oc.reads (shN s) xs = .bad c) (hb : Below w.heap.size w w') {e : Ending} (he : e = .returned (.tuple #[.slice none 0 0, .slice none 0 0, .int .i64 (c : Int)])) : RRestPost s xs w e w' :=
  ⟨hb, fun h => (by rw [hk] at h; cases h), fun _ c' h => (by rw [hr] at h; injection h with h; subst h; exact he), fun _ l p h => (by rw [hr] at h; cases h)⟩
theorem rrest_done {s : ByteArray} {xs : List Nat} {w wr : World} {vb v : Value} (hk : Oc.known s.data.toList = true) (h : RRel s xs w wr vb v s.size) : RRestPost s xs w (.returned (.tuple #[v, vb, .int .i64 0])) wr := by
  obtain ⟨l, p, fs, h1, h2, h3, h4, h5⟩ := h
  rw [List.take_of_length_le (by rw [shN_len]; exact Nat.le_refl _)] at h1
  refine ⟨h4.bel, fun h => (by rw [hk] at h; cases h), fun _ c' h => (by rw [h1] at h; cases h), fun _ l' p' h => ?_⟩
  rw [h1] at h
  injection h with e1 e2
  subst e1 e2
  have hl : fs.length = s.size := by rw [says_len h2, Oc.reads_len h1, shN_len]
  rw [← hl] at h4
  obtain ⟨g, c, rfl, hrow⟩ := h4.row h5
  have h3b := h3.below h4.bel (Nat.le_refl _)
  obtain ⟨A2, c2, rfl, _, _⟩ := h3
  exact ⟨_, g, c, fs, A2, c2, rfl, fun _ => rfl, hrow, h2, h3b⟩
theorem OwnF.step {w0 w w' : World} {v : Value} {k : Nat} {cs : List Value} (h : OwnF w0 w v k cs) (hb : Below w.heap.size w w') : OwnF w0 w' v k cs :=
  ⟨h.own.kept (only_of_below hb none) (by cases hv : v.ownBlock with | none => exact Or.inl rfl | some g => exact Or.inr (by simp)), below_then h.bel hb, h.some_⟩
theorem OwnF.app {w0 w w' : World} {v v2 : Value} {k : Nat} {fs : List Fld} {f : Fld} (h : OwnF w0 w v k (cellsF fs)) (ho : w'.ownsRow w0.heap.size 48 2 v2 (k + 1) (cellsF fs ++ [.int .i64 f.n, .slice f.A f.l f.c])) (hg : w.grownBy w' v.ownBlock) : OwnF w0 w' v2 (k + 1) (cellsF (fs ++ [f])) :=
  ⟨by simpa [cellsF] using ho, below_own h.bel h.own (Nat.le_refl _) hg, by
    rcases ho.2 with ⟨_, h0⟩ | ⟨g, cp, cur, hv, _⟩
    · omega
    · exact ⟨g, cp, hv⟩⟩
theorem rrel_next {s : ByteArray} {xs : List Nat} {w w' : World} {vb v2 : Value} {k n m p : Nat} {l : List (Nat × List Nat)} {x : List Nat} {fs : List Fld} {f : Fld}
    (h1 : Oc.reads ((shN s).take (k + 1)) xs = .ok (l ++ [(n, x)]) (p + m)) (h2 : fs.map Oc.says = l.map Oc.lays) (h3 : Rd w vb ((xs.drop p).drop m)) (h4 : OwnF w w' v2 (k + 1) (cellsF (fs ++ [f]))) (h5 : ∀ f ∈ fs, Rd w (.slice f.A f.l f.c) f.bs ∧ f.bs.length = f.l)
    (g1 : f.n = (n : Int)) (g2 : f.bs = x) (g3 : Rd w (.slice f.A f.l f.c) f.bs ∧ f.bs.length = f.l) : RRel s xs w w' vb v2 (k + 1) := by
  refine ⟨_, _, fs ++ [f], h1, says_snoc h2 g1 g2, by rw [List.drop_drop] at h3; exact h3, h4, fun y hy => ?_⟩
  rcases List.mem_append.1 hy with hy | hy
  · exact h5 y hy
  · rw [List.mem_singleton.1 hy]; exact g3
end Go.Proofs.YtedlfafbehhkdaaDoor
