/- The document's Make: what its steps come to. -/
import Derived.Test.YthagldpgibpbdaaDoorDl24
namespace Go.Proofs.YthagldpgibpbdaaDoor
open Go Go.RowKit Go.Shelf
namespace Dl
theorem best_one {base text : List Nat} {k : Nat} {s t : Nat × Nat} (h : Best base text k s) (h' : Best base text k t) : s = t := by
  obtain ⟨a, b⟩ := s
  obtain ⟨c, d⟩ := t
  rcases h with ⟨h1, h2, h3⟩ | ⟨h1, h2, h3, h4, h5⟩ <;> rcases h' with ⟨g1, g2, g3⟩ | ⟨g1, g2, g3, g4, g5⟩
  · simp only at h1 h2 g1 g2; rw [h1, h2, g1, g2]
  · simp only at g1 g2 g3; have := h3 d g2; omega
  · simp only at h1 h2 h3; have := g3 b h2; omega
  · simp only at *
    have a1 := h4 d g2
    have a2 := g4 b h2
    have e : a = c := by omega
    have e2 : b = d := by
      rcases Nat.lt_trichotomy b d with h | h | h
      · have := g5 b h; omega
      · exact h
      · have := h5 d h; omega
    rw [e, e2]
theorem occ_cmn {base text : List Nat} {k i : Nat} (hk : k ≤ text.length) (h127 : k ≤ 127) (h0 : 0 < k) : Occ base (text.take k) i ↔ k ≤ cmn (base.drop i) text 127 := by
  have hl : (text.take k).length = k := by rw [List.length_take]; omega
  unfold Occ
  rw [hl, cmn_ge, List.length_drop]
  constructor
  · rintro ⟨h1, h2⟩
    exact ⟨h127, by omega, hk, h2⟩
  · rintro ⟨h1, h2, h3, h4⟩
    exact ⟨by omega, h4⟩
theorem lg_found {base text : List Nat} {k i : Nat} (h4 : 4 ≤ k) (hk : k ≤ text.length) (h127 : k ≤ 127) (ho : Occ base (text.take k) i) (hf : ∀ j, j < i → ¬ Occ base (text.take k) j) (hall : ∀ j, cmn (base.drop j) text 127 ≤ k) : lg base text = (k, i) := by
  have h1 := (occ_cmn hk h127 (by omega)).1 ho
  have hc := cmn_le (base.drop i) text 127
  rw [List.length_drop] at hc
  refine best_one (lg_best base text) (.inr ⟨h4, by simp only; omega, by simp only; have := hall i; omega, fun j _ => hall j, fun j hj => ?_⟩)
  exact Nat.lt_of_not_le fun h => hf j hj ((occ_cmn hk h127 (by omega)).2 h)
theorem lg_none {base text : List Nat} (hall : ∀ j, cmn (base.drop j) text 127 ≤ 3) : lg base text = (0, 0) :=
  best_one (lg_best base text) (.inl ⟨rfl, rfl, fun j _ => by have := hall j; omega⟩)
theorem frp_shift (text : List Nat) : ∀ (k p : Nat), text.length - p ≤ k → frp text p = fr (text.drop p)
  | 0, p, h => by rw [frp_end (by omega), List.drop_eq_nil_of_le (by omega : text.length ≤ p)]; rfl
  | k + 1, p, h => by
    by_cases hp : p < text.length
    · rw [frp_step hp, fr_eq, frp_step (text := text.drop p) (p := 0) (by rw [List.length_drop]; omega), List.length_drop, List.drop_zero, Nat.sub_zero, frp_shift text k (p + 127) (by omega)]
      by_cases h127 : text.length - p ≤ 127
      · rw [List.drop_eq_nil_of_le (by omega : text.length ≤ p + 127), frp_end (by rw [List.length_drop]; omega)]; rfl
      · rw [frp_shift (text.drop p) k (0 + 127) (by rw [List.length_drop]; omega), List.drop_drop]
    · rw [frp_end (by omega), List.drop_eq_nil_of_le (by omega : text.length ≤ p)]; rfl
theorem fr_step {xs : List Nat} (h : 0 < xs.length) : fr xs = min 127 xs.length :: xs.take (min 127 xs.length) ++ fr (xs.drop (min 127 xs.length)) := by
  rw [fr_eq, frp_step h, List.drop_zero, Nat.sub_zero, frp_shift xs _ (0 + 127) (Nat.le_refl _), Nat.zero_add]
  by_cases h127 : xs.length ≤ 127
  · rw [List.drop_eq_nil_of_le (by omega : xs.length ≤ 127), List.drop_eq_nil_of_le (by omega : xs.length ≤ min 127 xs.length)]
  · rw [show min 127 xs.length = 127 by omega]
/-- before a place of the target: what is out, what is kept back -/
def MR (base target ys fs : List Nat) (p : Nat) : Prop :=
  fs.length ≤ p ∧ fs = (target.drop (p - fs.length)).take fs.length ∧ mk base target = ys ++ mkS target (p - fs.length) (cps base target p)
theorem MR.start (base target : List Nat) : MR base target (front base target) [] 0 := ⟨Nat.le_refl _, rfl, rfl⟩
theorem MR.len {base target ys fs : List Nat} {p : Nat} (h : MR base target ys fs p) : ys.length ≤ 4 + 2 * target.length := by
  obtain ⟨k, _, _, h3⟩ := mk_count base target
  rw [h.2.2, List.length_append] at h3
  omega
theorem MR.skip {base target ys fs : List Nat} {p : Nat} (h : MR base target ys fs p) (hp : p < target.length) (h0 : (lg base (target.drop p)).1 = 0) : MR base target ys (fs ++ [target.getD p 0]) (p + 1) := by
  obtain ⟨h1, h2, h3⟩ := h
  have hl : (fs ++ [target.getD p 0]).length = fs.length + 1 := by simp
  refine ⟨by rw [hl]; omega, ?_, ?_⟩
  · rw [hl, show p + 1 - (fs.length + 1) = p - fs.length by omega, take_snocD (by rw [List.length_drop]; omega), ← h2, Sha.getD_drop, show p - fs.length + fs.length = p by omega]
  · rw [hl, show p + 1 - (fs.length + 1) = p - fs.length by omega, h3, cps_skip hp h0]
theorem MR.copy {base target ys fs : List Nat} {p n f : Nat} (h : MR base target ys fs p) (hp : p < target.length) (he : lg base (target.drop p) = (n, f)) (h0 : 0 < n) : MR base target (ys ++ fr fs ++ [128 + n, f / 256, f % 256]) [] (p + n) := by
  obtain ⟨h1, h2, h3⟩ := h
  refine ⟨Nat.zero_le _, rfl, ?_⟩
  rw [h3, cps_copy hp (by rw [he]; exact h0), he, mkS, show p - (p - fs.length) = fs.length by omega, ← h2]
  simp
theorem MR.done {base target ys fs : List Nat} {p : Nat} (h : MR base target ys fs p) (hp : p = target.length) : mk base target = ys ++ fr fs := by
  obtain ⟨h1, h2, h3⟩ := h
  rw [h3, cps_end (by omega), mkS]
  rw [List.take_of_length_le (by rw [List.length_drop]; omega)] at h2
  rw [← h2]
end Dl
/-- append of bytes onto a row of the call's own, with the block where it lies -/
theorem Dl.appendL {o : Oper} {a : Act} {w : World} {K : Act → World → Prop} {Q : Exit → Act → World → Prop} (s x : Operand)
    (ho : o.op = .call { callee := .builtin .append, args := #[s, x], argTypes := #[22, 22] }) (base : Nat) (v : Value) (ys : List Nat) (hs : a.eval s = v) (hown : w.ownsRow base 5 1 v ys.length (cellsB ys)) (hbase : base ≤ w.heap.size)
    (u : Value) (hx : a.eval x = u) (xs : List Nat) (hu : Rd w u xs) (h0 : 0 < xs.length) (hz : ys.length + xs.length ≤ 70368744177664)
    (h : ∀ g cap w', w'.ownsRow base 5 1 (.slice (some ⟨g, 0, none⟩) (ys.length + xs.length) cap) (ys ++ xs).length (cellsB (ys ++ xs)) → w.grownBy w' v.ownBlock → (v.ownBlock = some g ∨ g = w.heap.size) → K (a.put o.dst (.slice (some ⟨g, 0, none⟩) (ys.length + xs.length) cap)) w') : o.wp Tryd.prog a w K Q := by
  obtain ⟨i0, hi0, hiz, his, hib⟩ := info_parts byte_info
  obtain ⟨A, c, rfl, hc, hA⟩ := hu
  have e0 : cellsB ys ++ cellsB xs = cellsB (ys ++ xs) := by simp [cellsB]
  obtain ⟨b, o', rfl, _, hxx⟩ := hA h0
  refine wp_append_lies w s x 22 ho base 5 i0 _ 1 1 Tryd.underlying22 hi0 hiz his hib rfl (by decide) v ys.length (cellsB ys) hs hown _ xs.length c (cellsB xs) hx (by rw [cellsB_len, Nat.mul_one]) ?_ (cellsB_one _) h0 (by unfold maxLen; omega) (by omega) hbase _ rfl ?_
  · intro j t hj
    have hjl : j < xs.length := by have := (List.getElem?_eq_some_iff.1 hj).1; rwa [cellsB_len] at this
    rw [cellsB_get hjl] at hj
    rw [Addr.add_mid, hxx j hjl, hj]
  · intro g cap w' h1 h2 h3 _
    rw [e0] at h1
    exact h g cap w' (by rw [List.length_append]; exact h1) h2 h3
end Go.Proofs.YthagldpgibpbdaaDoor
