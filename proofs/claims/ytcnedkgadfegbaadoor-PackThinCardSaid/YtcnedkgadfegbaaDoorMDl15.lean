/- What delta.Make makes, as a list: it makes the target of the base; how long it is and how many steps it has. -/
import Derived.Test.YtcnedkgadfegbaaDoorMDl14
namespace Go.Proofs.YtcnedkgadfegbaaDoor.Dl
open Go Go.Proofs.YtcnedkgadfegbaaDoor
/-- the fresh bytes from a place on -/
def frp (text : List Nat) (p : Nat) : List Nat := frs text (chk text.length p)
theorem frp_end {text : List Nat} {p : Nat} (h : text.length ≤ p) : frp text p = [] := by unfold frp; rw [chk_end h]; rfl
theorem frp_step {text : List Nat} {p : Nat} (h : p < text.length) : frp text p = min 127 (text.length - p) :: (text.drop p).take (min 127 (text.length - p)) ++ frp text (p + 127) := by
  unfold frp; rw [chk_step h]; simp [frs]
theorem chk_count (n : Nat) : ∀ (k p : Nat), n - p ≤ k → (chk n p).length ≤ n - p
  | _k, p, _ => chk_len n p
theorem frp_len (text : List Nat) : ∀ (k p : Nat), text.length - p ≤ k → (frp text p).length = (text.length - p) + (chk text.length p).length
  | 0, p, h => by rw [frp_end (by omega), chk_end (by omega)]; simp; omega
  | k + 1, p, h => by
    by_cases hp : p < text.length
    · rw [frp_step hp, chk_step hp]
      simp only [List.cons_append, List.length_cons, List.length_append, List.length_take, List.length_drop]
      rw [frp_len text k (p + 127) (by omega)]
      omega
    · rw [frp_end (by omega), chk_end (by omega)]; simp; omega
theorem at0_of_drop {d : List Nat} {q : Nat} {x : Nat} {r : List Nat} (h : d.drop q = x :: r) : at0 d q = x ∧ q < d.length ∧ d.drop (q + 1) = r := by
  have hq : q < d.length := by
    by_cases hq : q < d.length
    · exact hq
    · rw [List.drop_eq_nil_of_le (by omega)] at h; cases h
  refine ⟨?_, hq, ?_⟩
  · have h2 : (d.drop q).getD 0 0 = d.getD (q + 0) 0 := Sha.getD_drop ..
    rw [h] at h2
    exact h2.symm
  · rw [← List.drop_drop, h]; rfl
theorem fresh_at {d : List Nat} {q e : Nat} {t r : List Nat} (h : d.drop q = e :: t ++ r) (ht : t.length = e) (h0 : 0 < e) (h1 : e ≤ 127) :
    evs d q = .fresh e (q + 1) :: evs d (q + 1 + e) ∧ (d.drop (q + 1)).take e = t ∧ d.drop (q + 1 + e) = r := by
  obtain ⟨a, b, c⟩ := at0_of_drop (show d.drop q = e :: (t ++ r) from h)
  have hl : d.length - (q + 1) = t.length + r.length := by rw [← List.length_drop, c, List.length_append]
  have hev : evAt d q = (.fresh e (q + 1), 1 + e) := by
    unfold evAt
    rw [a, if_neg (by omega), if_pos (by omega), if_neg (by omega)]
  refine ⟨?_, ?_, ?_⟩
  · rw [evs_step b hev (by intro s h; cases h), Nat.add_assoc]
  · rw [c, ← ht]; simp
  · rw [← List.drop_drop, c, ← ht]; simp
theorem copy_at {d : List Nat} {q n f : Nat} {r : List Nat} (h : d.drop q = (128 + n) :: f / 256 :: f % 256 :: r) (h0 : 0 < n) (h1 : n ≤ 127) :
    evs d q = .copy n f :: evs d (q + 3) ∧ d.drop (q + 3) = r := by
  obtain ⟨a, b, c⟩ := at0_of_drop h
  obtain ⟨a2, b2, c2⟩ := at0_of_drop c
  obtain ⟨a3, b3, c3⟩ := at0_of_drop c2
  have hev : evAt d q = (.copy n f, 3) := by
    unfold evAt two
    have e1 : 128 + n - 128 = n := by omega
    have e2 : f / 256 * 256 + f % 256 = f := by omega
    rw [a, if_neg (by omega), if_neg (by omega), if_neg (by omega), a2, a3, e1, e2]
  exact ⟨evs_step b hev (by intro s h; cases h), c3⟩
theorem run_frp (base d : List Nat) (to : Nat) (text : List Nat) : ∀ (k p q : Nat) (r out : List Nat), text.length - p ≤ k → d.drop q = frp text p ++ r → out.length + (text.length - p) ≤ to →
    runE base d to (evs d q) out = runE base d to (evs d (q + (frp text p).length)) (out ++ text.drop p) ∧ d.drop (q + (frp text p).length) = r
  | 0, p, q, r, out, h, hd, ho => by
    rw [frp_end (by omega)] at hd ⊢
    rw [List.drop_eq_nil_of_le (by omega : text.length ≤ p)]
    exact ⟨by simp, by simpa using hd⟩
  | k + 1, p, q, r, out, h, hd, ho => by
    by_cases hp : p < text.length
    · obtain ⟨e, he⟩ : ∃ e, e = min 127 (text.length - p) := ⟨_, rfl⟩
      rw [frp_step hp, ← he] at hd ⊢
      have hl : ((text.drop p).take e).length = e := by rw [List.length_take, List.length_drop]; omega
      rw [List.append_assoc] at hd
      obtain ⟨h1, h2, h3⟩ := fresh_at hd hl (by omega) (by omega)
      obtain ⟨g1, g2⟩ := run_frp base d to text k (p + 127) (q + 1 + e) r (out ++ (text.drop p).take e) (by omega) h3 (by rw [List.length_append, hl]; omega)
      have e1 : q + (e :: (text.drop p).take e ++ frp text (p + 127)).length = q + 1 + e + (frp text (p + 127)).length := by simp [hl]; omega
      have hj : (text.drop p).take e ++ text.drop (p + 127) = text.drop p := by
        by_cases h127 : text.length - p ≤ 127
        · rw [List.drop_eq_nil_of_le (by omega : text.length ≤ p + 127), List.append_nil, List.take_of_length_le (by rw [List.length_drop]; omega)]
        · rw [show e = 127 by omega, ← List.drop_drop, List.take_append_drop]
      rw [e1, h1, runE, if_neg (by omega), h2, g1, List.append_assoc, hj]
      exact ⟨rfl, g2⟩
    · rw [frp_end (by omega)] at hd ⊢
      rw [List.drop_eq_nil_of_le (by omega : text.length ≤ p)]
      exact ⟨by simp, by simpa using hd⟩
theorem count_frp (d : List Nat) (text : List Nat) : ∀ (k p q : Nat) (r : List Nat) (a b : Nat), text.length - p ≤ k → d.drop q = frp text p ++ r →
    count (evs d q) a b = count (evs d (q + (frp text p).length)) a (b + (chk text.length p).length) ∧ d.drop (q + (frp text p).length) = r
  | 0, p, q, r, a, b, h, hd => by
    rw [frp_end (by omega)] at hd ⊢
    rw [chk_end (by omega)]
    exact ⟨by simp, by simpa using hd⟩
  | k + 1, p, q, r, a, b, h, hd => by
    by_cases hp : p < text.length
    · obtain ⟨e, he⟩ : ∃ e, e = min 127 (text.length - p) := ⟨_, rfl⟩
      rw [frp_step hp, ← he] at hd ⊢
      rw [chk_step hp]
      have hl : ((text.drop p).take e).length = e := by rw [List.length_take, List.length_drop]; omega
      rw [List.append_assoc] at hd
      obtain ⟨h1, h2, h3⟩ := fresh_at hd hl (by omega) (by omega)
      obtain ⟨g1, g2⟩ := count_frp d text k (p + 127) (q + 1 + e) r a (b + 1) (by omega) h3
      have e1 : q + (e :: (text.drop p).take e ++ frp text (p + 127)).length = q + 1 + e + (frp text (p + 127)).length := by simp [hl]; omega
      rw [e1, h1, count, g1, List.length_cons, show b + ((chk text.length (p + 127)).length + 1) = b + 1 + (chk text.length (p + 127)).length by omega]
      exact ⟨rfl, g2⟩
    · rw [frp_end (by omega)] at hd ⊢
      rw [chk_end (by omega)]
      exact ⟨by simp, by simpa using hd⟩
/-- the steps of a list of copies, from a place of the target on -/
def mkS (target : List Nat) : Nat → List (Nat × Nat × Nat) → List Nat
  | told, [] => fr (target.drop told)
  | told, (p, n, f) :: r => fr ((target.drop told).take (p - told)) ++ ((128 + n) :: f / 256 :: f % 256 :: mkS target (p + n) r)
def front (base target : List Nat) : List Nat := [base.length / 256, base.length % 256, target.length / 256, target.length % 256]
/-- the delta -/
def mk (base target : List Nat) : List Nat := front base target ++ mkS target 0 (cps base target 0)
/-- how far the first copies have come: the bytes made, and how many of the target are told -/
def mkA (target : List Nat) : List Nat × Nat → List (Nat × Nat × Nat) → List Nat × Nat
  | s, [] => s
  | s, (p, n, f) :: r => mkA target (s.1 ++ fr ((target.drop s.2).take (p - s.2)) ++ [128 + n] ++ [f / 256, f % 256], p + n) r
theorem mkA_snoc (target : List Nat) : ∀ (l : List (Nat × Nat × Nat)) (s : List Nat × Nat) (p n f : Nat), mkA target s (l ++ [(p, n, f)]) = ((mkA target s l).1 ++ fr ((target.drop (mkA target s l).2).take (p - (mkA target s l).2)) ++ [128 + n] ++ [f / 256, f % 256], p + n)
  | [], _, _, _, _ => rfl
  | (_, _, _) :: l, _, p, n, f => by
    show mkA target _ (l ++ _) = _
    rw [mkA_snoc target l]; rfl
theorem mkA_mkS (target : List Nat) : ∀ (l : List (Nat × Nat × Nat)) (b : List Nat) (told : Nat), (mkA target (b, told) l).1 ++ fr (target.drop (mkA target (b, told) l).2) = b ++ mkS target told l
  | [], _, _ => rfl
  | (p, n, f) :: l, b, told => by
    refine (mkA_mkS target l _ (p + n)).trans ?_
    rw [mkS]; simp
/-- copies that follow one another and stand in the base -/
def okL (base target : List Nat) : Nat → List (Nat × Nat × Nat) → Prop
  | told, [] => told ≤ target.length
  | told, (p, n, f) :: r => told ≤ p ∧ p + n ≤ target.length ∧ 4 ≤ n ∧ n ≤ 127 ∧ f + n ≤ base.length ∧ (base.drop f).take n = (target.drop p).take n ∧ okL base target (p + n) r
theorem okL_cps (base target : List Nat) : ∀ (k p told : Nat), target.length - p ≤ k → told ≤ p → p ≤ target.length → okL base target told (cps base target p)
  | 0, p, told, h, h1, h2 => by rw [cps_end (by omega)]; show told ≤ _; omega
  | k + 1, p, told, h, h1, h2 => by
    by_cases hp : p < target.length
    · rcases lg_best base (target.drop p) with ⟨e, _⟩ | ⟨e1, e2, e3, e4, e5⟩
      · rw [cps_skip hp e]
        exact okL_cps base target k (p + 1) told (by omega) (by omega) (by omega)
      · rw [cps_copy hp (by omega)]
        have hc := cmn_le (base.drop (lg base (target.drop p)).2) (target.drop p) 127
        rw [e3, List.length_drop, List.length_drop] at hc
        exact ⟨h1, by omega, e1, hc.1, by omega, hc.2.2.2, okL_cps base target k _ _ (by omega) (Nat.le_refl _) (by omega)⟩
    · rw [cps_end (by omega)]; show told ≤ _; omega
/-- between two copies: what is told so far, of good copies -/
theorem okL_mid {base target : List Nat} : ∀ {l : List (Nat × Nat × Nat)} {told : Nat} {b : List Nat} {p n f : Nat} {r : List (Nat × Nat × Nat)}, okL base target told (l ++ (p, n, f) :: r) →
    (mkA target (b, told) l).2 ≤ p ∧ p + n ≤ target.length ∧ 4 ≤ n ∧ n ≤ 127 ∧ f + n ≤ base.length
  | [], _, _, _, _, _, _, h => ⟨h.1, h.2.1, h.2.2.1, h.2.2.2.1, h.2.2.2.2.1⟩
  | (_p', _n', _f') :: l, _told, _b, _p, _n, _f, _r, h => okL_mid (l := l) (b := _) h.2.2.2.2.2.2
theorem okL_end {base target : List Nat} : ∀ {l : List (Nat × Nat × Nat)} {told : Nat} {b : List Nat}, okL base target told l → (mkA target (b, told) l).2 ≤ target.length
  | [], _, _, h => h
  | (_p', _n', _f') :: l, _told, _b, h => okL_end (l := l) (b := _) h.2.2.2.2.2.2
theorem fr_eq (text : List Nat) : fr text = frp text 0 := rfl
theorem run_mkS (base d target : List Nat) : ∀ (l : List (Nat × Nat × Nat)) (told q : Nat), okL base target told l → d.drop q = mkS target told l → runE base d target.length (evs d q) (target.take told) = .ok target
  | [], told, q, h, hd => by
    have ht : told ≤ target.length := h
    obtain ⟨g1, g2⟩ := run_frp base d target.length (target.drop told) _ 0 q [] (target.take told) (Nat.le_refl _) (by rw [← fr_eq, List.append_nil]; exact hd) (by rw [List.length_take, List.length_drop]; omega)
    rw [g1]
    have hq : d.length ≤ q + (frp (target.drop told) 0).length := List.drop_eq_nil_iff.1 g2
    rw [evs_end hq, runE, List.drop_zero, List.take_append_drop, if_neg (Nat.lt_irrefl _)]
  | (p, n, f) :: l, told, q, ⟨h1, h2, h3, h4, h5, h6, h7⟩, hd => by
    have hl : ((target.drop told).take (p - told)).length = p - told := by rw [List.length_take, List.length_drop]; omega
    obtain ⟨g1, g2⟩ := run_frp base d target.length ((target.drop told).take (p - told)) _ 0 q _ (target.take told) (Nat.le_refl _) (by rw [← fr_eq]; exact hd) (by rw [hl, List.length_take]; omega)
    rw [g1, List.drop_zero]
    have hj : target.take told ++ (target.drop told).take (p - told) = target.take p := by
      rw [← List.take_add, show told + (p - told) = p by omega]
    rw [hj]
    obtain ⟨c1, c2⟩ := copy_at g2 (by omega) h4
    rw [c1, runE, if_neg (by omega), if_neg (by rw [List.length_take]; omega), h6, ← List.take_add]
    exact run_mkS base d target l (p + n) _ h7 c2
theorem count_mkS (base d target : List Nat) : ∀ (l : List (Nat × Nat × Nat)) (told q a b : Nat), okL base target told l → d.drop q = mkS target told l →
    ∃ k, count (evs d q) a b = some (a + l.length, b + k) ∧ k ≤ target.length - told ∧ (mkS target told l).length ≤ 2 * (target.length - told)
  | [], told, q, a, b, h, hd => by
    obtain ⟨g1, g2⟩ := count_frp d (target.drop told) _ 0 q [] a b (Nat.le_refl _) (by rw [← fr_eq, List.append_nil]; exact hd)
    have hq : d.length ≤ q + (frp (target.drop told) 0).length := List.drop_eq_nil_iff.1 g2
    have hc := chk_len (target.drop told).length 0
    have hf := frp_len (target.drop told) _ 0 (Nat.le_refl _)
    rw [List.length_drop] at hc hf
    refine ⟨_, by rw [g1, evs_end hq]; rfl, by rw [List.length_drop]; omega, ?_⟩
    rw [mkS, fr_eq, hf]
    omega
  | (p, n, f) :: l, told, q, a, b, ⟨h1, h2, h3, h4, h5, h6, h7⟩, hd => by
    have hl : ((target.drop told).take (p - told)).length = p - told := by rw [List.length_take, List.length_drop]; omega
    obtain ⟨g1, g2⟩ := count_frp d ((target.drop told).take (p - told)) _ 0 q _ a b (Nat.le_refl _) (by rw [← fr_eq]; exact hd)
    obtain ⟨c1, c2⟩ := copy_at g2 (by omega) h4
    obtain ⟨k, k1, k2, k3⟩ := count_mkS base d target l (p + n) _ (a + 1) (b + (chk ((target.drop told).take (p - told)).length 0).length) h7 c2
    have hc := chk_len ((target.drop told).take (p - told)).length 0
    have hf := frp_len ((target.drop told).take (p - told)) _ 0 (Nat.le_refl _)
    rw [hl] at hc hf
    refine ⟨(chk ((target.drop told).take (p - told)).length 0).length + k, ?_, by rw [hl]; omega, ?_⟩
    · rw [g1, c1, count, k1, List.length_cons, show a + 1 + l.length = a + (l.length + 1) by omega, Nat.add_assoc]
    · rw [mkS, fr_eq, List.length_append, hf, List.length_cons, List.length_cons, List.length_cons]
      omega
theorem mk_front (base target : List Nat) : (mk base target).drop 4 = mkS target 0 (cps base target 0) := rfl
theorem mk_len (base target : List Nat) : (mk base target).length = 4 + (mkS target 0 (cps base target 0)).length := by unfold mk front; simp; omega
theorem mk_two (base target : List Nat) : two (mk base target) 0 = base.length ∧ two (mk base target) 2 = target.length := by
  unfold two at0 mk front
  simp
  omega
theorem mk_back (base target : List Nat) (_hb : base.length ≤ 300) (ht : target.length ≤ 300) : applyP base (mk base target) = .ok target := by
  have h2 := mk_two base target
  unfold applyP
  rw [if_neg (by rw [mk_len]; omega), h2.1, h2.2, if_neg (by simp), if_neg (by omega)]
  exact run_mkS base _ target _ 0 4 (okL_cps base target _ 0 0 (Nat.le_refl _) (Nat.le_refl _) (Nat.zero_le _)) (mk_front base target)
theorem mk_count (base target : List Nat) : ∃ k, count (evs (mk base target) 4) 0 0 = some ((cps base target 0).length, k) ∧ k ≤ target.length ∧ (mk base target).length ≤ 4 + 2 * target.length := by
  obtain ⟨k, h1, h2, h3⟩ := count_mkS base (mk base target) target _ 0 4 0 0 (okL_cps base target _ 0 0 (Nat.le_refl _) (Nat.le_refl _) (Nat.zero_le _)) (mk_front base target)
  exact ⟨k, by simpa using h1, by omega, by rw [mk_len]; omega⟩
/-- a text of itself -/
theorem lg_self (base : List Nat) (p : Nat) (h : p + 4 ≤ base.length) : (lg base (base.drop p)).1 = min 127 (base.length - p) := by
  have hs : min 127 (base.length - p) ≤ cmn (base.drop p) (base.drop p) 127 := (cmn_ge _ _ _ _).2 ⟨by omega, by rw [List.length_drop]; omega, by rw [List.length_drop]; omega, rfl⟩
  rcases lg_best base (base.drop p) with ⟨_, _, e⟩ | ⟨e1, e2, e3, e4, e5⟩
  · have := e p (by omega); omega
  · have := e4 p (by omega)
    have hc := cmn_le (base.drop (lg base (base.drop p)).2) (base.drop p) 127
    rw [e3, List.length_drop, List.length_drop] at hc
    omega
theorem self_len (base : List Nat) : ∀ (k p : Nat), base.length - p ≤ k → (mkS base p (cps base base p)).length ≤ 3 * ((base.length - p) / 127 + 1) + 4 := by
  have hend : ∀ p, base.length - p < 4 → (mkS base p (cps base base p)).length ≤ 4 ∧ (base.length ≤ p → (mkS base p (cps base base p)).length = 0) := fun p h => by
    have hc : ∀ j q, base.length - q < 4 → base.length - q ≤ j → cps base base q = [] := by
      intro j
      induction j with
      | zero => intro q _ h0; exact cps_end (by omega)
      | succ j ih =>
        intro q hq hj
        by_cases hp : q < base.length
        · rw [cps_skip hp (by rw [lg_short (by rw [List.length_drop]; omega)])]
          exact ih (q + 1) (by omega) (by omega)
        · exact cps_end (by omega)
    rw [hc _ p h (Nat.le_refl _), mkS, fr_eq, frp_len _ _ 0 (Nat.le_refl _)]
    by_cases hp : p < base.length
    · rw [chk_step (by rw [List.length_drop]; omega), chk_end (by rw [List.length_drop]; omega), List.length_drop]
      simp only [List.length_cons, List.length_nil]
      omega
    · rw [chk_end (by rw [List.length_drop]; omega), List.length_drop]
      simp only [List.length_nil]
      omega
  intro k
  induction k with
  | zero => intro p h; have := hend p (by omega); omega
  | succ k ih =>
    intro p h
    by_cases h4 : base.length - p < 4
    · have := hend p h4; omega
    · have hl := lg_self base p (by omega)
      rw [cps_copy (by omega) (by omega), hl, mkS, Nat.sub_self, List.take_zero]
      rw [show fr [] = [] from rfl, List.nil_append, List.length_cons, List.length_cons, List.length_cons]
      by_cases h127 : base.length - p < 127
      · have := (hend (p + min 127 (base.length - p)) (by omega)).2 (by omega)
        omega
      · have := ih (p + min 127 (base.length - p)) (by omega)
        rw [show base.length - (p + min 127 (base.length - p)) = base.length - p - 127 by omega] at this
        have h3 : (base.length - p) / 127 = (base.length - p - 127) / 127 + 1 := by omega
        omega
theorem mk_self (base : List Nat) (h : 4 ≤ base.length) : 1 ≤ (cps base base 0).length ∧ (mk base base).length ≤ 4 + 3 * (base.length / 127 + 1) + 4 := by
  have := self_len base _ 0 (Nat.le_refl _)
  rw [mk_len]
  refine ⟨?_, by rw [Nat.sub_zero] at this; omega⟩
  have hl := lg_self base 0 (by omega)
  rw [cps_copy (by omega) (by omega), List.length_cons]
  omega
end Go.Proofs.YtcnedkgadfegbaaDoor.Dl
