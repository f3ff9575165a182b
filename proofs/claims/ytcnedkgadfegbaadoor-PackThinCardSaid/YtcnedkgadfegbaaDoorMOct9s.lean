/- Reading by shapes: which fields bytes are; what was written is read again, and what is read was written so. -/
import Derived.Test.YtcnedkgadfegbaaDoorMOct5s
import Derived.WalkLawsBesides
import Derived.WalkSpells
namespace Go.Proofs.YtcnedkgadfegbaaDoor
open Go Go.RowKit
namespace Oc
/-- the number that bytes are, the greatest first -/
def val (l : List Nat) : Nat := l.foldl (fun n b => n * 256 + b) 0
theorem val_snoc (l : List Nat) (x : Nat) : val (l ++ [x]) = val l * 256 + x := by simp [val]
theorem val_take {l : List Nat} {k : Nat} (h : k < l.length) : val (l.take (k + 1)) = val (l.take k) * 256 + l.getD k 0 := by
  rw [List.take_succ_eq_append_getElem h, val_snoc]; simp [List.getD, h]
def bytes (l : List Nat) : Prop := ∀ x ∈ l, x < 256
theorem bytes_of {l : List Nat} (h : Sha.Byte l) : bytes l := fun x hx => by
  obtain ⟨i, hi, rfl⟩ := List.mem_iff_getElem.1 hx
  have := h i
  simpa [List.getD, hi] using this
theorem bytes_take {l : List Nat} (h : bytes l) (k : Nat) : bytes (l.take k) := fun x hx => h x (List.mem_of_mem_take hx)
theorem bytes_drop {l : List Nat} (h : bytes l) (k : Nat) : bytes (l.drop k) := fun x hx => h x (List.mem_of_mem_drop hx)
theorem val_lt : ∀ (s : Nat) (l : List Nat), bytes l → l.length = s → val l < 256 ^ s
  | 0, l, _, h => by rw [List.eq_nil_of_length_eq_zero h]; simp [val]
  | s + 1, l, hb, h => by
    have hne : l ≠ [] := by rintro rfl; simp at h
    rw [← List.dropLast_concat_getLast hne] at hb ⊢
    have h1 := val_lt s l.dropLast (fun x hx => hb x (List.mem_append_left _ hx)) (by simp [h])
    have h2 := hb (l.getLast hne) (by simp)
    rw [val_snoc, Nat.pow_succ]
    omega
theorem nums_succ' (s n : Nat) : nums (s + 1) n = nums s (n / 256) ++ [n % 256] := by
  unfold nums
  rw [List.range_succ, List.map_append]
  congr 1
  · apply List.map_congr_left
    intro i hi
    have hi := List.mem_range.1 hi
    have e : 8 * (s + 1 - 1 - i) = 8 + 8 * (s - 1 - i) := by omega
    rw [e, Nat.pow_add, Nat.div_div_eq_div_mul]
  · simp
theorem val_nums : ∀ (s n : Nat), n < 256 ^ s → val (nums s n) = n
  | 0, n, h => by simp at h; subst h; simp [nums, val]
  | s + 1, n, h => by
    rw [nums_succ', val_snoc, val_nums s (n / 256) (by rw [Nat.pow_succ] at h; omega)]
    omega
theorem nums_val : ∀ (s : Nat) (l : List Nat), bytes l → l.length = s → nums s (val l) = l
  | 0, l, _, h => by rw [List.eq_nil_of_length_eq_zero h]; rfl
  | s + 1, l, hb, h => by
    have hne : l ≠ [] := by rintro rfl; simp at h
    rw [← List.dropLast_concat_getLast hne] at hb ⊢
    have h1 := nums_val s l.dropLast (fun x hx => hb x (List.mem_append_left _ hx)) (by simp [h])
    have h2 := hb (l.getLast hne) (by simp)
    generalize l.getLast hne = x at h2 ⊢
    rw [val_snoc, nums_succ', show (val l.dropLast * 256 + x) / 256 = val l.dropLast by omega, show (val l.dropLast * 256 + x) % 256 = x by omega, h1]
theorem nums_bytes (s n : Nat) : bytes (nums s n) := fun x hx => by
  obtain ⟨i, _, rfl⟩ := List.mem_map.1 hx
  exact Nat.mod_lt _ (by omega)
/-- how long a letter's number is, and the greatest one -/
def zs (c : Nat) : Nat := (nsize c).toNat
def mostN (c : Nat) : Nat := (most c).toNat
inductive Stp where
  | bad (e : Nat)
  | ok (n : Nat) (x : List Nat) (k : Nat)
/-- one field -/
def step (c : Nat) (bs : List Nat) : Stp :=
  if c = 111 then (if bs.length < 32 then .bad 2 else .ok 0 (bs.take 32) 32)
  else if c = 116 then (if bs.length < 2 then .bad 2 else if bs.length < 2 + val (bs.take 2) then .bad 2 else .ok 0 ((bs.drop 2).take (val (bs.take 2))) (2 + val (bs.take 2)))
  else if bs.length < zs c then .bad 2 else if mostN c < val (bs.take (zs c)) then .bad 1 else .ok (val (bs.take (zs c))) [] (zs c)
inductive Got where
  | bad (e : Nat)
  | ok (l : List (Nat × List Nat)) (p : Nat)
def Got.next (bs : List Nat) (g : Got) (c : Nat) : Got :=
  match g with
  | .bad e => .bad e
  | .ok l p => match step c (bs.drop p) with
    | .bad e => .bad e
    | .ok n x k => .ok (l ++ [(n, x)]) (p + k)
/-- the fields, and how many bytes they are -/
def reads (s : List Nat) (bs : List Nat) : Got := s.foldl (Got.next bs) (.ok [] 0)
theorem reads_take {s bs : List Nat} {k : Nat} (h : k < s.length) : reads (s.take (k + 1)) bs = (reads (s.take k) bs).next bs s[k] := by
  unfold reads
  rw [List.take_succ_eq_append_getElem h, List.foldl_append]
  rfl
theorem next_bad (bs : List Nat) (e : Nat) : ∀ (s : List Nat), s.foldl (Got.next bs) (.bad e) = .bad e
  | [] => rfl
  | _ :: s => next_bad bs e s
theorem reads_bad {s bs : List Nat} {k e : Nat} (h : reads (s.take k) bs = .bad e) : reads s bs = .bad e := by
  unfold reads at h ⊢
  rw [← List.take_append_drop k s, List.foldl_append, h]
  exact next_bad bs e _
theorem next_ok (bs : List Nat) : ∀ (s : List Nat) (l0 : List (Nat × List Nat)) (p0 : Nat) (l : List (Nat × List Nat)) (p : Nat), s.foldl (Got.next bs) (.ok l0 p0) = .ok l p → ∃ l1, l = l0 ++ l1 ∧ l1.length = s.length
  | [], l0, p0, l, p, h => by
    injection h with h1 h2
    exact ⟨[], by simp [h1], rfl⟩
  | c :: s, l0, p0, l, p, h => by
    rw [List.foldl_cons, Got.next] at h
    cases hs : step c (bs.drop p0) with
    | bad e =>
      rw [hs] at h
      rw [next_bad] at h
      cases h
    | ok n x k =>
      rw [hs] at h
      obtain ⟨l1, h1, h2⟩ := next_ok bs s _ _ l p h
      exact ⟨(n, x) :: l1, by rw [h1]; simp, by simp [h2]⟩
theorem reads_len {s bs : List Nat} {l : List (Nat × List Nat)} {p : Nat} (h : reads s bs = .ok l p) : l.length = s.length := by
  obtain ⟨l1, h1, h2⟩ := next_ok bs s _ _ l p h
  rw [h1]; simpa using h2
theorem reads_pre {s bs : List Nat} {l : List (Nat × List Nat)} {p : Nat} (h : reads s bs = .ok l p) (k : Nat) (hk : k ≤ s.length) : ∃ pk, reads (s.take k) bs = .ok (l.take k) pk := by
  cases hr : reads (s.take k) bs with
  | bad e => rw [reads_bad hr] at h; cases h
  | ok lk pk =>
    have h1 := reads_len hr
    rw [List.length_take, Nat.min_eq_left hk] at h1
    have h2 := h
    unfold reads at h2 hr
    rw [← List.take_append_drop k s, List.foldl_append, hr] at h2
    obtain ⟨l1, h3, _⟩ := next_ok bs _ _ _ l p h2
    refine ⟨pk, ?_⟩
    rw [h3, List.take_left' h1]
theorem letter {c : Nat} (h : 0 ≤ size c) : c = 98 ∨ c = 119 ∨ c = 113 ∨ c = 111 ∨ c = 116 := by
  unfold size at h
  by_cases h1 : c = 98; · exact Or.inl h1
  by_cases h2 : c = 119; · exact Or.inr (Or.inl h2)
  by_cases h3 : c = 113; · exact Or.inr (Or.inr (Or.inl h3))
  by_cases h4 : c = 111; · exact Or.inr (Or.inr (Or.inr (Or.inl h4)))
  by_cases h5 : c = 116; · exact Or.inr (Or.inr (Or.inr (Or.inr h5)))
  rw [if_neg h1, if_neg h2, if_neg h3, if_neg h4, if_neg h5] at h
  omega
theorem zs_most {c : Nat} (h : 0 ≤ size c) (h1 : c ≠ 111) (h2 : c ≠ 116) : mostN c < 256 ^ zs c ∧ most c = mostN c := by
  rcases letter h with rfl | rfl | rfl | rfl | rfl
  · exact ⟨by decide, rfl⟩
  · exact ⟨by decide, rfl⟩
  · exact ⟨by decide, rfl⟩
  · exact absurd rfl h1
  · exact absurd rfl h2
/-- what is written is read -/
theorem step_enc {c : Nat} {n : Int} {x : List Nat} (hc : 0 ≤ size c) (hf : fits c n x.length = true) (r : List Nat) : ∃ m y, step c (enc c n x ++ r) = .ok m y (enc c n x).length := by
  unfold fits at hf
  unfold enc step
  by_cases h1 : c = 111
  · rw [if_pos h1] at hf
    have hx := of_decide_eq_true hf
    rw [if_pos h1, if_pos h1, if_neg (by rw [List.length_append]; omega), hx]
    exact ⟨_, _, rfl⟩
  rw [if_neg h1] at hf
  rw [if_neg h1, if_neg h1]
  by_cases h2 : c = 116
  · rw [if_pos h2] at hf
    have hx := of_decide_eq_true hf
    rw [if_pos h2, if_pos h2]
    have e : (nums 2 x.length ++ x ++ r).take 2 = nums 2 x.length := by rw [List.append_assoc, List.take_left' (nums_len 2 _)]
    rw [e, val_nums 2 x.length (by omega)]
    have el : (nums 2 x.length ++ x ++ r).length = 2 + x.length + r.length := by simp [nums_len]; omega
    rw [if_neg (by omega), if_neg (by omega), show (nums 2 x.length ++ x).length = 2 + x.length by simp [nums_len]]
    exact ⟨_, _, rfl⟩
  rw [if_neg h2] at hf
  rw [if_neg h2, if_neg h2]
  rw [Bool.and_eq_true] at hf
  have hf1 := of_decide_eq_true hf.1
  have hf2 := of_decide_eq_true hf.2
  obtain ⟨hz, hm⟩ := zs_most hc h1 h2
  have hn : n.toNat ≤ mostN c := by omega
  have e : (nums (nsize c).toNat n.toNat ++ r).take (zs c) = nums (zs c) n.toNat := by
    rw [show (nsize c).toNat = zs c from rfl, List.take_left' (nums_len _ _)]
  rw [e, val_nums _ _ (by omega), if_neg (by rw [List.length_append, nums_len]; unfold zs; omega), if_neg (by omega), nums_len]
  exact ⟨_, _, rfl⟩
theorem reads_encs_at : ∀ (s : List UInt8) (fs : List Fld) (pre : List Nat) (l0 : List (Nat × List Nat)), known s = true → fs.length = s.length → (∀ i (h1 : i < s.length) (h2 : i < fs.length), fits s[i].toNat fs[i].n fs[i].bs.length = true) →
    ∃ l, (s.map (·.toNat)).foldl (Got.next (pre ++ encs s fs)) (.ok l0 pre.length) = .ok l (pre.length + (encs s fs).length)
  | [], [], pre, l0, _, _, _ => ⟨l0, by simp [encs]⟩
  | c :: s, f :: fs, pre, l0, hk, hl, ho => by
    have hk1 : isL c = true ∧ known s = true := by simpa [known] using hk
    have hc : 0 ≤ size c.toNat := of_decide_eq_true hk1.1
    obtain ⟨m, y, hst⟩ := step_enc hc (ho 0 (by simp) (by simp)) (encs s fs)
    obtain ⟨l, h⟩ := reads_encs_at s fs (pre ++ enc c.toNat f.n f.bs) (l0 ++ [(m, y)]) hk1.2 (by simpa using hl) (fun i h1 h2 => ho (i + 1) (by simpa using h1) (by simpa using h2))
    refine ⟨l, ?_⟩
    rw [List.map_cons, List.foldl_cons, encs, Got.next]
    simp only [List.drop_left]
    simp only [List.getElem_cons_zero] at hst
    rw [hst]
    rw [List.append_assoc, List.length_append] at h
    simp only [List.length_append] at h ⊢
    rw [h]
    congr 1
    omega
  | [], _ :: _, _, _, _, hl, _ => by simp at hl
  | _ :: _, [], _, _, _, hl, _ => by simp at hl
theorem reads_encs (s : List UInt8) (fs : List Fld) (hk : known s = true) (hl : fs.length = s.length) (ho : okTo s fs s.length) (hb : ∀ f ∈ fs, f.bs.length = f.l) : ∃ l, reads (s.map (·.toNat)) (encs s fs) = .ok l (encs s fs).length := by
  have h := reads_encs_at s fs [] [] hk hl (fun i h1 h2 => by rw [hb _ (List.getElem_mem _)]; exact ho i h1 h2 h1)
  simpa [reads] using h
/-- what is read was written -/
theorem step_back {c : Nat} {bs : List Nat} {n : Nat} {x : List Nat} {k : Nat} (hc : 0 ≤ size c) (hb : bytes bs) (h : step c bs = .ok n x k) : k ≤ bs.length ∧ enc c n x = bs.take k ∧ fits c n x.length = true := by
  unfold step at h
  unfold fits enc
  by_cases h1 : c = 111
  · rw [if_pos h1] at h
    rw [if_pos h1, if_pos h1]
    by_cases h3 : bs.length < 32
    · rw [if_pos h3] at h; cases h
    rw [if_neg h3] at h
    injection h with e1 e2 e3
    subst e2; subst e3
    exact ⟨by omega, rfl, decide_eq_true (by rw [List.length_take]; omega)⟩
  rw [if_neg h1] at h
  rw [if_neg h1, if_neg h1]
  by_cases h2 : c = 116
  · rw [if_pos h2] at h
    rw [if_pos h2, if_pos h2]
    by_cases h3 : bs.length < 2
    · rw [if_pos h3] at h; cases h
    rw [if_neg h3] at h
    by_cases h4 : bs.length < 2 + val (bs.take 2)
    · rw [if_pos h4] at h; cases h
    rw [if_neg h4] at h
    injection h with e1 e2 e3
    have hlt := val_lt 2 (bs.take 2) (bytes_take hb 2) (by rw [List.length_take]; omega)
    have hnv := nums_val 2 (bs.take 2) (bytes_take hb 2) (by rw [List.length_take]; omega)
    have hxl : x.length = val (bs.take 2) := by rw [← e2, List.length_take, List.length_drop]; omega
    refine ⟨by omega, ?_, decide_eq_true (by omega)⟩
    rw [hxl, hnv, ← e3, ← e2, List.take_add]
  rw [if_neg h2] at h
  rw [if_neg h2, if_neg h2]
  by_cases h3 : bs.length < zs c
  · rw [if_pos h3] at h; cases h
  rw [if_neg h3] at h
  by_cases h4 : mostN c < val (bs.take (zs c))
  · rw [if_pos h4] at h; cases h
  rw [if_neg h4] at h
  injection h with e1 e2 e3
  obtain ⟨hz, hm⟩ := zs_most hc h1 h2
  have hnv := nums_val (zs c) (bs.take (zs c)) (bytes_take hb _) (by rw [List.length_take]; omega)
  refine ⟨by omega, ?_, ?_⟩
  · rw [← e3, ← hnv, ← e1]; rfl
  · rw [Bool.and_eq_true]
    exact ⟨decide_eq_true (by omega), decide_eq_true (by omega)⟩
def says (f : Fld) : Int × List Nat := (f.n, f.bs)
def lays (q : Nat × List Nat) : Int × List Nat := ((q.1 : Int), q.2)
theorem reads_back (s : List UInt8) (bs : List Nat) (fs : List Fld) (l : List (Nat × List Nat)) (p : Nat) (h : reads (s.map (·.toNat)) bs = .ok l p) (hs : fs.map says = l.map lays) (hfl : ∀ f ∈ fs, f.bs.length = f.l) (hk : known s = true) (hb : bytes bs) :
    encs s fs = bs.take p ∧ okTo s fs s.length ∧ fs.length = s.length ∧ p ≤ bs.length := by
  have hll := reads_len h
  rw [List.length_map] at hll
  have hfl2 : fs.length = s.length := by rw [← hll]; simpa using congrArg List.length hs
  have key : ∀ k, k ≤ s.length → ∃ pk, reads ((s.map (·.toNat)).take k) bs = .ok (l.take k) pk ∧ pk ≤ bs.length ∧ encs (s.take k) (fs.take k) = bs.take pk ∧ okTo s fs k := by
    intro k
    induction k with
    | zero => exact fun _ => ⟨0, rfl, Nat.zero_le _, by simp [encs], fun i _ _ h => by omega⟩
    | succ k ih =>
      intro hk1
      obtain ⟨pk, h1, h2, h3, h4⟩ := ih (by omega)
      obtain ⟨pk', h5⟩ := reads_pre h (k + 1) (by simpa using hk1)
      have h6 := h5
      rw [reads_take (by rw [List.length_map]; omega), h1, Got.next] at h6
      have hsk : k < s.length := by omega
      have hfk : k < fs.length := by omega
      have hlk : k < l.length := by omega
      rw [List.getElem_map] at h6
      cases hst : step s[k].toNat (bs.drop pk) with
      | bad e => rw [hst] at h6; cases h6
      | ok n x m =>
        rw [hst] at h6
        injection h6 with h7 h8
        rw [List.take_succ_eq_append_getElem hlk] at h7
        have h9 : l[k] = (n, x) := by
          have := List.append_cancel_left h7
          injection this with e
          exact e.symm
        have hc : 0 ≤ size s[k].toNat := of_decide_eq_true (List.all_eq_true.1 hk s[k] (List.getElem_mem _))
        obtain ⟨g1, g2, g3⟩ := step_back hc (bytes_drop hb pk) hst
        rw [List.length_drop] at g1
        have h10 : fs[k].n = (n : Int) ∧ fs[k].bs = x := by
          have e := congrArg (·[k]?) hs
          simp only [List.getElem?_map, List.getElem?_eq_getElem hfk, List.getElem?_eq_getElem hlk, Option.map_some, h9] at e
          injection e with e
          injection e with e1 e2
          exact ⟨e1, e2⟩
        refine ⟨pk', h5, by omega, ?_, okTo_succ h4 hsk hfk ?_⟩
        · rw [encs_take _ _ _ hsk hfk, h3, h10.1, h10.2, g2, ← h8, List.take_add]
        · rw [← hfl _ (List.getElem_mem _), h10.1, h10.2]; exact g3
  obtain ⟨pk, h1, h2, h3, h4⟩ := key s.length (Nat.le_refl _)
  rw [List.take_of_length_le (by simp)] at h1
  rw [h1] at h
  injection h with _ e
  subst e
  rw [List.take_length, List.take_of_length_le (by omega)] at h3
  exact ⟨h3, h4, hfl2, h2⟩
end Oc
end Go.Proofs.YtcnedkgadfegbaaDoor
/- Reading, from below: how an In ends (end, Fail), goes on (next), what is left (Left), a copy of bytes (bytes.Clone). -/
namespace Go.Proofs.YtcnedkgadfegbaaDoor
open Go Go.RowKit
/-- the panic's value -/
abbrev stopV (r : Nat) : Value := .iface 94 (.agg #[.pointer (some ⟨r, 0, none⟩)])
/-- An In at block i, and its reading at block r: v is what is left. -/
structure Rdg (w : World) (i r : Nat) (v : Value) : Prop where
  i_ : Blk w i 93 #[.pointer (some ⟨r, 0, none⟩)]
  r_ : Blk w r 67 #[v, .bool true, .bool false, .nilIface]
  ne : i ≠ r
/-- A reading that has ended by an error. -/
def Dead (w : World) (r : Nat) (e : Value) : Prop := ∃ v, Blk w r 67 #[v, .bool true, .bool true, e]
theorem Dead.grown {w w' : World} {r : Nat} {e : Value} (h : Dead w r e) (k : Below w.heap.size w w') : Dead w' r e := by
  obtain ⟨v, h⟩ := h
  exact ⟨v, h.below k h.lt⟩
/-- what a call ends by that can't go on -/
def Fails (w : World) (r : Nat) (er : Value) (e : Ending) (w' : World) : Prop := e = .panicked [{ v := stopV r, recovered := false }] ∧ Dead w' r er ∧ w.grownBy w' (some r)
/-- An In whose bytes xs are left; they lie in the world w0. -/
def InAt (w0 w : World) (i r : Nat) (xs : List Nat) : Prop := ∃ v, Rdg w i r v ∧ Rd w0 v xs ∧ Below w0.heap.size w0 w ∧ w0.heap.size ≤ r ∧ w0.heap.size ≤ i
theorem below_then {w0 w w' : World} (h : Below w0.heap.size w0 w) (k : Below w.heap.size w w') : Below w0.heap.size w0 w' :=
  ⟨k.os.trans h.os, k.tape.trans h.tape, k.output.trans h.output, Nat.le_trans h.size k.size, fun i hi => (k.block i (Nat.lt_of_lt_of_le hi h.size)).trans (h.block i hi)⟩
theorem InAt.below {w0 w w' : World} {i r : Nat} {xs : List Nat} (h : InAt w0 w i r xs) (hb : Below w.heap.size w w') : InAt w0 w' i r xs := by
  obtain ⟨v, k, hr, hw, h1, h2⟩ := h
  exact ⟨v, ⟨k.i_.below hb k.i_.lt, k.r_.below hb k.r_.lt, k.ne⟩, hr, below_then hw hb, h1, h2⟩
theorem InAt.lt {w0 w : World} {i r : Nat} {xs : List Nat} (h : InAt w0 w i r xs) : r < w.heap.size := by
  obtain ⟨v, k, _⟩ := h
  exact k.r_.lt
theorem InAt.bel {w0 w : World} {i r : Nat} {xs : List Nat} (h : InAt w0 w i r xs) : Below w0.heap.size w0 w ∧ w0.heap.size ≤ r := by
  obtain ⟨v, k, hr, hw, h1, h2⟩ := h
  exact ⟨hw, h1⟩
theorem RdB.rd {w : World} {p : Nat} {v : Value} {xs : List Nat} (h : RdB w p v xs) : Rd w v xs := by
  obtain ⟨A, c, h1, h2, h3⟩ := h
  exact ⟨A, c, h1, h2, fun h0 => by obtain ⟨b, o, g1, _, g3, g4⟩ := h3 h0; exact ⟨b, o, g1, g3, g4⟩⟩
theorem Rd.cut {w : World} {A : Option Addr} {n c : Nat} {xs : List Nat} (h : Rd w (.slice A n c) xs) {k : Nat} (hk : k ≤ xs.length) :
    Rd w (.slice (if c = k then A else A.map (·.add k)) (n - k) (c - k)) (xs.drop k) := ((h.out (Nat.le_refl _)).cut hk).rd
theorem oend_any (r : Nat) (v : Value) (ae : Addr) (w : World) (h : Blk w r 67 #[v, .bool true, .bool false, .nilIface]) :
    Calls Tryd.prog 41 #[.pointer (some ⟨r, 0, none⟩), (ev ae)] w fun e w' => e = .returned (.tuple #[]) ∧ Blk w' r 67 #[v, .bool true, .bool true, (ev ae)] ∧ w.grownBy w' (some r) := by
  have c2 : w.cell? ⟨r, 2, none⟩ = some (.bool false) := h.cell 2
  have c3 : w.cell? ⟨r, 3, none⟩ = some .nilIface := h.cell 3
  have z2 := h.frozen 2
  have z3 := h.frozen 3
  have HB : Hid (Blk ((w.setCell ⟨r, 2, none⟩ (.bool true)).setCell ⟨r, 3, none⟩ (ev ae)) r 67 #[v, .bool true, .bool true, (ev ae)]) := Lib.hid (by
    have h2 := (h.set_ 2 (.bool true)).set_ 3 (ev ae)
    simp only [List.setIfInBounds_toArray, List.set_cons_zero, List.set_cons_succ] at h2
    exact h2)
  have HG : Hid (w.grownBy ((w.setCell ⟨r, 2, none⟩ (.bool true)).setCell ⟨r, 3, none⟩ (ev ae)) (some r)) := Lib.hid (only_setCell (p := ⟨r, 3, none⟩) (only_setCell (p := ⟨r, 2, none⟩) (World.grownBy.refl w (some r)) (Or.inl rfl) _) (Or.inl rfl) _)
  clear h
  go_enter Tryd.func41, Tryd.ntmps41
  go_wp2
  go_end0
  exact ⟨rfl, HB.out, HG.out⟩
theorem fail_any (i r : Nat) (v : Value) (ae : Addr) (w : World) (h : Rdg w i r v) :
    Calls Tryd.prog 21 #[.pointer (some ⟨i, 0, none⟩), ev ae] w (Fails w r (ev ae)) := by
  have c0 : w.cell? ⟨i, 0, none⟩ = some (.pointer (some ⟨r, 0, none⟩)) := h.i_.cell 0
  have c1 : w.cell? ⟨r, 1, none⟩ = some (.bool true) := h.r_.cell 1
  have CE := oend_any r v ae w h.r_
  have HI := Lib.hid h.i_
  have hne := h.ne
  clear h
  go_enter Tryd.func21, Tryd.ntmps21
  go_wp2_with (go_at_call 41; refine CE.mono ?_; rintro e w' ⟨rfl, hB, hG⟩; have HB := Lib.hid hB; have HG := Lib.hid hG; have c2 : w'.cell? ⟨i, 0, none⟩ = some (.pointer (some ⟨r, 0, none⟩)) := (HI.out.grown hG (by intro e; injection e with e; exact hne e)).cell 0; clear hB hG)
  exact ⟨rfl, rfl, ⟨v, HB.out⟩, HG.out⟩
theorem left_any (i r : Nat) (xs : List Nat) (w0 w : World) (h : InAt w0 w i r xs) :
    Calls Tryd.prog 27 #[.pointer (some ⟨i, 0, none⟩)] w fun e w' => e = .returned (.int .i64 (xs.length : Int)) ∧ w = w' := by
  obtain ⟨v, h, hr, _⟩ := h
  obtain ⟨A, c, rfl, _, _⟩ := hr
  have c0 : w.cell? ⟨i, 0, none⟩ = some (.pointer (some ⟨r, 0, none⟩)) := h.i_.cell 0
  have c1 : w.cell? ⟨r, 0, none⟩ = some (.slice A xs.length c) := h.r_.cell 0
  clear h
  go_enter Tryd.func27, Tryd.ntmps27
  go_wp2
  go_ret
  exact ⟨rfl, rfl⟩
theorem Rd.cutHi {w : World} {A : Option Addr} {n c : Nat} {xs : List Nat} (h : Rd w (.slice A n c) xs) {k : Nat} (hk : k ≤ xs.length) : Rd w (.slice A k c) (xs.take k) := by
  obtain ⟨A', c', hv, hc, hA⟩ := h
  injection hv with e1 e2 e3
  subst e1 e2 e3
  have hl : (xs.take k).length = k := by rw [List.length_take]; omega
  refine ⟨_, _, by rw [hl], by rw [hl]; omega, fun h0 => ?_⟩
  rw [hl] at h0
  obtain ⟨b, o, ha, hlt, hx⟩ := hA (by omega)
  refine ⟨b, o, ha, hlt, fun i hi => ?_⟩
  rw [hl] at hi
  rw [hx i (by omega)]
  simp [List.getD, hi]
theorem run_sliceHi {P : Program} {t e : TypeId} (ht : P.underlying t = some (.slice e)) (hi : (P.info? e).map (·.size) = some 1) (A : Option Addr) (len cap h : Nat) (h1 : h ≤ cap)
    {x : Int} (el : x = h) (w : World) :
    (Instr.slice t (.slice A len cap) none (some (.int .i64 x)) none).run P w = .ok (.slice A h cap) w := by
  subst el
  cases hq : P.info? e with
  | none => simp [hq] at hi
  | some i =>
    have hs : i.size = 1 := by simpa [hq] using hi
    have hn : ((h : Nat) : Int) ≤ cap := by omega
    cases A <;> simp [Instr.slice, run_underlying ht, Instr.sliceBounds, run_sliceBound, sizeOf, typeInfo, hq, hn, Addr.add]
theorem run_sliceLoS {P : Program} {t e : TypeId} (ht : P.underlying t = some (.slice e)) (hi : (P.info? e).map (·.size) = some 1) (A : Option Addr) (len cap l : Nat) (h1 : l ≤ len)
    {lo : Int} (el : lo = l) (w : World) :
    (Instr.slice t (.slice A len cap) (some (.int .i64 lo)) none none).run P w = .ok (.slice (if cap = l then A else A.map (·.add l)) (len - l) (cap - l)) w := by
  subst el
  cases hq : P.info? e with
  | none => simp [hq] at hi
  | some i =>
    have hs : i.size = 1 := by simpa [hq] using hi
    have hn : ((l : Nat) : Int) ≤ len := by omega
    simp [Instr.slice, run_underlying ht, Instr.sliceBounds, run_sliceBound, sizeOf, typeInfo, hq, hs, hn]
theorem next_ok (i r n : Nat) (xs : List Nat) (w0 w : World) (h : InAt w0 w i r xs) (hn : n ≤ xs.length) :
    Calls Tryd.prog 46 #[.pointer (some ⟨i, 0, none⟩), .int .i64 (n : Int)] w fun e w' => ∃ v, e = .returned v ∧ Rd w0 v (xs.take n) ∧ InAt w0 w' i r (xs.drop n) ∧ w.grownBy w' (some r) := by
  obtain ⟨v, h, hr, hw0, hr0, hi0⟩ := h
  have HR := Lib.hid hr
  obtain ⟨A, c, rfl, hc, hA⟩ := hr
  clear hA
  have c0 : w.cell? ⟨i, 0, none⟩ = some (.pointer (some ⟨r, 0, none⟩)) := h.i_.cell 0
  have c1 : w.cell? ⟨r, 0, none⟩ = some (.slice A xs.length c) := h.r_.cell 0
  have c2 : w.cell? ⟨r, 1, none⟩ = some (.bool true) := h.r_.cell 1
  have c3 : w.cell? ⟨r, 2, none⟩ = some (.bool false) := h.r_.cell 2
  have z0 := h.r_.frozen 0
  have i1 : ¬ (xs.length : Int) < (n : Int) := by omega
  have q1 : ∀ w', (Instr.slice 22 (.slice A xs.length c) none (some (.int .i64 (n : Int))) none).run Tryd.prog w' = .ok (.slice A n c) w' := fun w' => run_sliceHi Tryd.underlying22 (by kernel_rfl) A xs.length c n (by omega) rfl w'
  have q2 : ∀ w', (Instr.slice 22 (.slice A xs.length c) (some (.int .i64 (n : Int))) none none).run Tryd.prog w' = .ok (.slice (if c = n then A else A.map (·.add n)) (xs.length - n) (c - n)) w' := fun w' => run_sliceLoS Tryd.underlying22 (by kernel_rfl) A xs.length c n hn rfl w'
  obtain ⟨A2, hA2⟩ : ∃ A2, A2 = (if c = n then A else A.map (·.add n)) := ⟨_, rfl⟩
  rw [← hA2] at q2
  have HG : ∀ m, Hid (w.grownBy ((w.setCell ⟨r, 0, none⟩ (.slice A2 (xs.length - n) (c - n))).drewN m) (some r)) := fun m => Lib.hid (only_drewN (only_setCell (World.grownBy.refl w _) (Or.inl rfl) _) m)
  have HI : ∀ m, Hid (InAt w0 ((w.setCell ⟨r, 0, none⟩ (.slice A2 (xs.length - n) (c - n))).drewN m) i r (xs.drop n)) := fun m => Lib.hid ⟨_, ⟨(h.i_.far h.ne _).drewN m, (h.r_.set_ 0 _).drewN m, h.ne⟩, by have hq := HR.out.cut hn; rw [← hA2] at hq; exact hq, below_of_only hw0 (HG m).out hr0, hr0, hi0⟩
  have HV : Hid (Rd w0 (.slice A n c) (xs.take n)) := Lib.hid (HR.out.cutHi hn)
  clear h hA2
  go_enter Tryd.func46, Tryd.ntmps46
  go_wp2
  go_region
  go_wp2
  go_ret
  exact ⟨_, rfl, HV.out, (HI 1).out, (HG 1).out⟩
end Go.Proofs.YtcnedkgadfegbaaDoor
