/- The law DiskKeeps: what sectors may be behind a crash. -/
import Derived.Test.YtpmadlkkldbceaaDoorDisk14
import Derived.Test.YtpmadlkkldbceaaDoorLawOpenA
namespace Go.Proofs.YtpmadlkkldbceaaDoor
open Go Go.RowKit
/-- the sector that a law takes of a number -/
def ix (m : Nat) (n : Int) : Nat := (n % 18446744073709551616 % (m : Int)).toNat
theorem ix_is (n : Int) (m : Nat) (hm : 0 < m) (h : m ≤ 1000) : wrap64 ((IntKind.u64.wrap n).tmod (m : Int)) = (ix m n : Int) ∧ ix m n < m := by
  rw [wrap_u64]
  have h0 : 0 ≤ n % 18446744073709551616 := Int.emod_nonneg _ (by omega)
  rw [Int.tmod_eq_emod_of_nonneg h0]
  have h1 := Int.emod_nonneg (n % 18446744073709551616) (show (m : Int) ≠ 0 by omega)
  have h2 := Int.emod_lt_of_pos (n % 18446744073709551616) (show (0 : Int) < m by omega)
  unfold ix
  rw [IntWalk.wrap64_in _ (by omega)]
  omega
namespace Dk
theorem last_append (i : Int) (p : Nat × List Nat) (ks : List (Nat × List Nat)) : last (ks ++ [p]) i = if (p.1 : Int) = i then some ks.length else last ks i := last_snoc ks p i
theorem puts_snoc (S : D) (ks : List (Nat × List Nat)) (p : Nat × List Nat) : puts S (ks ++ [p]) = put (puts S ks) p.1 p.2 := by simp [puts, List.foldl_append]
theorem puts_safe (S : D) (i : Nat) (ks : List (Nat × List Nat)) : (puts S ks).safe i = match last ks (i : Int) with | some k => ((ks[k]?).map (·.2)).getD [] | none => S.safe i := by
  suffices H : ∀ n (ks : List (Nat × List Nat)), ks.length = n → (puts S ks).safe i = match last ks (i : Int) with | some k => ((ks[k]?).map (·.2)).getD [] | none => S.safe i from H _ ks rfl
  intro n
  induction n with
  | zero => intro ks h; obtain rfl := List.eq_nil_of_length_eq_zero h; rfl
  | succ n ih =>
    intro ks h
    obtain ⟨ks', p, rfl⟩ : ∃ ks' p, ks = ks' ++ [p] := ⟨ks.dropLast, ks.getLast (by intro e; rw [e] at h; cases h), (List.dropLast_concat_getLast _).symm⟩
    have hl : ks'.length = n := by simpa using h
    have := ih ks' hl
    rw [puts_snoc, last_append]
    by_cases hp : p.1 = i
    · rw [if_pos (by omega)]
      show (if i = p.1 then p.2 else _) = _
      rw [if_pos hp.symm]
      simp
    · rw [if_neg (by omega)]
      show (if i = p.1 then p.2 else (puts S ks').safe i) = _
      rw [if_neg (fun e => hp e.symm), this]
      cases hk : last ks' (i : Int) with
      | none => rfl
      | some k =>
        obtain ⟨q, hq, _⟩ := last_some hk
        have hlt := (List.getElem?_eq_some_iff.1 hq).1
        simp only [List.getElem?_append_left hlt]
theorem all_seen (S : D) (i : Nat) : (puts S S.pend).safe i = seen S i := by rw [puts_safe]; unfold seen; rfl
theorem keptTo_take {ps : List (Nat × List Nat)} {ts : List Bool} (h : ∀ k, k < ps.length → ts.getD k false = true) : ∀ k, k ≤ ps.length → keptTo ps ts k = ps.take k
  | 0, _ => rfl
  | k + 1, hk => by
    have hp : ps[k]? = some (ps[k]'(by omega)) := List.getElem?_eq_getElem _
    rw [keptTo_yes hp (h k (by omega)), keptTo_take h k (by omega), List.take_add_one, hp]
    rfl
theorem keptTo_all (ps : List (Nat × List Nat)) : keptTo ps (List.replicate ps.length true) ps.length = ps := by
  rw [keptTo_take (fun k hk => by rw [List.getD_eq_getElem?_getD, List.getElem?_replicate, if_pos hk]; rfl) _ (Nat.le_refl _), List.take_length]
theorem crash_or (S : D) (ts : List Bool) (i : Nat) : (puts S (keptTo S.pend ts S.pend.length)).safe i = S.safe i ∨ ∃ p ∈ S.pend, p.1 = i ∧ p.2 = (puts S (keptTo S.pend ts S.pend.length)).safe i := by
  rw [puts_safe]
  cases hk : last (keptTo S.pend ts S.pend.length) (i : Int) with
  | none => exact Or.inl rfl
  | some k =>
    obtain ⟨q, hq, hqi⟩ := last_some hk
    refine Or.inr ⟨q, keptTo_mem _ q (List.mem_of_getElem? hq), by omega, ?_⟩
    simp only [hq]
    rfl
/-- what an act of DiskKeeps makes of a disk -/
def act5 (S : D) (x : ActD) : D := if x.kind = 1 then syncs S else if x.l ≤ 32 then wrote S (ix 5 x.n) x.bs else S
def kst (xs : List ActD) : Nat → D
  | 0 => fresh 5
  | k + 1 => match xs[k]? with
    | some x => act5 (kst xs k) x
    | none => kst xs k
structure Kin (xs : List ActD) (S : D) : Prop where
  size : S.size = 5
  off : S.off = false
  armed : S.armed = false
  mem : ∀ p ∈ S.pend, ∃ x ∈ xs, x.kind ≠ 1 ∧ x.l ≤ 32 ∧ ix 5 x.n = p.1 ∧ p.2 = padB x.bs
theorem Kin.act {xs : List ActD} {S : D} (h : Kin xs S) {x : ActD} (hx : x ∈ xs) : Kin xs (act5 S x) := by
  have hd : dead S = false := by unfold dead; rw [h.armed]; rfl
  unfold act5
  by_cases h1 : x.kind = 1
  · rw [if_pos h1]
    obtain ⟨a1, a2, a3, _, _⟩ := syncs_nums S
    have hn : done S = true := by unfold done; rw [h.off, hd]; rfl
    refine ⟨a1.trans h.size, by rw [a3, hn]; rfl, a2.trans h.armed, ?_⟩
    have e : syncs S = synced (did S) := by unfold syncs; rw [h.off, hd]; rfl
    rw [e]
    intro p hp
    cases hp
  · rw [if_neg h1]
    by_cases h2 : x.l ≤ 32
    · rw [if_pos h2]
      obtain ⟨a1, a2, a3, _, _⟩ := wrote_nums S (ix 5 x.n) x.bs
      have hn : done S = true := by unfold done; rw [h.off, hd]; rfl
      refine ⟨a1.trans h.size, by rw [a3, hn]; rfl, a2.trans h.armed, ?_⟩
      have e : wrote S (ix 5 x.n) x.bs = wr (did S) (ix 5 x.n) x.bs := by unfold wrote; rw [h.off, hd]; rfl
      rw [e]
      intro p hp
      rcases List.mem_append.1 hp with hp | hp
      · exact h.mem p hp
      · obtain rfl := List.mem_singleton.1 hp
        exact ⟨x, hx, h1, h2, rfl, rfl⟩
    · rw [if_neg h2]; exact h
theorem kst_in (xs : List ActD) : ∀ k, Kin xs (kst xs k)
  | 0 => ⟨rfl, rfl, rfl, fun p hp => by cases hp⟩
  | k + 1 => by
    have ih := kst_in xs k
    show Kin xs (match xs[k]? with | some x => act5 (kst xs k) x | none => kst xs k)
    split
    · rename_i x hx
      exact ih.act (List.mem_of_getElem? hx)
    · exact ih
/-- is a sector what an act wrote? -/
def hit (now : List Nat) (i : Nat) (x : ActD) : Bool := !(x.kind == 1) && (ix 5 x.n == i) && decide (x.l ≤ 32) && (now == padB x.bs)
def got (now safe : List Nat) (i : Nat) (xs : List ActD) (m : Nat) : Bool := (now == safe) || (xs.take m).any (hit now i)
theorem got_step {now safe : List Nat} {i : Nat} {xs : List ActD} {m : Nat} {x : ActD} (hx : xs[m]? = some x) : got now safe i xs (m + 1) = (got now safe i xs m || hit now i x) := by
  unfold got
  rw [List.take_add_one, hx, List.any_append, Bool.or_assoc]
  simp
theorem got_all {xs : List ActD} {S : D} (h : Kin xs S) (ts : List Bool) (i : Nat) : got ((puts S (keptTo S.pend ts S.pend.length)).safe i) (S.safe i) i xs xs.length = true := by
  unfold got
  rw [List.take_length]
  rcases crash_or S ts i with h1 | ⟨p, hp, h1, h2⟩
  · rw [h1]; simp
  · obtain ⟨x, hx, k1, k2, k3, k4⟩ := h.mem p hp
    rw [Bool.or_eq_true]
    refine Or.inr (List.any_eq_true.2 ⟨x, hx, ?_⟩)
    unfold hit
    rw [← h2, k4, ← h1, k3]
    simp [k1, k2]
theorem got_zero (now safe : List Nat) (i : Nat) (xs : List ActD) : got now safe i xs 0 = (now == safe) := by simp [got]
end Dk
theorem textOf_ne {x y : List Nat} (hx : Sha.Byte x) (hy : Sha.Byte y) (h : x ≠ y) : textOf x ≠ textOf y := fun e => h (by
  have e1 := congrArg ByteArray.data e
  have e2 : x.map UInt8.ofNat = y.map UInt8.ofNat := by simpa [textOf] using e1
  have := ofNat_inj x y hx hy
  rw [e2] at this
  simpa using this)
theorem tl_loop (bs : ByteArray) : ∀ (n i : Nat) (r : List UInt8), bs.size - i = n → ByteArray.toList.loop bs i r = r.reverse ++ bs.data.toList.drop i := by
  intro n
  induction n with
  | zero =>
    intro i r h
    rw [ByteArray.toList.loop]
    have : ¬ i < bs.size := by omega
    rw [if_neg this, List.drop_eq_nil_of_le (by show bs.size ≤ i; omega), List.append_nil]
  | succ n ih =>
    intro i r h
    rw [ByteArray.toList.loop]
    have h1 : i < bs.size := by omega
    rw [if_pos h1, ih (i+1) _ (by omega)]
    have h2 : i < bs.data.toList.length := h1
    rw [List.drop_eq_getElem_cons h2, List.reverse_cons, List.append_assoc]
    congr 1
    simp [ByteArray.get!, h1]
theorem bytes_list (bs : ByteArray) : bs.toList = bs.data.toList := by
  unfold ByteArray.toList
  rw [tl_loop bs _ 0 [] rfl]; simp
theorem textOf_ne_list {x y : List Nat} (hx : Sha.Byte x) (hy : Sha.Byte y) (h : x ≠ y) : ¬ (textOf x).toList = (textOf y).toList := fun e => h (by
  rw [bytes_list, bytes_list] at e
  have e2 : x.map UInt8.ofNat = y.map UInt8.ofNat := by simpa [textOf] using e
  have := ofNat_inj x y hx hy
  rw [e2] at this
  simpa using this)
end Go.Proofs.YtpmadlkkldbceaaDoor
