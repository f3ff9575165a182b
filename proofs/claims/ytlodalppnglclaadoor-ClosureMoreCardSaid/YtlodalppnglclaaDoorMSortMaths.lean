/- Plain mathematics of lists of digests: neighbours that are the same told once, what rises. Nothing of the program. -/
import Derived.Test.YtlodalppnglclaaDoorMOb30s
import Derived.Test.YtlodalppnglclaaDoorMShaSums
import Derived.Test.YtlodalppnglclaaDoorMOct14s
import Derived.Maps.OwnSet
import Derived.DeepKeys4
namespace Go.Proofs.YtlodalppnglclaaDoor
namespace Sha
/-- the first k of l, each run told once -/
def compK (l : List (List Nat)) : Nat → List (List Nat)
  | 0 => []
  | k + 1 => if 0 < k ∧ l.getD k [] = l.getD (k - 1) [] then compK l k else compK l k ++ [l.getD k []]
theorem compK_len (l : List (List Nat)) : ∀ k, (compK l k).length ≤ k
  | 0 => by simp [compK]
  | k + 1 => by
    have := compK_len l k
    unfold compK; split
    · omega
    · simp; omega
theorem take_snoc_getD {l : List (List Nat)} {k : Nat} (h : k < l.length) : l.take (k + 1) = l.take k ++ [l.getD k []] := by
  rw [List.take_add_one]; simp [List.getD, h]
theorem compK_take (l : List (List Nat)) : ∀ k, k ≤ l.length → (∀ i, 0 < i → i < k → l.getD i [] ≠ l.getD (i - 1) []) → compK l k = l.take k
  | 0, _, _ => by simp [compK]
  | k + 1, h, hn => by
    have ih := compK_take l k (by omega) (fun i h1 h2 => hn i h1 (by omega))
    unfold compK
    rw [if_neg (fun e => hn k e.1 (by omega) e.2), ih, take_snoc_getD (by omega)]
theorem compK_last (l : List (List Nat)) : ∀ k, 0 < k → ∃ r, compK l k = r ++ [l.getD (k - 1) []]
  | k + 1, _ => by
    unfold compK; split
    · next h =>
      obtain ⟨r, hr⟩ := compK_last l k h.1
      exact ⟨r, by rw [hr, ← h.2]; simp⟩
    · exact ⟨compK l k, by simp⟩
theorem compK_mem (l : List (List Nat)) : ∀ k, k ≤ l.length → ∀ x, x ∈ compK l k ↔ x ∈ l.take k
  | 0, _, x => by simp [compK]
  | k + 1, h, x => by
    have ih := compK_mem l k (by omega) x
    rw [take_snoc_getD (by omega)]
    unfold compK; split
    · next hh =>
      rw [ih, List.mem_append, List.mem_singleton]
      constructor
      · exact Or.inl
      · rintro (h1 | rfl)
        · exact h1
        · rw [hh.2]
          have : l.getD (k - 1) [] = (l.take k)[k - 1]'(by simp; omega) := by
            rw [List.getElem_take]; simp [List.getD, show k - 1 < l.length by omega]
          rw [this]; exact List.getElem_mem _
    · rw [List.mem_append, List.mem_append, ih]
theorem compK_short (l : List (List Nat)) (k : Nat) (hk : 0 < k) (he : l.getD k [] = l.getD (k - 1) []) : ∀ j, 0 < j → (compK l (k + j)).length + 1 ≤ k + j
  | j + 1, _ => by
    rcases Nat.eq_zero_or_pos j with rfl | hj
    · have := compK_len l k
      show (compK l (k + 1)).length + 1 ≤ k + 1
      unfold compK; rw [if_pos ⟨hk, he⟩]; omega
    · have ih := compK_short l k hk he j hj
      show (compK l (k + j + 1)).length + 1 ≤ k + j + 1
      unfold compK; split
      · omega
      · simp; omega
theorem compK_same (l : List (List Nat)) (k : Nat) (hk : 0 < k) (he : l.getD k [] = l.getD (k - 1) []) : compK l (k + 1) = compK l k := by
  rw [compK, if_pos ⟨hk, he⟩]
theorem compK_next (l : List (List Nat)) (k : Nat) (he : l.getD k [] ≠ l.getD (k - 1) []) : compK l (k + 1) = compK l k ++ [l.getD k []] := by
  rw [compK, if_neg (fun h => he h.2)]
/-- what stands in memory behind k of them -/
def contK (l : List (List Nat)) (k : Nat) : List (List Nat) := compK l k ++ l.drop (compK l k).length
theorem contK_len (l : List (List Nat)) (k : Nat) (h : k ≤ l.length) : (contK l k).length = l.length := by
  have := compK_len l k
  simp [contK]; omega
theorem contK_old (l : List (List Nat)) (k i : Nat) (h : (compK l k).length ≤ i) : (contK l k).getD i [] = l.getD i [] := by
  simp [contK, List.getD, List.getElem?_append_right h]
  congr 2; omega
theorem contK_new (l : List (List Nat)) (k i : Nat) (h : i < (compK l k).length) : (contK l k).getD i [] = (compK l k).getD i [] := by
  simp [contK, List.getD, List.getElem?_append_left h]
theorem contK_set (l : List (List Nat)) (k : Nat) (_h : k < l.length) (hs : (compK l k).length < l.length) (he : l.getD k [] ≠ l.getD (k - 1) []) : (contK l k).set (compK l k).length (l.getD k []) = contK l (k + 1) := by
  unfold contK
  rw [compK_next l k he, List.set_append_right _ _ (Nat.le_refl _), Nat.sub_self, List.length_append, List.length_singleton]
  obtain ⟨a, r, hr⟩ : ∃ a r, l.drop (compK l k).length = a :: r := by
    cases hd : l.drop (compK l k).length with
    | nil => rw [List.drop_eq_nil_iff] at hd; omega
    | cons a r => exact ⟨a, r, rfl⟩
  have hr2 : l.drop ((compK l k).length + 1) = r := by
    rw [← List.drop_drop, hr]; rfl
  rw [hr, hr2]; simp
theorem contK_oids {l : List (List Nat)} (hl : ∀ o ∈ l, o.length = 32 ∧ Byte o) (k : Nat) (h : k ≤ l.length) : ∀ o ∈ contK l k, o.length = 32 ∧ Byte o := fun o ho => by
  rcases List.mem_append.1 ho with h1 | h1
  · exact hl o (List.mem_of_mem_take ((compK_mem l k h o).1 h1))
  · exact hl o (List.mem_of_mem_drop h1)
/-- no later one is ahead of an earlier one -/
def Asc (l : List (List Nat)) : Prop := ∀ i j, i < j → j < l.length → ¬ cmpN (l.getD j []) (l.getD i []) < 0
/-- each is ahead of all later ones -/
def Rising (l : List (List Nat)) : Prop := ∀ i j, i < j → j < l.length → cmpN (l.getD i []) (l.getD j []) < 0
theorem lt_of_le_ne {a b : List Nat} (h : ¬ cmpN b a < 0) (hne : a ≠ b) : cmpN a b < 0 := by
  have h1 := cmpN_anti a b
  rcases cmpN_cases a b with e | e | e
  · omega
  · exact absurd (cmpN_zero a b e) hne
  · omega
theorem getD_append_l {l r : List (List Nat)} {i : Nat} (h : i < l.length) : (l ++ r).getD i [] = l.getD i [] := by simp [List.getD, List.getElem?_append_left h]
theorem getD_append_at {l : List (List Nat)} {x : List Nat} : (l ++ [x]).getD l.length [] = x := by simp [List.getD]
theorem compK_rising (l : List (List Nat)) (ha : Asc l) : ∀ k, k ≤ l.length → Rising (compK l k)
  | 0, _ => fun i j _ h => by simp [compK] at h
  | k + 1, hk => by
    have ih := compK_rising l ha k (by omega)
    unfold compK; split
    · exact ih
    · next hn =>
      intro i j hij hj
      rw [List.length_append, List.length_singleton] at hj
      by_cases hjl : j < (compK l k).length
      · rw [getD_append_l hjl, getD_append_l (by omega)]; exact ih i j hij hjl
      · obtain rfl : j = (compK l k).length := by omega
        rw [getD_append_at, getD_append_l hij]
        have hk0 : 0 < k := by have := compK_len l k; omega
        obtain ⟨r, hr⟩ := compK_last l k hk0
        have hlast : cmpN (l.getD (k - 1) []) (l.getD k []) < 0 := lt_of_le_ne (ha (k - 1) k (by omega) (by omega)) (fun e => hn ⟨hk0, e.symm⟩)
        have hlen : (compK l k).length = r.length + 1 := by rw [hr]; simp
        by_cases hi : i = r.length
        · subst hi; rw [hr, getD_append_at]; exact hlast
        · have h1 := ih i r.length (by omega) (by omega)
          have e : (compK l k).getD r.length [] = l.getD (k - 1) [] := by rw [hr, getD_append_at]
          rw [e] at h1
          exact cmpN_trans _ _ _ h1 hlast
/-- all are digests -/
def Oids (l : List (List Nat)) : Prop := ∀ o ∈ l, o.length = 32 ∧ Byte o
theorem Oids.getD {l : List (List Nat)} (h : Oids l) {i : Nat} (hi : i < l.length) : (l.getD i []).length = 32 ∧ Byte (l.getD i []) := by
  have e : l.getD i [] = l[i] := by simp [List.getD, hi]
  rw [e]; exact h _ (List.getElem_mem _)
theorem flat_len {l : List (List Nat)} (h : Oids l) : l.flatten.length = 32 * l.length := by
  induction l with
  | nil => rfl
  | cons a l ih =>
    rw [List.flatten_cons, List.length_append, (h a List.mem_cons_self).1, ih (fun o ho => h o (List.mem_cons_of_mem _ ho)), List.length_cons]; omega
theorem flat_getD : ∀ {l : List (List Nat)}, Oids l → ∀ {i j : Nat}, i < l.length → j < 32 → l.flatten.getD (32 * i + j) 0 = (l.getD i []).getD j 0
  | [], _, i, j, hi, _ => by simp at hi
  | a :: l, h, 0, j, _, hj => by
    rw [List.flatten_cons, Nat.mul_zero, Nat.zero_add, getD_append_lt (by rw [(h a List.mem_cons_self).1]; exact hj)]
    rfl
  | a :: l, h, i + 1, j, hi, hj => by
    have ih := flat_getD (l := l) (fun o ho => h o (List.mem_cons_of_mem _ ho)) (i := i) (by simpa using hi) hj
    have e := (h a List.mem_cons_self).1
    rw [List.flatten_cons, getD_append_ge (by omega), e, show 32 * (i + 1) + j - 32 = 32 * i + j by omega, ih]
    rfl
theorem Oids.set {l : List (List Nat)} (h : Oids l) {x : List Nat} (hx : x.length = 32 ∧ Byte x) (k : Nat) : Oids (l.set k x) := fun o ho => by
  rcases List.mem_or_eq_of_mem_set ho with h1 | rfl
  · exact h o h1
  · exact hx
theorem one_of {r : List (List Nat)} {a : List Nat} (hr : Rising r) (hm : ∀ x, x ∈ r ↔ x = a) : r = [a] := by
  have irr : ∀ x, ¬ cmpN x x < 0 := fun x h => by rw [cmpN_self] at h; omega
  match r, hr, hm with
  | [], _, hm => exact absurd ((hm a).2 rfl) (by simp)
  | [x], _, hm => rw [(hm x).1 (by simp)]
  | x :: y :: r, hr, hm =>
    have h1 := hr 0 1 (by omega) (by simp)
    simp only [List.getD_cons_zero, List.getD_cons_succ] at h1
    rw [(hm x).1 (by simp), (hm y).1 (by simp)] at h1
    exact absurd h1 (irr _)
end Sha
end Go.Proofs.YtlodalppnglclaaDoor
/- What is reached, said plainly. -/
namespace Go.Proofs.YtlodalppnglclaaDoor
open Go Go.RowKit
namespace Cl
/-- the first of some texts with an id -/
noncomputable def stk (l : List (List Nat)) (id : List Nat) : Option (List Nat) := l.foldl (fun o t => if o.isSome then o else if id = Sha.sum t then some t else o) none
theorem stk_snoc (l : List (List Nat)) (t id : List Nat) : stk (l ++ [t]) id = if (stk l id).isSome then stk l id else if id = Sha.sum t then some t else stk l id := by
  unfold stk; rw [List.foldl_append]; rfl
theorem stk_from (id : List Nat) : ∀ (l : List (List Nat)) (o : Option (List Nat)) (t : List Nat), l.foldl (fun o t => if o.isSome then o else if id = Sha.sum t then some t else o) o = some t → (t ∈ l ∧ id = Sha.sum t) ∨ o = some t
  | [], _, _, h => Or.inr h
  | s :: l, o, t, h => by
    rw [List.foldl_cons] at h
    rcases stk_from id l _ t h with ⟨h1, h2⟩ | h1
    · exact Or.inl ⟨List.mem_cons_of_mem _ h1, h2⟩
    · split at h1
      · exact Or.inr h1
      · split at h1
        · rename_i he
          cases h1
          exact Or.inl ⟨List.mem_cons_self .., he⟩
        · exact Or.inr h1
theorem stk_mem {l : List (List Nat)} {id t : List Nat} (h : stk l id = some t) : t ∈ l ∧ id = Sha.sum t := by
  rcases stk_from id l none t h with h | h
  · exact h
  · cases h
theorem stk_keep (id : List Nat) (t : List Nat) : ∀ (l : List (List Nat)), l.foldl (fun o t => if o.isSome then o else if id = Sha.sum t then some t else o) (some t) = some t
  | [] => rfl
  | s :: l => by rw [List.foldl_cons]; exact stk_keep id t l
theorem stk_has {l : List (List Nat)} {t : List Nat} (h : t ∈ l) : (stk l (Sha.sum t)).isSome = true := by
  obtain ⟨a, b, rfl⟩ := List.append_of_mem h
  rw [show a ++ t :: b = (a ++ [t]) ++ b by simp]
  unfold stk
  rw [List.foldl_append]
  have h1 : (stk (a ++ [t]) (Sha.sum t)).isSome = true := by
    rw [stk_snoc]
    split
    · assumption
    · rw [if_pos rfl]; rfl
  unfold stk at h1
  obtain ⟨u, hu⟩ := Option.isSome_iff_exists.1 h1
  rw [hu, stk_keep]
  rfl
theorem stk_iff {l : List (List Nat)} {id : List Nat} : (stk l id).isSome = true ↔ id ∈ l.map Sha.sum := by
  constructor
  · intro h
    obtain ⟨t, ht⟩ := Option.isSome_iff_exists.1 h
    obtain ⟨h1, h2⟩ := stk_mem ht
    exact List.mem_map.2 ⟨t, h1, h2.symm⟩
  · intro h
    obtain ⟨t, ht, rfl⟩ := List.mem_map.1 h
    exact stk_has ht
/-- which object a text is, if it is one -/
noncomputable def ob (t : List Nat) : Option Ob := if 300 < t.length then none else match Ob.parse t with | .bad _ => none | .ok o => some o
noncomputable def obAt (l : List (List Nat)) (id : List Nat) : Option Ob := (stk l id).bind ob
noncomputable def lks (l : List (List Nat)) (id : List Nat) : List (List Nat) := match obAt l id with | none => [] | some o => o.links
noncomputable def knd (l : List (List Nat)) (id : List Nat) : Int := match obAt l id with | none => 0 | some o => o.kind
noncomputable def the (l : List (List Nat)) (id : List Nat) : Bool := (stk l id).isSome
/-- what is reached -/
inductive Rch (l roots : List (List Nat)) : List Nat → Prop where
  | root {x : List Nat} (h : x ∈ roots) : Rch l roots x
  | link {a b : List Nat} (h : Rch l roots a) (k : b ∈ lks l a) : Rch l roots b
/-- all that may be reached -/
noncomputable def pool (l roots : List (List Nat)) : List (List Nat) := roots ++ l.flatMap fun t => match ob t with | none => [] | some o => o.links
theorem lks_mem {l : List (List Nat)} {a b : List Nat} (h : b ∈ lks l a) : ∃ t ∈ l, ∃ o, ob t = some o ∧ b ∈ o.links := by
  unfold lks obAt at h
  cases hs : stk l a with
  | none => rw [hs] at h; cases h
  | some t =>
    rw [hs] at h
    cases ho : ob t with
    | none => simp [ho] at h
    | some o =>
      simp [ho] at h
      exact ⟨t, (stk_mem hs).1, o, ho, h⟩
theorem rch_pool {l roots : List (List Nat)} {x : List Nat} (h : Rch l roots x) : x ∈ pool l roots := by
  cases h with
  | root h => exact List.mem_append_left _ h
  | link h k =>
    obtain ⟨t, ht, o, ho, hb⟩ := lks_mem k
    exact List.mem_append_right _ (List.mem_flatMap.2 ⟨t, ht, by rw [ho]; exact hb⟩)
theorem nodup_le : ∀ {L M : List (List Nat)}, L.Nodup → (∀ x ∈ L, x ∈ M) → L.length ≤ M.length
  | [], _, _, _ => Nat.zero_le _
  | a :: L, M, h, hm => by
    obtain ⟨h1, h2⟩ := List.nodup_cons.1 h
    have ha := hm a (List.mem_cons_self ..)
    have := nodup_le (M := M.erase a) h2 (fun x hx => (List.mem_erase_of_ne (fun e => h1 (by rw [← e]; exact hx))).2 (hm x (List.mem_cons_of_mem _ hx)))
    rw [List.length_erase_of_mem ha] at this
    have h3 : 0 < M.length := List.length_pos_of_mem ha
    rw [List.length_cons]
    omega
theorem ob_some {t : List Nat} {o : Ob} (h : ob t = some o) : t.length ≤ 300 ∧ Ob.parse t = .ok o := by
  unfold ob at h
  split at h
  · cases h
  · split at h
    · cases h
    · rename_i hp
      cases h
      exact ⟨by omega, hp⟩
theorem flat_le {f : List Nat → List (List Nat)} {k : Nat} : ∀ {l : List (List Nat)}, (∀ t ∈ l, (f t).length ≤ k) → (l.flatMap f).length ≤ k * l.length
  | [], _ => Nat.zero_le _
  | a :: l, h => by
    have h1 := flat_le (l := l) (fun t ht => h t (List.mem_cons_of_mem _ ht))
    have h2 := h a (List.mem_cons_self ..)
    rw [List.flatMap_cons, List.length_append, List.length_cons, Nat.mul_add]
    omega
theorem rising_pw {r : List (List Nat)} : Sha.Rising r ↔ r.Pairwise (fun a b => Sha.cmpN a b < 0) := by
  rw [List.pairwise_iff_getElem]
  constructor
  · intro h i j hi hj hij
    have h1 := h i j hij hj
    simpa only [List.getD_eq_getElem?_getD, List.getElem?_eq_getElem hi, List.getElem?_eq_getElem hj, Option.getD_some] using h1
  · intro h i j hij hj
    have h1 := h i j (by omega) hj hij
    simpa only [List.getD_eq_getElem?_getD, List.getElem?_eq_getElem (by omega : i < r.length), List.getElem?_eq_getElem hj, Option.getD_some] using h1
theorem rising_nodup {r : List (List Nat)} (h : Sha.Rising r) : r.Nodup :=
  (rising_pw.1 h).imp fun {a b} hab e => by subst e; rw [Sha.cmpN_self] at hab; omega
end Cl
end Go.Proofs.YtlodalppnglclaaDoor
/- Maps from ids to any values, as functions: as maps from whole numbers (MapF). -/
namespace Go.Proofs.YtlodalppnglclaaDoor
open Go Go.RowKit Go.Maps
/-- every value reads as itself -/
def selfO (v : Value) : Option (DataW Value × List MemPlace) := some (.held v, [])
theorem selfO_mk (v : Value) : selfO v = some (.held v, []) := by unfold selfO; rfl
theorem oid_law : Keyed Tryd.prog 37 :=
  Keyed.of_law (deep_law_laid (by kernel_rfl) (m := 2) (by omega) (by rw [show Tryd.prog.types.size = 178 from by kernel_rfl]; decide) (by kernel_rfl) (by rw [Tryd.underlying37]))
/-- what an id reads as -/
def oidKey (xs : List Nat) : Lit := .string (keyBytes (xs.map fun (n : Nat) => Lit.int .u8 (n : Int)))
theorem mapM_all {α β : Type} {f : α → Option β} {g : α → β} : ∀ (l : List α), (∀ a ∈ l, f a = some (g a)) → l.mapM f = some (l.map g)
  | [], _ => rfl
  | a :: l, h => by
    rw [List.mapM_cons, h a (by simp), mapM_all l (fun b hb => h b (by simp [hb]))]
    rfl
theorem flatten_ones {α β : Type} (g : α → β) : ∀ (l : List α), (l.map fun a => [g a]).flatten = l.map g
  | [] => rfl
  | a :: l => by rw [List.map_cons, List.flatten_cons, flatten_ones g l]; rfl
theorem u8_wf {x : Nat} (h : x < 256) : (Lit.int .u8 (x : Int)).wf = true := by
  show (decide ((0 : Int) ≤ (x : Int)) && decide ((x : Int) ≤ 255)) = true
  rw [decide_eq_true (by omega), decide_eq_true (by omega)]
  rfl
theorem key_lits {cs : List Value} {m c : Nat} (hl : cs.length = c) (hc : Tryd.prog.cellsOf 37 = c) :
    Tryd.prog.keyLits (m + 1) 37 cs = ((List.range 32).mapM fun i => Tryd.prog.keyLits m 5 ((cs.drop (i * Tryd.prog.cellsOf 5)).take (Tryd.prog.cellsOf 5))).map List.flatten := by
  simp only [Program.keyLits, Tryd.underlying37]
  rw [if_pos (by rw [hl, hc])]
theorem oid_key {xs : List Nat} (h : Id32 xs) : keyOf Tryd.prog 37 (.agg (u8s xs)) = some (oidKey xs) := by
  obtain ⟨hl, hb⟩ := h
  have hc : Tryd.prog.cellsOf 37 = 32 := by kernel_rfl
  have hc1 : Tryd.prog.cellsOf 5 = 1 := by kernel_rfl
  have hk : Tryd.prog.keyType 37 = true := by kernel_rfl
  have hf : (Value.agg (u8s xs)).formed Tryd.prog 37 = true := by
    unfold Value.formed
    rw [Tryd.underlying37]
    simp only
    rw [u8s_size, hl, hc]
    rfl
  obtain ⟨m, hm⟩ : ∃ m, Tryd.prog.types.size = m + 1 := ⟨178 - 1, by kernel_rfl⟩
  have hlen : (Value.agg (u8s xs)).cells.toList.length = 32 := by
    show (u8s xs).toList.length = 32
    simp [u8s, hl]
  have hget : ∀ i, i < 32 → ((Value.agg (u8s xs)).cells.toList.drop (i * 1)).take 1 = [Value.int .u8 ((xs.getD i 0 : Nat) : Int)] := fun i hi => by
    show ((u8s xs).toList.drop (i * 1)).take 1 = _
    rw [Nat.mul_one]
    have e : (u8s xs).toList = xs.map fun (n : Nat) => Value.int .u8 (n : Int) := by simp [u8s]
    have e1 : (xs.drop i).take 1 = [xs.getD i 0] := by
      rw [List.drop_eq_getElem_cons (by omega), List.take_succ_cons, List.take_zero]
      simp [List.getD, hl, hi]
    rw [e, ← List.map_drop, ← List.map_take, e1]
    rfl
  have hone : ∀ i ∈ List.range 32, Tryd.prog.keyLits Tryd.prog.types.size 5 (((Value.agg (u8s xs)).cells.toList.drop (i * 1)).take 1) = some [Lit.int .u8 ((xs.getD i 0 : Nat) : Int)] := fun i hi => by
    have h := hb i
    rw [hget i (List.mem_range.1 hi), hm]
    generalize xs.getD i 0 = y at h ⊢
    have hw : (Lit.int .u8 (y : Int)).wf = true := u8_wf h
    simp [Program.keyLits, Tryd.underlying5, hw]
  unfold keyOf
  rw [Tryd.underlying37]
  simp only
  rw [hk, hf]
  simp only [Bool.and_self, if_true]
  rw [key_lits hlen hc, hc1, mapM_all (g := fun i => [Lit.int .u8 ((xs.getD i 0 : Nat) : Int)]) _ hone]
  simp only [Option.map_some]
  rw [flatten_ones]
  unfold oidKey
  have e : (List.range 32).map (fun i => Lit.int .u8 ((xs.getD i 0 : Nat) : Int)) = xs.map fun (n : Nat) => Lit.int .u8 (n : Int) := by
    apply List.ext_getElem
    · simp [hl]
    · intro i h1 h2
      simp at h1
      simp [List.getD, hl, h1]
  rw [e]
theorem oidKey_lit {xs : List Nat} (h : Id32 xs) : WideAt.IsKeyLit (oidKey xs) := oid_law.key (oid_key h)
theorem oidKey_ne {xs ys : List Nat} (hx : Id32 xs) (hy : Id32 ys) (h : ys ≠ xs) : oidKey ys ≠ oidKey xs := fun e => by
  have h1 := oid_key hx
  have h2 := oid_key hy
  rw [e] at h2
  have h3 := oid_law.inj h2 h1
  injection h3 with h3
  refine h ?_
  have e2 := congrArg Array.toList h3
  simp only [u8s] at e2
  apply List.ext_getElem
  · have := congrArg List.length e2; simpa using this
  · intro i i1 i2
    have := congrArg (fun l => l[i]?) e2
    simp [i1, i2] at this
    omega
/-- Block b is a map of at most n entries: f. -/
def MapO (w : World) (b n : Nat) (f : List Nat → Option Value) : Prop :=
  ∃ D : DataW Value, w.ownsMap Tryd.prog 37 selfO b n D ∧ ∀ xs, Id32 xs → has D (oidKey xs) = (f xs).isSome ∧ ∀ z, D.atKey (oidKey xs) (.held z) = .held ((f xs).getD z)
def updO (f : List Nat → Option Value) (x : List Nat) (v : Value) : List Nat → Option Value := fun y => if y = x then some v else f y
section
variable {w w' : World} {b n : Nat} {f : List Nat → Option Value} {t e : TypeId} {z : Value} {x : List Nat}
theorem MapO.made (w : World) : MapO (w.alloc (.map #[] 0)) w.heap.size 0 (fun _ => none) := ⟨_, World.ownsMap_made w _ _ _, fun _i _ => ⟨rfl, fun _ => rfl⟩⟩
theorem MapO.lt (h : MapO w b n f) : b < w.heap.size := by obtain ⟨D, h, _⟩ := h; exact h.lt
theorem MapO.mono (h : MapO w b n f) {n' : Nat} (hn : n ≤ n') : MapO w b n' f := by obtain ⟨D, h, k⟩ := h; exact ⟨D, h.mono hn, k⟩
theorem MapO.kept {row : Option Nat} (h : MapO w b n f) (hg : w.grownBy w' row) (hne : some b ≠ row) : MapO w' b n f := by obtain ⟨D, h, k⟩ := h; exact ⟨D, h.kept hg hne, k⟩
theorem MapO.below (h : MapO w b n f) (hb : Below w.heap.size w w') : MapO w' b n f := h.kept (only_of_below hb none) (by simp)
theorem MapO.block (h : MapO w b n f) (e : w'.heap[b]? = w.heap[b]?) : MapO w' b n f := by
  obtain ⟨D, ⟨es, clock, h1, h2, h3, h4⟩, k⟩ := h
  exact ⟨D, ⟨es, clock, e.trans h1, h2, h3, h4⟩, k⟩
theorem MapO.is (h : MapO w b n f) : ∃ es clock, w.heap[b]? = some (.map es clock) := by
  obtain ⟨D, ⟨es, clock, h1, _⟩, k⟩ := h
  exact ⟨es, clock, h1⟩
theorem MapO.ext (h : MapO w b n f) {g : List Nat → Option Value} (hg : ∀ x, Id32 x → f x = g x) : MapO w b n g := by
  obtain ⟨D, h1, k⟩ := h
  exact ⟨D, h1, fun x hx => by rw [← hg x hx]; exact k x hx⟩
theorem MapO.look (h : MapO w b n f) (ht : Tryd.prog.underlying t = some (.map 37 e)) (hz : (zeroValue e).run Tryd.prog w = .ok z w) (hi : Id32 x) :
    (Instr.lookup t (.map (some b)) (.agg (u8s x)) false).run Tryd.prog w = .ok ((f x).getD z) w := by
  obtain ⟨D, h, k⟩ := h
  obtain ⟨v, ps, hrun, hv⟩ := h.lookup oid_law ht hz (zd := .held z) (zp := []) (selfO_mk z) (oid_key hi)
  have e0 : DataW.held v = D.atKey (oidKey x) (.held z) := congrArg Prod.fst (Option.some.inj hv)
  rw [(k x hi).2 z] at e0
  have e1 := DataW.held.inj e0
  rw [hrun, e1]
theorem MapO.look_ok (h : MapO w b n f) (ht : Tryd.prog.underlying t = some (.map 37 e)) (hz : (zeroValue e).run Tryd.prog w = .ok z w) (hi : Id32 x) :
    (Instr.lookup t (.map (some b)) (.agg (u8s x)) true).run Tryd.prog w = .ok (.tuple #[(f x).getD z, .bool (f x).isSome]) w := by
  obtain ⟨D, h, k⟩ := h
  obtain ⟨v, ps, hrun, hv⟩ := h.look_ok oid_law ht hz (zd := .held z) (zp := []) (selfO_mk z) (oid_key hi)
  have e0 : DataW.held v = D.atKey (oidKey x) (.held z) := congrArg Prod.fst (Option.some.inj hv)
  rw [(k x hi).2 z] at e0
  have e1 := DataW.held.inj e0
  rw [hrun, e1, (k x hi).1]
theorem MapO.store (h : MapO w b n f) (ht : Tryd.prog.underlying t = some (.map 37 e)) (hn : n < maxLen) (hi : Id32 x) (v : Value) :
    ∃ w', (Instr.mapUpdate t (.map (some b)) (.agg (u8s x)) v).run Tryd.prog w = .ok () w' ∧ MapO w' b (n + 1) (updO f x v) ∧ w.grownBy w' (some b) := by
  obtain ⟨D, h, k⟩ := h
  obtain ⟨w', hrun, h2, hg⟩ := h.update oid_law ht hn (oid_key hi) (val := v) (d := .held v) (ps := []) (selfO_mk v)
  refine ⟨w', hrun, ⟨_, h2, fun y hy => ?_⟩, hg⟩
  unfold updO
  by_cases hyx : y = x
  · subst hyx
    rw [if_pos rfl]
    exact ⟨has_put_same h.isMap (oidKey_lit hi) _, fun z => atKey_put_same h.isMap (oidKey_lit hi) _ _⟩
  · rw [if_neg hyx]
    exact ⟨by rw [has_put_other (oidKey_ne hi hy hyx)]; exact (k y hy).1, fun z => by rw [atKey_put_other (oidKey_ne hi hy hyx)]; exact (k y hy).2 z⟩
end
end Go.Proofs.YtlodalppnglclaaDoor
