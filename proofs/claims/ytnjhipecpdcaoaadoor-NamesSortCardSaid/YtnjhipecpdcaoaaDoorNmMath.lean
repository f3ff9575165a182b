/- The mathematics of layer 3: parts of a text, which bytes and texts are names, which texts are below which, short texts. -/
import Derived.Lib.SplitLaws
import Derived.Lib.Bytealg
namespace Go.Proofs.YtnjhipecpdcaoaaDoor.Nm
open Go Go.Lib
/-- one byte more: the parts so far -/
def grow (acc : List (List UInt8)) (c : UInt8) : List (List UInt8) := if c = 47 then acc ++ [[]] else acc.dropLast ++ [acc.getLastD [] ++ [c]]
def parts (l : List UInt8) : List (List UInt8) := l.foldl grow [[]]
theorem parts_nil : parts [] = [[]] := rfl
theorem parts_snoc (l : List UInt8) (c : UInt8) : parts (l ++ [c]) = grow (parts l) c := by simp [parts, List.foldl_append]
def partsR : List UInt8 → List (List UInt8)
  | [] => [[]]
  | c :: l => if c = 47 then [] :: partsR l else (c :: (partsR l).headD []) :: (partsR l).tail
theorem partsR_ne (l : List UInt8) : partsR l ≠ [] := by
  cases l with
  | nil => simp [partsR]
  | cons c l => unfold partsR; split <;> simp
theorem grow_ne (acc : List (List UInt8)) (c : UInt8) : grow acc c ≠ [] := by unfold grow; split <;> simp
theorem foldl_grow : ∀ (l : List UInt8) (acc : List (List UInt8)) (p : List UInt8), l.foldl grow (acc ++ [p]) = acc ++ ((p ++ (partsR l).headD []) :: (partsR l).tail)
  | [], acc, p => by simp [partsR]
  | c :: l, acc, p => by
    rw [List.foldl_cons]
    by_cases h : c = 47
    · rw [show grow (acc ++ [p]) c = (acc ++ [p]) ++ [[]] by simp [grow, h], foldl_grow l (acc ++ [p]) []]
      obtain ⟨x, r, e⟩ := List.exists_cons_of_ne_nil (partsR_ne l)
      simp [partsR, h, e]
    · rw [show grow (acc ++ [p]) c = acc ++ [p ++ [c]] by simp [grow, h], foldl_grow l acc (p ++ [c])]
      simp [partsR, h]
theorem parts_eq (l : List UInt8) : parts l = partsR l := by
  have h := foldl_grow l [] []
  obtain ⟨x, r, e⟩ := List.exists_cons_of_ne_nil (partsR_ne l)
  simp [e] at h
  rw [parts, h, e]
theorem index_cons (c : UInt8) (l : List UInt8) : index (c :: l) [47] = if c = 47 then 0 else if index l [47] == -1 then -1 else index l [47] + 1 := by
  rw [index]
  by_cases h : c = 47
  · simp [h, List.isPrefixOf]
  · rw [if_neg h, if_neg]
    simp [List.isPrefixOf]
    exact fun e => h e.symm
theorem split_parts : ∀ (l : List UInt8) (k : Nat), l.count 47 ≤ k → splitK [47] 0 k l = partsR l
  | [], k, _ => by cases k <;> simp [splitK, partsR, index]
  | c :: l, k, hk => by
    have ix := index_cons c l
    by_cases h : c = 47
    · rw [if_pos h] at ix
      rw [h, List.count_cons_self] at hk
      obtain ⟨k', rfl⟩ : ∃ k', k = k' + 1 := ⟨k - 1, by omega⟩
      rw [splitK, ix]
      simp [partsR, h, split_parts l k' (by omega)]
    · rw [if_neg h] at ix
      rw [List.count_cons_of_ne (by simpa using h)] at hk
      have ih := split_parts l k hk
      by_cases hm : (index l [47] == -1) = true
      · rw [if_pos hm] at ix
        have e1 : splitK [47] 0 k l = [l] := by cases k with | zero => rfl | succ k => rw [splitK, if_pos hm]
        have e2 : splitK [47] 0 k (c :: l) = [c :: l] := by cases k with | zero => rfl | succ k => rw [splitK, if_pos (by rw [ix]; rfl)]
        rw [e2, partsR, if_neg h, ← ih, e1]; rfl
      · rw [if_neg hm] at ix
        have hge := index_ge l [47]
        have hne : index l [47] ≠ -1 := fun e => hm (by simp [e])
        obtain ⟨i, hi⟩ : ∃ i : Nat, index l [47] = i := ⟨(index l [47]).toNat, by omega⟩
        have hc : 1 ≤ l.count 47 := by
          have := count_hit (s := l) (sub := [47]) (by simp) hi
          rw [count_one] at this; omega
        obtain ⟨k', rfl⟩ : ∃ k', k = k' + 1 := ⟨k - 1, by omega⟩
        rw [splitK, if_neg hm, hi] at ih
        have hm2 : ¬ (index (c :: l) [47] == -1) = true := by rw [ix, hi]; simp; omega
        rw [splitK, if_neg hm2, ix, hi, partsR, if_neg h, ← ih]
        have e : ((i : Int) + 1).toNat = i + 1 := by omega
        simp [e]
theorem splitB_parts (s : ByteArray) : (splitB ⟨#[47]⟩ 0 (countB s ⟨#[47]⟩) s).map (·.data.toList) = parts s.data.toList := by
  rw [splitB_data, parts_eq]
  exact split_parts _ _ (by show _ ≤ count _ [47]; rw [count_one]; exact Nat.le_refl _)
/-- the pieces, as the library's function lays them -/
def cut (s : ByteArray) : List ByteArray := splitB ⟨#[47]⟩ 0 (countB s ⟨#[47]⟩) s
theorem cut_parts (s : ByteArray) : (cut s).map (·.data.toList) = parts s.data.toList := splitB_parts s
theorem cut_len (s : ByteArray) : (cut s).length = countB s ⟨#[47]⟩ + 1 := splitB_all _ (Nat.le_refl _) 0 _ s rfl
theorem parts_len (s : ByteArray) : (parts s.data.toList).length = countB s ⟨#[47]⟩ + 1 := by rw [← cut_parts, List.length_map, cut_len]
theorem any_cut (p : List UInt8 → Bool) (s : ByteArray) : (cut s).any (fun x => p x.data.toList) = (parts s.data.toList).any p := by rw [← cut_parts, List.any_map]; rfl
theorem splitB_size (sep : ByteArray) (save : Nat) : ∀ (k : Nat) (s : ByteArray), ∀ x ∈ splitB sep save k s, x.size ≤ s.size
  | 0, s, x, hx => by simp [splitB] at hx; subst hx; exact Nat.le_refl _
  | k + 1, s, x, hx => by
    unfold splitB at hx
    split at hx
    · simp at hx; subst hx; exact Nat.le_refl _
    · rcases List.mem_cons.1 hx with rfl | hx
      · rw [ByteArray.size_extract]; omega
      · have := splitB_size sep save k _ x hx
        rw [ByteArray.size_extract] at this; omega
theorem cut_size (s : ByteArray) (x : ByteArray) (hx : x ∈ cut s) : x.size ≤ s.size := splitB_size _ _ _ _ x hx
/-! which bytes -/
def lettr (c : UInt8) : Bool := decide (97 ≤ (c.toNat : Int)) && decide ((c.toNat : Int) ≤ 122)
def figr (c : UInt8) : Bool := decide (48 ≤ (c.toNat : Int)) && decide ((c.toNat : Int) ≤ 57)
def among (more : List UInt8) (c : UInt8) : Bool := decide (0 ≤ indexByte more c)
def plain (more : List UInt8) (c : UInt8) : Bool := lettr c || figr c || among more c
def allL (p : UInt8 → Bool) (l : List UInt8) : Bool := l.all p
def repo (l : List UInt8) : Bool := decide (1 ≤ l.length) && decide (l.length ≤ 12) && lettr (l.headD 0) && allL (plain [45]) l && !(l.getLastD 0 == 45)
def bad (p : List UInt8) : Bool := !(allL (plain [45, 46]) p) || allL (among [46]) p
def ref (l : List UInt8) : Bool := decide (l.length ≤ 24) && decide (2 ≤ (parts l).length) && !((parts l).any bad)
theorem among_one (x c : UInt8) : among [x] c = (c == x) := by
  unfold among indexByte indexByte
  by_cases h : x = c
  · simp [h]
  · rw [if_neg (by simpa using h)]
    have h2 : ¬ c = x := fun e => h e.symm
    simp [h2]
theorem among_two (x y c : UInt8) : among [x, y] c = (c == x || c == y) := by
  unfold among indexByte indexByte indexByte
  by_cases h : x = c
  · simp [h]
  · have h2 : ¬ c = x := fun e => h e.symm
    by_cases k : y = c
    · simp [k, h, h2]
    · have k2 : ¬ c = y := fun e => k e.symm
      simp [h, h2, k, k2]
/-! below, and short -/
def under (s p : List UInt8) : Bool := p.isPrefixOf s && (decide (s.length = p.length) || (decide (p.length + 1 < s.length) && s.getD p.length 0 == 47))
def short (s : List UInt8) (most : Int) : List UInt8 :=
  if (s.length : Int) ≤ most then s else if most < 0 then [] else if most < 3 then s.take most.toNat else s.take (most - 2).toNat ++ [46, 46]
theorem partsR_len : ∀ l : List UInt8, (partsR l).length ≤ l.length + 1
  | [] => Nat.le_refl _
  | c :: l => by
    have ih := partsR_len l
    unfold partsR
    split
    · simp only [List.length_cons]; omega
    · simp only [List.length_cons, List.length_tail]; omega
theorem partsR_mem : ∀ (l : List UInt8) (p : List UInt8), p ∈ partsR l → p.length ≤ l.length
  | [], p, h => by simp [partsR] at h; subst h; exact Nat.le_refl _
  | c :: l, p, h => by
    unfold partsR at h
    split at h
    · rcases List.mem_cons.1 h with rfl | h
      · simp
      · have := partsR_mem l p h; simp only [List.length_cons]; omega
    · rcases List.mem_cons.1 h with rfl | h
      · have h2 : (partsR l).headD [] ∈ partsR l := by
          obtain ⟨x, r, e⟩ := List.exists_cons_of_ne_nil (partsR_ne l)
          rw [e]; exact List.mem_cons_self ..
        have := partsR_mem l _ h2
        simp only [List.length_cons]; omega
      · have := partsR_mem l p (List.mem_of_mem_tail h); simp only [List.length_cons]; omega
theorem parts_len_le (l : List UInt8) : (parts l).length ≤ l.length + 1 := by rw [parts_eq]; exact partsR_len l
theorem parts_mem {l p : List UInt8} (h : p ∈ parts l) : p.length ≤ l.length := by rw [parts_eq] at h; exact partsR_mem l p h
theorem parts_ne (l : List UInt8) : parts l ≠ [] := by rw [parts_eq]; exact partsR_ne l
theorem parts_last (l : List UInt8) : ∃ acc p, parts l = acc ++ [p] ∧ p.length ≤ l.length ∧ acc.length ≤ l.length := by
  have h := parts_ne l
  have e := (List.dropLast_concat_getLast h).symm
  refine ⟨_, _, e, parts_mem (List.getLast_mem h), ?_⟩
  have := parts_len_le l
  rw [List.length_dropLast]; omega
theorem grow_slash (acc : List (List UInt8)) : grow acc 47 = acc ++ [[]] := by simp [grow]
theorem grow_else (acc : List (List UInt8)) (p : List UInt8) (c : UInt8) (h : c ≠ 47) : grow (acc ++ [p]) c = acc ++ [p ++ [c]] := by simp [grow, h]
theorem cut_eq (s : ByteArray) : cut s = (parts s.data.toList).map fun p => ⟨p.toArray⟩ := by
  rw [← cut_parts, List.map_map]
  conv => lhs; rw [← List.map_id (cut s)]
  apply List.map_congr_left
  intro x _
  rfl
/-! the same, byte by byte -/
theorem plain2 (c : UInt8) : plain [45, 46] c = (lettr c || figr c || (c == 45 || c == 46)) := by unfold plain; rw [among_two]
theorem plain1 (c : UInt8) : plain [45] c = (lettr c || figr c || c == 45) := by unfold plain; rw [among_one]
theorem dots_all (l : List UInt8) : allL (among [46]) l = decide (l.count 46 = l.length) := by
  unfold allL
  rw [Bool.eq_iff_iff, List.all_eq_true, decide_eq_true_eq, List.count_eq_length]
  constructor
  · intro h b hb; have := h b hb; rw [among_one] at this; exact (beq_iff_eq.1 this).symm
  · intro h b hb; rw [among_one, ← h b hb]; rfl
theorem under_parts (s p m : List UInt8) (h : p.isPrefixOf s = true) (hm : m = s.drop p.length) : under s p = (m.isEmpty || ([47].isPrefixOf m && !(m == [47]))) := by
  obtain ⟨t, rfl⟩ := List.isPrefixOf_iff_prefix.1 h
  rw [List.drop_left] at hm
  subst hm
  unfold under
  rw [h]
  rcases m with _ | ⟨c, _ | ⟨d, r⟩⟩
  · simp
  · simp [List.isPrefixOf, List.getD]; rintro rfl; rfl
  · simp [List.isPrefixOf, List.getD, Bool.beq_comm]
theorem under_miss (s p : List UInt8) (h : p.isPrefixOf s = false) : under s p = false := by unfold under; rw [h]; rfl
end Go.Proofs.YtnjhipecpdcaoaaDoor.Nm
