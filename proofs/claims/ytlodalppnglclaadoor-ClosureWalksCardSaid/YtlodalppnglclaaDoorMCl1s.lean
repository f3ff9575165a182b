/- What is reached, said plainly. -/
import Derived.Test.YtlodalppnglclaaDoorMOb30s
import Derived.Test.YtlodalppnglclaaDoorMShaEnds
import Derived.Test.YtlodalppnglclaaDoorMOct16s
import Derived.Maps.OwnSet
import Derived.DeepKeys4
import Derived.Maps.RangeWalk
import Derived.Test.YtlodalppnglclaaDoorMLawKits
import Derived.Lib.AppendZerosOnto
namespace Go.Proofs.YtlodalppnglclaaDoor
open Go Go.RowKit
namespace Cl
/-- the first of some texts with an id -/
noncomputable def stk (l : List (List Nat)) (id : List Nat) : Option (List Nat) := l.foldl (fun o t => if o.isSome then o else if id = Sha.sum t then some t else o) none
theorem stk_snoc (l : List (List Nat)) (t id : List Nat) : stk (l ++ [t]) id = if (stk l id).isSome then stk l id else if id = Sha.sum t then some t else stk l id := by
  unfold stk; rw [List.foldl_append]; rfl
theorem stk_from (id : List Nat) : ∀ (l : List (List Nat)) (o : Option (List Nat)) (t : List Nat), l.foldl (fun o t => if o.isSome then o else if id = Sha.sum t then some t else o) o = some t → (t ∈ l ∧ id = Sha.sum t) ∨ o = some t
  | [], _, _, h => Or.inr h
  | s :: l, o, t, h => by
    rw [List.foldl_cons] at h
    rcases stk_from id l _ t h with ⟨h1, h2⟩ | h1
    · exact Or.inl ⟨List.mem_cons_of_mem _ h1, h2⟩
    · split at h1
      · exact Or.inr h1
      · split at h1
        · rename_i he
          cases h1
          exact Or.inl ⟨List.mem_cons_self .., he⟩
        · exact Or.inr h1
theorem stk_mem {l : List (List Nat)} {id t : List Nat} (h : stk l id = some t) : t ∈ l ∧ id = Sha.sum t := by
  rcases stk_from id l none t h with h | h
  · exact h
  · cases h
theorem stk_keep (id : List Nat) (t : List Nat) : ∀ (l : List (List Nat)), l.foldl (fun o t => if o.isSome then o else if id = Sha.sum t then some t else o) (some t) = some t
  | [] => rfl
  | s :: l => by rw [List.foldl_cons]; exact stk_keep id t l
theorem stk_has {l : List (List Nat)} {t : List Nat} (h : t ∈ l) : (stk l (Sha.sum t)).isSome = true := by
  obtain ⟨a, b, rfl⟩ := List.append_of_mem h
  rw [show a ++ t :: b = (a ++ [t]) ++ b by simp]
  unfold stk
  rw [List.foldl_append]
  have h1 : (stk (a ++ [t]) (Sha.sum t)).isSome = true := by
    rw [stk_snoc]
    split
    · assumption
    · rw [if_pos rfl]; rfl
  unfold stk at h1
  obtain ⟨u, hu⟩ := Option.isSome_iff_exists.1 h1
  rw [hu, stk_keep]
  rfl
theorem stk_iff {l : List (List Nat)} {id : List Nat} : (stk l id).isSome = true ↔ id ∈ l.map Sha.sum := by
  constructor
  · intro h
    obtain ⟨t, ht⟩ := Option.isSome_iff_exists.1 h
    obtain ⟨h1, h2⟩ := stk_mem ht
    exact List.mem_map.2 ⟨t, h1, h2.symm⟩
  · intro h
    obtain ⟨t, ht, rfl⟩ := List.mem_map.1 h
    exact stk_has ht
/-- which object a text is, if it is one -/
noncomputable def ob (t : List Nat) : Option Ob := if 300 < t.length then none else match Ob.parse t with | .bad _ => none | .ok o => some o
noncomputable def obAt (l : List (List Nat)) (id : List Nat) : Option Ob := (stk l id).bind ob
noncomputable def lks (l : List (List Nat)) (id : List Nat) : List (List Nat) := match obAt l id with | none => [] | some o => o.links
noncomputable def knd (l : List (List Nat)) (id : List Nat) : Int := match obAt l id with | none => 0 | some o => o.kind
noncomputable def the (l : List (List Nat)) (id : List Nat) : Bool := (stk l id).isSome
/-- what is reached -/
inductive Rch (l roots : List (List Nat)) : List Nat → Prop where
  | root {x : List Nat} (h : x ∈ roots) : Rch l roots x
  | link {a b : List Nat} (h : Rch l roots a) (k : b ∈ lks l a) : Rch l roots b
/-- all that may be reached -/
noncomputable def pool (l roots : List (List Nat)) : List (List Nat) := roots ++ l.flatMap fun t => match ob t with | none => [] | some o => o.links
theorem lks_mem {l : List (List Nat)} {a b : List Nat} (h : b ∈ lks l a) : ∃ t ∈ l, ∃ o, ob t = some o ∧ b ∈ o.links := by
  unfold lks obAt at h
  cases hs : stk l a with
  | none => rw [hs] at h; cases h
  | some t =>
    rw [hs] at h
    cases ho : ob t with
    | none => simp [ho] at h
    | some o =>
      simp [ho] at h
      exact ⟨t, (stk_mem hs).1, o, ho, h⟩
theorem rch_pool {l roots : List (List Nat)} {x : List Nat} (h : Rch l roots x) : x ∈ pool l roots := by
  cases h with
  | root h => exact List.mem_append_left _ h
  | link h k =>
    obtain ⟨t, ht, o, ho, hb⟩ := lks_mem k
    exact List.mem_append_right _ (List.mem_flatMap.2 ⟨t, ht, by rw [ho]; exact hb⟩)
theorem nodup_le : ∀ {L M : List (List Nat)}, L.Nodup → (∀ x ∈ L, x ∈ M) → L.length ≤ M.length
  | [], _, _, _ => Nat.zero_le _
  | a :: L, M, h, hm => by
    obtain ⟨h1, h2⟩ := List.nodup_cons.1 h
    have ha := hm a (List.mem_cons_self ..)
    have := nodup_le (M := M.erase a) h2 (fun x hx => (List.mem_erase_of_ne (fun e => h1 (by rw [← e]; exact hx))).2 (hm x (List.mem_cons_of_mem _ hx)))
    rw [List.length_erase_of_mem ha] at this
    have h3 : 0 < M.length := List.length_pos_of_mem ha
    rw [List.length_cons]
    omega
theorem ob_some {t : List Nat} {o : Ob} (h : ob t = some o) : t.length ≤ 300 ∧ Ob.parse t = .ok o := by
  unfold ob at h
  split at h
  · cases h
  · split at h
    · cases h
    · rename_i hp
      cases h
      exact ⟨by omega, hp⟩
theorem flat_le {f : List Nat → List (List Nat)} {k : Nat} : ∀ {l : List (List Nat)}, (∀ t ∈ l, (f t).length ≤ k) → (l.flatMap f).length ≤ k * l.length
  | [], _ => Nat.zero_le _
  | a :: l, h => by
    have h1 := flat_le (l := l) (fun t ht => h t (List.mem_cons_of_mem _ ht))
    have h2 := h a (List.mem_cons_self ..)
    rw [List.flatMap_cons, List.length_append, List.length_cons, Nat.mul_add]
    omega
theorem rising_pw {r : List (List Nat)} : Sha.Rising r ↔ r.Pairwise (fun a b => Sha.cmpN a b < 0) := by
  rw [List.pairwise_iff_getElem]
  constructor
  · intro h i j hi hj hij
    have h1 := h i j hij hj
    simpa only [List.getD_eq_getElem?_getD, List.getElem?_eq_getElem hi, List.getElem?_eq_getElem hj, Option.getD_some] using h1
  · intro h i j hij hj
    have h1 := h i j (by omega) hj hij
    simpa only [List.getD_eq_getElem?_getD, List.getElem?_eq_getElem (by omega : i < r.length), List.getElem?_eq_getElem hj, Option.getD_some] using h1
theorem rising_nodup {r : List (List Nat)} (h : Sha.Rising r) : r.Nodup :=
  (rising_pw.1 h).imp fun {a b} hab e => by subst e; rw [Sha.cmpN_self] at hab; omega
/-- rising rows with the same ids are one -/
theorem rising_ext {r s : List (List Nat)} (hr : Sha.Rising r) (hs : Sha.Rising s) (h : ∀ x, x ∈ r ↔ x ∈ s) : r = s := by
  have hp : r.Perm s := (List.perm_ext_iff_of_nodup (rising_nodup hr) (rising_nodup hs)).2 h
  refine List.Perm.eq_of_pairwise (le := fun a b => Sha.cmpN a b < 0) (fun a b _ _ h1 h2 => ?_) (rising_pw.1 hr) (rising_pw.1 hs) hp
  have h3 := Sha.cmpN_anti a b
  omega
end Cl
end Go.Proofs.YtlodalppnglclaaDoor
/- Maps from ids to any values, as functions: as maps from whole numbers (MapF). -/
namespace Go.Proofs.YtlodalppnglclaaDoor
open Go Go.RowKit Go.Maps
/-- every value reads as itself -/
def selfO (v : Value) : Option (DataW Value × List MemPlace) := some (.held v, [])
theorem selfO_mk (v : Value) : selfO v = some (.held v, []) := by unfold selfO; rfl
theorem oid_law : Keyed Tryd.prog 37 :=
  Keyed.of_law (deep_law_laid (by kernel_rfl) (m := 2) (by omega) (by rw [show Tryd.prog.types.size = 178 from by kernel_rfl]; decide) (by kernel_rfl) (by rw [Tryd.underlying37]))
/-- what an id reads as -/
def oidKey (xs : List Nat) : Lit := .string (keyBytes (xs.map fun (n : Nat) => Lit.int .u8 (n : Int)))
theorem mapM_all {α β : Type} {f : α → Option β} {g : α → β} : ∀ (l : List α), (∀ a ∈ l, f a = some (g a)) → l.mapM f = some (l.map g)
  | [], _ => rfl
  | a :: l, h => by
    rw [List.mapM_cons, h a (by simp), mapM_all l (fun b hb => h b (by simp [hb]))]
    rfl
theorem flatten_ones {α β : Type} (g : α → β) : ∀ (l : List α), (l.map fun a => [g a]).flatten = l.map g
  | [] => rfl
  | a :: l => by rw [List.map_cons, List.flatten_cons, flatten_ones g l]; rfl
theorem u8_wf {x : Nat} (h : x < 256) : (Lit.int .u8 (x : Int)).wf = true := by
  show (decide ((0 : Int) ≤ (x : Int)) && decide ((x : Int) ≤ 255)) = true
  rw [decide_eq_true (by omega), decide_eq_true (by omega)]
  rfl
theorem key_lits {cs : List Value} {m c : Nat} (hl : cs.length = c) (hc : Tryd.prog.cellsOf 37 = c) :
    Tryd.prog.keyLits (m + 1) 37 cs = ((List.range 32).mapM fun i => Tryd.prog.keyLits m 5 ((cs.drop (i * Tryd.prog.cellsOf 5)).take (Tryd.prog.cellsOf 5))).map List.flatten := by
  simp only [Program.keyLits, Tryd.underlying37]
  rw [if_pos (by rw [hl, hc])]
theorem oid_key {xs : List Nat} (h : Id32 xs) : keyOf Tryd.prog 37 (.agg (u8s xs)) = some (oidKey xs) := by
  obtain ⟨hl, hb⟩ := h
  have hc : Tryd.prog.cellsOf 37 = 32 := by kernel_rfl
  have hc1 : Tryd.prog.cellsOf 5 = 1 := by kernel_rfl
  have hk : Tryd.prog.keyType 37 = true := by kernel_rfl
  have hf : (Value.agg (u8s xs)).formed Tryd.prog 37 = true := by
    unfold Value.formed
    rw [Tryd.underlying37]
    simp only
    rw [u8s_size, hl, hc]
    rfl
  obtain ⟨m, hm⟩ : ∃ m, Tryd.prog.types.size = m + 1 := ⟨178 - 1, by kernel_rfl⟩
  have hlen : (Value.agg (u8s xs)).cells.toList.length = 32 := by
    show (u8s xs).toList.length = 32
    simp [u8s, hl]
  have hget : ∀ i, i < 32 → ((Value.agg (u8s xs)).cells.toList.drop (i * 1)).take 1 = [Value.int .u8 ((xs.getD i 0 : Nat) : Int)] := fun i hi => by
    show ((u8s xs).toList.drop (i * 1)).take 1 = _
    rw [Nat.mul_one]
    have e : (u8s xs).toList = xs.map fun (n : Nat) => Value.int .u8 (n : Int) := by simp [u8s]
    have e1 : (xs.drop i).take 1 = [xs.getD i 0] := by
      rw [List.drop_eq_getElem_cons (by omega), List.take_succ_cons, List.take_zero]
      simp [List.getD, hl, hi]
    rw [e, ← List.map_drop, ← List.map_take, e1]
    rfl
  have hone : ∀ i ∈ List.range 32, Tryd.prog.keyLits Tryd.prog.types.size 5 (((Value.agg (u8s xs)).cells.toList.drop (i * 1)).take 1) = some [Lit.int .u8 ((xs.getD i 0 : Nat) : Int)] := fun i hi => by
    have h := hb i
    rw [hget i (List.mem_range.1 hi), hm]
    generalize xs.getD i 0 = y at h ⊢
    have hw : (Lit.int .u8 (y : Int)).wf = true := u8_wf h
    simp [Program.keyLits, Tryd.underlying5, hw]
  unfold keyOf
  rw [Tryd.underlying37]
  simp only
  rw [hk, hf]
  simp only [Bool.and_self, if_true]
  rw [key_lits hlen hc, hc1, mapM_all (g := fun i => [Lit.int .u8 ((xs.getD i 0 : Nat) : Int)]) _ hone]
  simp only [Option.map_some]
  rw [flatten_ones]
  unfold oidKey
  have e : (List.range 32).map (fun i => Lit.int .u8 ((xs.getD i 0 : Nat) : Int)) = xs.map fun (n : Nat) => Lit.int .u8 (n : Int) := by
    apply List.ext_getElem
    · simp [hl]
    · intro i h1 h2
      simp at h1
      simp [List.getD, hl, h1]
  rw [e]
theorem oidKey_lit {xs : List Nat} (h : Id32 xs) : WideAt.IsKeyLit (oidKey xs) := oid_law.key (oid_key h)
theorem oidKey_ne {xs ys : List Nat} (hx : Id32 xs) (hy : Id32 ys) (h : ys ≠ xs) : oidKey ys ≠ oidKey xs := fun e => by
  have h1 := oid_key hx
  have h2 := oid_key hy
  rw [e] at h2
  have h3 := oid_law.inj h2 h1
  injection h3 with h3
  refine h ?_
  have e2 := congrArg Array.toList h3
  simp only [u8s] at e2
  apply List.ext_getElem
  · have := congrArg List.length e2; simpa using this
  · intro i i1 i2
    have := congrArg (fun l => l[i]?) e2
    simp [i1, i2] at this
    omega
/-- Block b is a map of at most n entries: f. -/
def MapO (w : World) (b n : Nat) (f : List Nat → Option Value) : Prop :=
  ∃ D : DataW Value, w.ownsMap Tryd.prog 37 selfO b n D ∧ ∀ xs, Id32 xs → has D (oidKey xs) = (f xs).isSome ∧ ∀ z, D.atKey (oidKey xs) (.held z) = .held ((f xs).getD z)
def updO (f : List Nat → Option Value) (x : List Nat) (v : Value) : List Nat → Option Value := fun y => if y = x then some v else f y
section
variable {w w' : World} {b n : Nat} {f : List Nat → Option Value} {t e : TypeId} {z : Value} {x : List Nat}
theorem MapO.made (w : World) : MapO (w.alloc (.map #[] 0)) w.heap.size 0 (fun _ => none) := ⟨_, World.ownsMap_made w _ _ _, fun _i _ => ⟨rfl, fun _ => rfl⟩⟩
theorem MapO.lt (h : MapO w b n f) : b < w.heap.size := by obtain ⟨D, h, _⟩ := h; exact h.lt
theorem MapO.mono (h : MapO w b n f) {n' : Nat} (hn : n ≤ n') : MapO w b n' f := by obtain ⟨D, h, k⟩ := h; exact ⟨D, h.mono hn, k⟩
theorem MapO.kept {row : Option Nat} (h : MapO w b n f) (hg : w.grownBy w' row) (hne : some b ≠ row) : MapO w' b n f := by obtain ⟨D, h, k⟩ := h; exact ⟨D, h.kept hg hne, k⟩
theorem MapO.below (h : MapO w b n f) (hb : Below w.heap.size w w') : MapO w' b n f := h.kept (only_of_below hb none) (by simp)
theorem MapO.block (h : MapO w b n f) (e : w'.heap[b]? = w.heap[b]?) : MapO w' b n f := by
  obtain ⟨D, ⟨es, clock, h1, h2, h3, h4⟩, k⟩ := h
  exact ⟨D, ⟨es, clock, e.trans h1, h2, h3, h4⟩, k⟩
theorem MapO.is (h : MapO w b n f) : ∃ es clock, w.heap[b]? = some (.map es clock) := by
  obtain ⟨D, ⟨es, clock, h1, _⟩, k⟩ := h
  exact ⟨es, clock, h1⟩
theorem MapO.ext (h : MapO w b n f) {g : List Nat → Option Value} (hg : ∀ x, Id32 x → f x = g x) : MapO w b n g := by
  obtain ⟨D, h1, k⟩ := h
  exact ⟨D, h1, fun x hx => by rw [← hg x hx]; exact k x hx⟩
theorem MapO.look (h : MapO w b n f) (ht : Tryd.prog.underlying t = some (.map 37 e)) (hz : (zeroValue e).run Tryd.prog w = .ok z w) (hi : Id32 x) :
    (Instr.lookup t (.map (some b)) (.agg (u8s x)) false).run Tryd.prog w = .ok ((f x).getD z) w := by
  obtain ⟨D, h, k⟩ := h
  obtain ⟨v, ps, hrun, hv⟩ := h.lookup oid_law ht hz (zd := .held z) (zp := []) (selfO_mk z) (oid_key hi)
  have e0 : DataW.held v = D.atKey (oidKey x) (.held z) := congrArg Prod.fst (Option.some.inj hv)
  rw [(k x hi).2 z] at e0
  have e1 := DataW.held.inj e0
  rw [hrun, e1]
theorem MapO.look_ok (h : MapO w b n f) (ht : Tryd.prog.underlying t = some (.map 37 e)) (hz : (zeroValue e).run Tryd.prog w = .ok z w) (hi : Id32 x) :
    (Instr.lookup t (.map (some b)) (.agg (u8s x)) true).run Tryd.prog w = .ok (.tuple #[(f x).getD z, .bool (f x).isSome]) w := by
  obtain ⟨D, h, k⟩ := h
  obtain ⟨v, ps, hrun, hv⟩ := h.look_ok oid_law ht hz (zd := .held z) (zp := []) (selfO_mk z) (oid_key hi)
  have e0 : DataW.held v = D.atKey (oidKey x) (.held z) := congrArg Prod.fst (Option.some.inj hv)
  rw [(k x hi).2 z] at e0
  have e1 := DataW.held.inj e0
  rw [hrun, e1, (k x hi).1]
theorem MapO.store (h : MapO w b n f) (ht : Tryd.prog.underlying t = some (.map 37 e)) (hn : n < maxLen) (hi : Id32 x) (v : Value) :
    ∃ w', (Instr.mapUpdate t (.map (some b)) (.agg (u8s x)) v).run Tryd.prog w = .ok () w' ∧ MapO w' b (n + 1) (updO f x v) ∧ w.grownBy w' (some b) := by
  obtain ⟨D, h, k⟩ := h
  obtain ⟨w', hrun, h2, hg⟩ := h.update oid_law ht hn (oid_key hi) (val := v) (d := .held v) (ps := []) (selfO_mk v)
  refine ⟨w', hrun, ⟨_, h2, fun y hy => ?_⟩, hg⟩
  unfold updO
  by_cases hyx : y = x
  · subst hyx
    rw [if_pos rfl]
    exact ⟨has_put_same h.isMap (oidKey_lit hi) _, fun z => atKey_put_same h.isMap (oidKey_lit hi) _ _⟩
  · rw [if_neg hyx]
    exact ⟨by rw [has_put_other (oidKey_ne hi hy hyx)]; exact (k y hy).1, fun z => by rw [atKey_put_other (oidKey_ne hi hy hyx)]; exact (k y hy).2 z⟩
end
end Go.Proofs.YtlodalppnglclaaDoor
/- Maps from ids that are ranged over, as functions. -/
namespace Go.Proofs.YtlodalppnglclaaDoor
open Go Go.RowKit Go.Maps
theorem mapM_inv {α β : Type} {f : α → Option β} : ∀ {l : List α} {r : List β}, l.mapM f = some r → r.length = l.length ∧ ∀ i (h : i < l.length) (h2 : i < r.length), f l[i] = some r[i]
  | [], r, h => by
    rw [List.mapM_nil] at h
    obtain rfl : r = [] := by injection h with h; exact h.symm
    exact ⟨rfl, fun i h => by simp at h⟩
  | a :: l, r, h => by
    rw [List.mapM_cons] at h
    cases ha : f a with
    | none => rw [ha] at h; cases h
    | some b =>
      cases hl : l.mapM f with
      | none => rw [ha, hl] at h; cases h
      | some s =>
        rw [ha, hl] at h
        obtain rfl : r = b :: s := by injection h with h; exact h.symm
        obtain ⟨h1, h2⟩ := mapM_inv hl
        refine ⟨by rw [List.length_cons, List.length_cons, h1], fun i hi hi2 => ?_⟩
        obtain _ | i := i
        · exact ha
        · exact h2 i (by simpa using hi) (by simpa using hi2)
set_option maxRecDepth 100000 in
theorem oid_key_inv {key : Value} {kl : Lit} (h : keyOf Tryd.prog 37 key = some kl) : ∃ x, Id32 x ∧ key = .agg (u8s x) ∧ kl = oidKey x := by
  have hkey := h
  have hc : Tryd.prog.cellsOf 37 = 32 := by kernel_rfl
  have hc1 : Tryd.prog.cellsOf 5 = 1 := by kernel_rfl
  have hk : Tryd.prog.keyType 37 = true := by kernel_rfl
  unfold keyOf at h
  rw [Tryd.underlying37] at h
  simp only at h
  rw [hk] at h
  simp only [Bool.true_and] at h
  split at h
  · rename_i hf
    obtain ⟨ls, hls, _⟩ := Option.map_eq_some_iff.1 h
    unfold Value.formed at hf
    rw [Tryd.underlying37] at hf
    cases key with
    | agg cs =>
      simp only [hc] at hf
      have hsz : cs.size = 32 := by simpa using hf
      have hlen : (Value.agg cs).cells.toList.length = 32 := by show cs.toList.length = 32; simpa using hsz
      rw [key_lits hlen hc, hc1] at hls
      obtain ⟨rs, hrs, _⟩ := Option.map_eq_some_iff.1 hls
      obtain ⟨h1, h2⟩ := mapM_inv hrs
      obtain ⟨m, hm⟩ : ∃ m, Tryd.prog.types.size = m + 1 := ⟨178 - 1, by kernel_rfl⟩
      have hcell : ∀ i (hi : i < 32), ∃ y : Nat, y < 256 ∧ cs[i]? = some (.int .u8 (y : Int)) := fun i hi => by
        have h3 := h2 i (by simpa using hi) (by rw [h1]; simpa using hi)
        rw [List.getElem_range] at h3
        have h4 : ((Value.agg cs).cells.toList.drop (i * 1)).take 1 = [cs[i]'(by omega)] := by
          show (cs.toList.drop (i * 1)).take 1 = _
          rw [Nat.mul_one, List.drop_eq_getElem_cons (by simpa using (by omega : i < cs.size)), List.take_succ_cons, List.take_zero]
          simp
        rw [h4, hm] at h3
        generalize hu : cs[i]'(by omega) = u at h3
        have hget : cs[i]? = some u := by rw [← hu]; exact Array.getElem?_eq_getElem _
        cases u <;> simp [Program.keyLits, Tryd.underlying5] at h3
        rename_i q n
        obtain ⟨⟨rfl, hw⟩, _⟩ := h3
        have hw2 : (decide ((0 : Int) ≤ n) && decide (n ≤ 255)) = true := hw
        simp only [Bool.and_eq_true, decide_eq_true_eq] at hw2
        exact ⟨n.toNat, by omega, by rw [hget]; congr 2; omega⟩
      obtain ⟨x, hx⟩ : ∃ x : List Nat, x = (List.range 32).map fun i => match cs[i]? with | some (.int _ n) => n.toNat | _ => 0 := ⟨_, rfl⟩
      have hxl : x.length = 32 := by rw [hx]; simp
      have hxg : ∀ i, i < 32 → ∃ y, y < 256 ∧ cs[i]? = some (.int .u8 (y : Int)) ∧ x.getD i 0 = y := fun i hi => by
        obtain ⟨y, hy, hyc⟩ := hcell i hi
        refine ⟨y, hy, hyc, ?_⟩
        rw [hx, List.getD_eq_getElem?_getD, List.getElem?_map, List.getElem?_range hi]
        simp [hyc]
      have hid : Id32 x := ⟨hxl, fun i => by
        by_cases hi : i < 32
        · obtain ⟨y, hy, _, he⟩ := hxg i hi
          rw [he]; exact hy
        · rw [List.getD_eq_getElem?_getD, List.getElem?_eq_none (by omega)]; decide⟩
      have hcs : cs = u8s x := by
        apply Array.ext_getElem?
        intro i
        by_cases hi : i < 32
        · obtain ⟨y, hy, hc2, he⟩ := hxg i hi
          rw [hc2, u8s_get x i (by omega), he]
        · rw [Array.getElem?_eq_none (by omega), Array.getElem?_eq_none (by rw [u8s_size]; omega)]
      refine ⟨x, hid, by rw [hcs], ?_⟩
      rw [hcs, oid_key hid] at hkey
      injection hkey with hkey
      exact hkey.symm
    | _ => simp at hf
  · cases h
/-- Block r is an iterator over the map f in block b; left: which ids are still to come. -/
def RngO (w : World) (b r n : Nat) (f : List Nat → Option Value) (left : List Nat → Bool) (cnt : Nat) : Prop :=
  ∃ (D : DataW Value) (lf : Lit → Bool), w.ranges Tryd.prog 37 selfO b r n D lf cnt ∧ (∀ xs, Id32 xs → has D (oidKey xs) = (f xs).isSome ∧ ∀ z, D.atKey (oidKey xs) (.held z) = .held ((f xs).getD z)) ∧ ∀ xs, Id32 xs → left xs = lf (oidKey xs)
section
variable {w w' : World} {b r n cnt : Nat} {f : List Nat → Option Value} {left : List Nat → Bool} {t e : TypeId}
theorem RngO.left_eq (h : RngO w b r n f left cnt) : w.rangeLeft b r = cnt := by obtain ⟨D, lf, h1, _⟩ := h; exact h1.left_eq
theorem RngO.ne (h : RngO w b r n f left cnt) : r ≠ b := by obtain ⟨D, lf, h1, _⟩ := h; exact h1.ne
theorem RngO.lt (h : RngO w b r n f left cnt) : r < w.heap.size := by obtain ⟨D, lf, h1, _⟩ := h; exact h1.lt
theorem RngO.kept {row : Option Nat} (h : RngO w b r n f left cnt) (hg : w.grownBy w' row) (hb : some b ≠ row) (hr : some r ≠ row) : RngO w' b r n f left cnt := by
  obtain ⟨D, lf, h1, h2⟩ := h; exact ⟨D, lf, h1.kept hg hb hr, h2⟩
theorem RngO.below (h : RngO w b r n f left cnt) (hb : Below w.heap.size w w') : RngO w' b r n f left cnt := h.kept (only_of_below hb none) (by simp) (by simp)
theorem MapO.range (h : MapO w b n f) (ht : Tryd.prog.underlying t = some (.map 37 e)) :
    ∃ w' cnt, (Instr.range t (.map (some b))).run Tryd.prog w = .ok (.pointer (some ⟨w.heap.size, 0, none⟩)) w' ∧ RngO w' b w.heap.size n f (fun x => (f x).isSome) cnt ∧ w.grownBy w' none ∧ w'.heap.size = w.heap.size + 1 := by
  obtain ⟨D, h, k⟩ := h
  obtain ⟨w', h1, h2, h3, h4⟩ := h.range oid_law ht
  exact ⟨w', _, h1, ⟨D, _, h2, k, fun x hx => ((k x hx).1).symm⟩, h3, h4⟩
set_option maxRecDepth 100000 in
theorem RngO.next (h : RngO w b r n f left cnt) (ty : TypeId) :
    (cnt = 0 ∧ (∀ x, Id32 x → left x = false) ∧ (Instr.next (.pointer (some ⟨r, 0, none⟩)) false ty).run Tryd.prog w = .ok (.tuple #[.bool false]) w) ∨
    ∃ x v w' cnt', Id32 x ∧ left x = true ∧ f x = some v ∧ (Instr.next (.pointer (some ⟨r, 0, none⟩)) false ty).run Tryd.prog w = .ok (.tuple #[.bool true, .agg (u8s x), v]) w' ∧ RngO w' b r n f (fun y => left y && !decide (y = x)) cnt' ∧ cnt' < cnt ∧ w.grownBy w' (some r) ∧ w'.heap.size = w.heap.size ∧ (Instr.entry (.pointer (some ⟨r, 0, none⟩))).run Tryd.prog w' = .ok (.tuple #[.agg (u8s x), v]) w' := by
  obtain ⟨D, lf, h1, h2, h3⟩ := h
  rcases h1.next oid_law ty with ⟨e1, e2, e3⟩ | ⟨key, v, kl, y, w', cnt', e1, e2, e3, e4, e5, e6, e7, e8, e9, e10⟩
  · exact Or.inl ⟨e1, fun x hx => by rw [h3 x hx]; exact e2 _, e3⟩
  · obtain ⟨x, hx, rfl, rfl⟩ := oid_key_inv e1
    obtain rfl : (DataW.held v, []) = y := by have h := e3; rw [selfO_mk] at h; injection h
    have hv := (h2 x hx).2 v
    rw [e4] at hv
    have hf : (f x).isSome = true := by rw [← (h2 x hx).1]; exact has_true_of_atKey e4
    obtain ⟨u, hu⟩ := Option.isSome_iff_exists.1 hf
    have hu2 := (h2 x hx).2 u
    rw [e4, hu] at hu2
    have e0 := DataW.held.inj hu2
    simp only [Option.getD_some] at e0
    refine Or.inr ⟨x, v, w', cnt', hx, by rw [h3 x hx]; exact e2, by rw [hu, e0], e5, ⟨D, _, e6, h2, fun z hz => ?_⟩, e7, e8, e9, e10⟩
    show (left z && !decide (z = x)) = (lf (oidKey z) && !(oidKey z).sameKey (oidKey x))
    rw [h3 z hz]
    congr 1
    by_cases hzx : z = x
    · subst hzx
      rw [WideAt.sameKey_self (oidKey_lit hz)]
      simp
    · cases hs : (oidKey z).sameKey (oidKey x)
      · simp [hzx]
      · exact absurd (WideAt.sameKey_eq hs) (oidKey_ne hx hz hzx)
end
end Go.Proofs.YtlodalppnglclaaDoor
/- append(s, make([]byte, k)...) onto a row of the call's own. -/
namespace Go.Proofs.YtlodalppnglclaaDoor
open Go Go.RowKit
end Go.Proofs.YtlodalppnglclaaDoor
/- object.Id; zeros appended to a row of one's own; the empty row. -/
namespace Go.Proofs.YtlodalppnglclaaDoor
open Go Go.RowKit
set_option maxRecDepth 100000 in
set_option maxHeartbeats 1000000 in
theorem oid_any (xs : List Nat) (v : Value) (w : World) (hv : Rd w v xs) (hb : Sha.Byte xs) (ht : Tabs w) (hz : xs.length ≤ 549755813888) :
    Calls Tryd.prog 18 #[v] w fun e w' => e = .returned (.agg (u8s (Sha.sum xs))) ∧ Below w.heap.size w w' := by
  have hv0 := hv
  obtain ⟨A, c, rfl, _⟩ := hv0
  obtain ⟨w1, hw1⟩ : ∃ w1, w1 = w.alloc (.cells (u8s (List.replicate 32 0)) 37) := ⟨_, rfl⟩
  obtain ⟨w2, hw2⟩ : ∃ w2, w2 = w1.alloc (.cells #[.slice A xs.length c] 40) := ⟨_, rfl⟩
  have B1 : Below w.heap.size w w1 := hw1 ▸ (Below.refl _ _).alloc (Nat.le_refl _) _
  have s1 : w1.heap.size = w.heap.size + 1 := by rw [hw1]; simp
  have B2 : Below w.heap.size w w2 := by rw [hw2]; exact B1.alloc (by omega) _
  have N2 : Blk w2 w1.heap.size 40 #[.slice A xs.length c] := hw2 ▸ Blk.new w1 _ _
  have R2 : Blk w2 w.heap.size 37 (u8s (List.replicate 32 0)) := by rw [hw2, hw1]; exact (Blk.new w _ _).alloc _
  have CS := sum_any (.slice (some ⟨w1.heap.size, 0, none⟩) 1 1) [.slice A xs.length c] [xs] w2 ⟨_, _, rfl, Nat.le_refl _, fun _ => ⟨_, _, rfl, N2.lt, fun i u hi => by rw [Nat.zero_add]; exact (N2.cell i).trans (by simpa using hi)⟩⟩ rfl
    (fun i u hi => by
      rcases i with _ | i
      · obtain rfl : Value.slice A xs.length c = u := by simpa using hi
        exact hv.below B2 (Nat.le_refl _)
      · simp at hi)
    (fun ps hp => by rw [List.mem_singleton.1 hp]; exact hb) (ht.below B2 (Nat.le_refl _)) (by simp) (fun ps hp => by rw [List.mem_singleton.1 hp]; exact hz)
  rw [show ([xs] : List (List Nat)).flatten = xs by simp] at CS
  have HB2 := Lib.hid B2
  have HR2 := Lib.hid R2
  have HL := Lib.hid (show (u8s (Sha.sum xs)).size = 32 by rw [u8s_size]; exact Sha.join_len _)
  have e1 := hw1.symm
  have e2 := hw2.symm
  rw [s1] at CS
  clear B1 B2 N2 R2 hv hb ht hw1 hw2 s1
  go_enter Tryd.func18, Tryd.ntmps18
  go_wp2_with (go_at_call 33; refine pause ?_)
  unfold Paused
  change Calls _ _ _ ((w.alloc (.cells (u8s (List.replicate 32 0)) 37)).alloc (.cells #[.slice A xs.length c] 40)) _
  rw [e1, e2]
  refine CS.mono ?_
  rintro e w3 ⟨rfl, hb3⟩
  have HR3 := Lib.hid (HR2.out.below hb3 HR2.out.lt)
  have HB3 := Lib.hid (below_next HB2.out hb3)
  clear hb3 CS
  go_wp2_with (first | (refine wpList_store_row rfl 37 (.tmp 2) (.tmp 5) rfl w.heap.size _ rfl rfl 37 _ HR3.out (by rw [HL.out]; exact oid_info) (by rw [HL.out]; rfl) (u8s_one _) ?_))
  exact bodyPost_ret (v := .agg (u8s (Sha.sum xs))) (results_cell_row rfl _ _ w.heap.size 37 _ (0, 0) _ rfl (HR3.out.row _) Tryd.underlying37 rfl (by rw [HL.out]; exact oid_info)) rfl ⟨rfl, below_row HB3.out (Nat.le_refl _) _⟩
end Go.Proofs.YtlodalppnglclaaDoor
