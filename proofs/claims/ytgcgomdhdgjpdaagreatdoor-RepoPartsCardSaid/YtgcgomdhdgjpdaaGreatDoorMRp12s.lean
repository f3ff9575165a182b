/- What a repository's entries come to, said plainly. -/
import Derived.Test.YtgcgomdhdgjpdaaGreatDoorMRp1s
import Derived.Test.YtgcgomdhdgjpdaaGreatDoorMShaEnds
import Derived.Test.YtgcgomdhdgjpdaaGreatDoorMCl6s
import Derived.Test.YtgcgomdhdgjpdaaGreatDoorMNmMaths
import Derived.Test.YtgcgomdhdgjpdaaGreatDoorMRp2s
import Derived.Test.YtgcgomdhdgjpdaaGreatDoorMOb3s
import Derived.Test.YtgcgomdhdgjpdaaGreatDoorMOct11s
import Derived.Deep.MidRow
import Derived.Test.YtgcgomdhdgjpdaaGreatDoorMEn8s
namespace Go.Proofs.YtgcgomdhdgjpdaaGreatDoor
open Go Go.RowKit Go.Maps
namespace Rp
structure St where
 js : List En.E
 refs : ByteArray → Option (List Nat)
 objs : List Nat → Option (List Nat)
def empty : St := ⟨[], fun _ => none, fun _ => none⟩
def z32 : List Nat := List.replicate 32 0
theorem z32_id : Id32 z32 := ⟨by simp [z32], fun i => by unfold z32; rw [List.getD_eq_getElem?_getD, List.getElem?_replicate]; split <;> simp⟩
def lastR : List En.E → Int → Nat
 | [], _ => 0
 | e :: l, c => if e.client = c then l.length + 1 else lastR l c
def lastK (js : List En.E) (c : Int) : Nat := lastR js.reverse c
theorem lastR_le (c : Int) : ∀ l : List En.E, lastR l c ≤ l.length
 | [] => Nat.le_refl _
 | e :: l => by
  unfold lastR
  split
  ·simp
  ·have := lastR_le c l
   rw [List.length_cons]; omega
theorem lastK_le (js : List En.E) (c : Int) : lastK js c ≤ js.length := by
 have := lastR_le c js.reverse
 rw [List.length_reverse] at this
 exact this
theorem lastK_snoc (js : List En.E) (e : En.E) (c : Int) : lastK (js ++ [e]) c = if e.client = c then js.length + 1 else lastK js c := by
 unfold lastK
 rw [List.reverse_append]
 show (if e.client = c then js.reverse.length + 1 else lastR js.reverse c) = _
 rw [List.length_reverse]
def lastE (js : List En.E) (c : Int) : Option En.E := if lastK js c = 0 then none else js[lastK js c - 1]?
def lastN (js : List En.E) (c : Int) : Int := ((lastE js c).map (·.number)).getD 0
def lastA (js : List En.E) (c : Int) : Int := ((lastE js c).map (·.answer)).getD 0
theorem lastE_snoc (js : List En.E) (e : En.E) (c : Int) : lastE (js ++ [e]) c = if e.client = c then some e else lastE js c := by
 unfold lastE
 rw [lastK_snoc]
 by_cases h : e.client = c
 ·rw [if_pos h, if_neg (by omega), if_pos h]; simp
 ·rw [if_neg h, if_neg h]
  by_cases h0 : lastK js c = 0
  ·rw [if_pos h0, if_pos h0]
  ·have := lastK_le js c
   rw [if_neg h0, if_neg h0, List.getElem?_append_left (by omega)]
theorem lastN_nil (c : Int) : lastN [] c = 0 := rfl
theorem lastN_snoc (js : List En.E) (e : En.E) (c : Int) : lastN (js ++ [e]) c = if e.client = c then e.number else lastN js c := by
 unfold lastN
 rw [lastE_snoc]
 split <;> rfl
noncomputable def cnt {K V : Type} (ok : K → Prop) (f : K → Option V) : Nat := @dite _ (∃ n, Cnt ok f n) (Classical.propDecidable _) (fun h => h.choose) (fun _ => 0)
theorem cnt_eq {K V : Type} {ok : K → Prop} {f : K → Option V} {n : Nat} (h : Cnt ok f n) : cnt ok f = n := by
 unfold cnt
 rw [dif_pos ⟨n, h⟩]
 exact Cnt.uniq (Exists.choose_spec (⟨n, h⟩ : ∃ n, Cnt ok f n)) h
theorem cnt_map {K V W : Type} {ok : K → Prop} {f : K → Option V} {g : K → Option W} {n : Nat} (h : Cnt ok g n) (e : ∀ k, ok k → (g k).isSome = (f k).isSome) : Cnt ok f n := by
 obtain ⟨l, a1, a2, a3, a4⟩ := h
 exact ⟨l, a1, a2, fun k hk => by rw [← e k hk]; exact a3 k hk, a4⟩
def putRef (f : ByteArray → Option (List Nat)) (u : En.Up) : ByteArray → Option (List Nat) := fun i => if i = u.ref then (if u.new = z32 then none else some u.new) else f i
def behindR (f : ByteArray → Option (List Nat)) (us : List En.Up) : ByteArray → Option (List Nat) := us.foldl putRef f
noncomputable def putObj (g : List Nat → Option (List Nat)) (t : List Nat) : List Nat → Option (List Nat) := fun x => if x = Sha.sum t then some t else g x
noncomputable def behindO (g : List Nat → Option (List Nat)) (os : List (List Nat)) : List Nat → Option (List Nat) := os.foldl putObj g
structure Keys (ks : List (List Nat)) (g : List Nat → Option (List Nat)) : Prop where
 up : Sha.Rising ks
 id : ∀ x ∈ ks, Id32 x
 mem : ∀ x, Id32 x → (x ∈ ks ↔ (g x).isSome = true)
theorem Keys.uniq {ks ls : List (List Nat)} {g : List Nat → Option (List Nat)} (h : Keys ks g) (k : Keys ls g) : ks = ls :=
 Cl.rising_ext h.up k.up fun x => ⟨fun hx => (k.mem x (h.id x hx)).2 ((h.mem x (h.id x hx)).1 hx), fun hx => (h.mem x (k.id x hx)).2 ((k.mem x (k.id x hx)).1 hx)⟩
def texts (ks : List (List Nat)) (g : List Nat → Option (List Nat)) : List (List Nat) := ks.map fun k => (g k).getD []
def AllThere (T R : List (List Nat)) : Prop := ∀ x, Id32 x → Cl.Rch T R x → Cl.the T x = true ∧ Cl.wrg T x = false
def Roots (f : ByteArray → Option (List Nat)) (R : List (List Nat)) : Prop := ∀ y, y ∈ R ↔ ∃ i, okS i ∧ f i = some y
theorem rch_mono {l r s : List (List Nat)} {x : List Nat} (h : Cl.Rch l r x) (hs : ∀ y ∈ r, y ∈ s) : Cl.Rch l s x := by
 induction h with
 | root h => exact Cl.Rch.root (hs _ h)
 | link _ k ih => exact Cl.Rch.link ih k
def Whole (f : ByteArray → Option (List Nat)) (g : List Nat → Option (List Nat)) : Prop := ∃ ks R, Keys ks g ∧ Roots f R ∧ AllThere (texts ks g) R
theorem whole_iff {f : ByteArray → Option (List Nat)} {g : List Nat → Option (List Nat)} {ks R : List (List Nat)} (h : Keys ks g) (hr : Roots f R) : Whole f g ↔ AllThere (texts ks g) R := by
 constructor
 ·rintro ⟨ks', R', h', hr', ha⟩
  obtain rfl := h'.uniq h
  intro x hx hrx
  exact ha x hx (rch_mono hrx fun y hy => (hr' y).2 ((hr y).1 hy))
 ·exact fun ha => ⟨ks, R, h, hr, ha⟩
noncomputable def isWhole (f : ByteArray → Option (List Nat)) (g : List Nat → Option (List Nat)) : Bool := @decide (Whole f g) (Classical.propDecidable _)
theorem isWhole_iff {f : ByteArray → Option (List Nat)} {g : List Nat → Option (List Nat)} : isWhole f g = true ↔ Whole f g := @decide_eq_true_iff _ (Classical.propDecidable _)
def elsewhere (s : St) (u : En.Up) : Bool := !((s.refs u.ref).getD z32 == u.old)
noncomputable def fault (s : St) (e : En.E) : Nat :=
 if e.ups.any (elsewhere s) = true then 10
 else if 16 < cnt okS (behindR s.refs e.ups) ∨ 64 < cnt Id32 s.objs + e.objs.length then 22
 else if cnt Id32 (behindO s.objs e.objs) < cnt Id32 s.objs + e.objs.length then 20
 else if isWhole (behindR s.refs e.ups) (behindO s.objs e.objs) = true then 0 else 9
noncomputable def step (s : St) (e : En.E) : Nat :=
 if En.right e = true then (if e.number ≤ lastN s.js e.client then 18 else if e.answer = 0 then fault s e else 0) else 4
noncomputable def put (s : St) (e : En.E) : St := if e.answer = 0 then ⟨s.js ++ [e], behindR s.refs e.ups, behindO s.objs e.objs⟩ else ⟨s.js ++ [e], s.refs, s.objs⟩
noncomputable def next (s : St) (e : En.E) : St := if step s e = 0 then put s e else s
theorem put_js (s : St) (e : En.E) : (put s e).js = s.js ++ [e] := by unfold put; split <;> rfl
structure Fit (e : En.E) : Prop where
 ups : ∀ u ∈ e.ups, u.Fit
 objs : ∀ t ∈ e.objs, Sha.Byte t
structure Good (s : St) : Prop where
 refs : ∀ i x, s.refs i = some x → okS i ∧ Id32 x ∧ x ≠ z32 ∧ (s.objs x).isSome = true
 objs : ∀ x t, s.objs x = some t → x = Sha.sum t ∧ Sha.Byte t ∧ t.length ≤ 300
 js : ∀ e ∈ s.js, En.right e = true ∧ Fit e ∧ e.number ≤ lastN s.js e.client
theorem good_empty : Good empty := ⟨fun _ _ h => (by cases h), fun _ _ h => (by cases h), fun _ h => (by cases h)⟩
theorem right_ok {e : En.E} (h : En.right e = true) : 0 ≤ e.client ∧ e.client < 8 ∧ 1 ≤ e.number ∧ e.number ≤ 1099511627776 ∧ 0 ≤ e.answer ∧ e.answer ≤ 10 ∧ (if e.answer = 0 then En.upsOk e.ups && En.objsOk e.objs else decide (e.ups.length = 0) && decide (e.objs.length = 0)) = true := by
 unfold En.right En.formed at h
 simp only [Bool.and_eq_true, decide_eq_true_eq] at h
 exact ⟨h.1.1, h.1.2.1, h.1.2.2.1, h.1.2.2.2.1, h.1.2.2.2.2.1, h.1.2.2.2.2.2.1, h.1.2.2.2.2.2.2⟩
theorem right_ups {e : En.E} (h : En.right e = true) : e.ups.length ≤ 8 ∧ e.objs.length ≤ 64 := by
 have h1 := (right_ok h).2.2.2.2.2.2
 split at h1
 ·simp only [Bool.and_eq_true, En.upsOk, En.objsOk, decide_eq_true_eq] at h1
  exact ⟨h1.1.2.1, h1.2.1⟩
 ·simp only [Bool.and_eq_true, decide_eq_true_eq] at h1
  omega
theorem right_objs {e : En.E} (h : En.right e = true) : ∀ t ∈ e.objs, t.length ≤ 300 := fun t ht => by
 have h1 := (right_ok h).2.2.2.2.2.2
 split at h1
 ·simp only [Bool.and_eq_true, En.upsOk, En.objsOk, decide_eq_true_eq] at h1
  have h2 := ((En.once_iff _).1 h1.2.2).1 (En.obKey t) (List.mem_map.2 ⟨t, ht, rfl⟩)
  exact ((En.objOk_iff t).1 h2).1
 ·simp only [Bool.and_eq_true, decide_eq_true_eq] at h1
  rw [List.eq_nil_of_length_eq_zero h1.2] at ht
  cases ht
theorem right_refs {e : En.E} (h : En.right e = true) : ∀ u ∈ e.ups, Nm.ref u.ref.data.toList = true := fun u hu => by
 have h1 := (right_ok h).2.2.2.2.2.2
 split at h1
 ·simp only [Bool.and_eq_true, En.upsOk, En.objsOk, decide_eq_true_eq] at h1
  have h2 := ((En.once_iff _).1 h1.1.2.2).1 (En.upKey u) (List.mem_map.2 ⟨u, hu, rfl⟩)
  simp only [En.upKey, Bool.and_eq_true] at h2
  exact h2.1
 ·simp only [Bool.and_eq_true, decide_eq_true_eq] at h1
  rw [List.eq_nil_of_length_eq_zero h1.1] at hu
  cases hu
theorem the_in {ks : List (List Nat)} {g : List Nat → Option (List Nat)} {x : List Nat} (hk : Keys ks g) (hg : ∀ x t, g x = some t → x = Sha.sum t) (h : Cl.the (texts ks g) x = true) : (g x).isSome = true := by
 unfold Cl.the at h
 obtain ⟨t, ht, rfl⟩ := List.mem_map.1 (Cl.stk_iff.1 h)
 obtain ⟨k, hk1, rfl⟩ := List.mem_map.1 ht
 obtain ⟨t, hs⟩ := Option.isSome_iff_exists.1 ((hk.mem k (hk.id k hk1)).1 hk1)
 rw [hs, Option.getD_some, ← hg k t hs, hs]
 rfl
theorem behindR_some : ∀ (us : List En.Up) (f : ByteArray → Option (List Nat)) (i : ByteArray) (x : List Nat), behindR f us i = some x → f i = some x ∨ ∃ u ∈ us, i = u.ref ∧ x = u.new ∧ x ≠ z32
 | [], _, _, _, h => Or.inl h
 | u :: us, f, i, x, h => by
  rcases behindR_some us (putRef f u) i x h with h1 | ⟨v, hv, h2⟩
  ·unfold putRef at h1
   split at h1
   ·split at h1
    ·cases h1
    ·rename_i hi hz
     injection h1 with h1
     exact Or.inr ⟨u, List.mem_cons_self .., hi, h1.symm, fun e => hz (h1.trans e)⟩
   ·exact Or.inl h1
  ·exact Or.inr ⟨v, List.mem_cons_of_mem _ hv, h2⟩
theorem behindO_some : ∀ (os : List (List Nat)) (g : List Nat → Option (List Nat)) (x t : List Nat), behindO g os x = some t → g x = some t ∨ (t ∈ os ∧ x = Sha.sum t)
 | [], _, _, _, h => Or.inl h
 | u :: us, g, x, t, h => by
  rcases behindO_some us (putObj g u) x t h with h1 | ⟨h2, h3⟩
  ·unfold putObj at h1
   split at h1
   ·rename_i hi
    injection h1 with h1
    subst h1
    exact Or.inr ⟨List.mem_cons_self .., hi⟩
   ·exact Or.inl h1
  ·exact Or.inr ⟨List.mem_cons_of_mem _ h2, h3⟩
theorem fault_whole {s : St} {e : En.E} (h : fault s e = 0) : Whole (behindR s.refs e.ups) (behindO s.objs e.objs) := by
 unfold fault at h
 split at h
 ·cases h
 split at h
 ·cases h
 split at h
 ·cases h
 split at h
 ·rename_i h4; exact isWhole_iff.1 h4
 ·cases h
theorem step_zero {s : St} {e : En.E} (h : step s e = 0) : En.right e = true ∧ lastN s.js e.client < e.number ∧ (e.answer = 0 → fault s e = 0) := by
 unfold step at h
 split at h
 ·split at h
  ·cases h
  ·rename_i h1 h2
   refine ⟨h1, by omega, fun ha => ?_⟩
   rwa [if_pos ha] at h
 ·cases h
theorem ref_okS {l : ByteArray} (h : Nm.ref l.data.toList = true) : okS l := by
 unfold Nm.ref at h
 simp only [Bool.and_eq_true, decide_eq_true_eq, Array.length_toList] at h
 have h1 := h.1.1
 unfold okS maxLen
 show l.data.size ≤ _
 omega
theorem good_objs {s : St} {e : En.E} (hg : Good s) (hr : En.right e = true) (hf : Fit e) : ∀ x t, behindO s.objs e.objs x = some t → x = Sha.sum t ∧ Sha.Byte t ∧ t.length ≤ 300 := fun x t h => by
 rcases behindO_some _ _ _ _ h with h | ⟨h1, h2⟩
 ·exact hg.objs x t h
 ·exact ⟨h2, hf.objs t h1, right_objs hr t h1⟩
theorem good_refs {s : St} {e : En.E} (hg : Good s) (hr : En.right e = true) (hf : Fit e) : ∀ i x, behindR s.refs e.ups i = some x → okS i ∧ Id32 x ∧ x ≠ z32 := fun i x h => by
 rcases behindR_some _ _ _ _ h with h | ⟨u, hu, rfl, rfl, h3⟩
 ·have := hg.refs i x h
  exact ⟨this.1, this.2.1, this.2.2.1⟩
 ·exact ⟨ref_okS (right_refs hr u hu), (hf.ups u hu).2, h3⟩
theorem good_put {s : St} {e : En.E} (hg : Good s) (hs : step s e = 0) (hf : Fit e) : Good (put s e) := by
 obtain ⟨hr, hl, ha⟩ := step_zero hs
 have hjs : ∀ d ∈ (put s e).js, En.right d = true ∧ Fit d ∧ d.number ≤ lastN (put s e).js d.client := fun d hd => by
  rw [put_js] at hd ⊢
  rw [lastN_snoc]
  rcases List.mem_append.1 hd with hd | hd
  ·obtain ⟨h1, h2, h3⟩ := hg.js d hd
   refine ⟨h1, h2, ?_⟩
   split
   ·rename_i hc
    rw [hc] at hl
    omega
   ·exact h3
  ·rw [List.mem_singleton.1 hd, if_pos rfl]
   exact ⟨hr, hf, Int.le_refl _⟩
 by_cases h0 : e.answer = 0
 ·have hw := fault_whole (ha h0)
  have e1 : (put s e).refs = behindR s.refs e.ups := by unfold put; rw [if_pos h0]
  have e2 : (put s e).objs = behindO s.objs e.objs := by unfold put; rw [if_pos h0]
  refine ⟨?_, by rw [e2]; exact good_objs hg hr hf, hjs⟩
  rw [e1, e2]
  intro i x hx
  have h1 := good_refs hg hr hf i x hx
  obtain ⟨ks, R, hk, hR, hall⟩ := hw
  have h2 := (hall x h1.2.1 (Cl.Rch.root ((hR x).2 ⟨i, h1.1, hx⟩))).1
  exact ⟨h1.1, h1.2.1, h1.2.2, the_in hk (fun x t h => (good_objs hg hr hf x t h).1) h2⟩
 ·have e1 : (put s e).refs = s.refs := by unfold put; rw [if_neg h0]
  have e2 : (put s e).objs = s.objs := by unfold put; rw [if_neg h0]
  exact ⟨by rw [e1, e2]; exact hg.refs, by rw [e2]; exact hg.objs, hjs⟩
inductive Runs : St → List En.E → St → Prop where
 | done (s : St) : Runs s [] s
 | more {s t : St} {e : En.E} {l : List En.E} (h : step s e = 0) (k : Runs (put s e) l t) : Runs s (e :: l) t
theorem Runs.snoc {s t : St} {l : List En.E} {e : En.E} (h : Runs s l t) (k : step t e = 0) : Runs s (l ++ [e]) (put t e) := by
 induction h with
 | done s => exact Runs.more k (Runs.done _)
 | more h _ ih => exact Runs.more h (ih k)
theorem Runs.split {s t : St} {b : List En.E} : ∀ {a : List En.E}, Runs s (a ++ b) t → ∃ u, Runs s a u ∧ Runs u b t := by
 intro a
 induction a generalizing s with
 | nil => exact fun h => ⟨s, Runs.done s, h⟩
 | cons x a ih =>
  intro h
  cases h with
  | more h1 h2 =>
   obtain ⟨u, h3, h4⟩ := ih h2
   exact ⟨u, Runs.more h1 h3, h4⟩
theorem Runs.js {s t : St} {l : List En.E} (h : Runs s l t) : t.js = s.js ++ l := by
 induction h with
 | done s => simp
 | more _ _ ih => rw [ih, put_js, List.append_assoc]; rfl
theorem Runs.uniq {s t u : St} {l : List En.E} (h : Runs s l t) (k : Runs s l u) : t = u := by
 induction h with
 | done s => cases k; rfl
 | more _ _ ih =>
  cases k with
  | more _ k2 => exact ih k2
end Rp
end Go.Proofs.YtgcgomdhdgjpdaaGreatDoor
/- The law's example: a ref to a fresh blob, said plainly. -/
namespace Go.Proofs.YtgcgomdhdgjpdaaGreatDoor
open Go Go.RowKit Go.Maps
namespace Rp
def blX : List Nat := [98, 120]
theorem bl_sum : Sha.sum blX ≠ z32 := by decide +kernel
theorem bl_right : Ob.right ⟨1, [120], [], zid, []⟩ = true := by
 unfold Ob.right Ob.strange entsOk Ob.front
 simp [aimsB, okTo]
 exact eqv_true rfl
theorem bl_parse : Ob.parse blX = .ok ⟨1, [120], [], zid, []⟩ := by
 unfold blX
 rw [Ob.parse, if_pos rfl]
 exact fin_of bl_right
theorem bl_ob : Cl.ob blX = some ⟨1, [120], [], zid, []⟩ := by
 unfold Cl.ob
 rw [bl_parse, if_neg (by decide)]
theorem bl_stk (x : List Nat) : Cl.stk [blX] x = if x = Sha.sum blX then some blX else none := by
 unfold Cl.stk
 simp only [List.foldl_cons, List.foldl_nil, Option.isSome_none, Bool.false_eq_true, if_false]
theorem bl_the (x : List Nat) : Cl.the [blX] x = decide (x = Sha.sum blX) := by
 unfold Cl.the
 rw [bl_stk]
 by_cases h : x = Sha.sum blX
 ·rw [if_pos h]; simp [h]
 ·rw [if_neg h]; simp [h]
theorem bl_obAt (x : List Nat) : Cl.obAt [blX] x = if x = Sha.sum blX then some ⟨1, [120], [], zid, []⟩ else none := by
 unfold Cl.obAt
 rw [bl_stk]
 by_cases h : x = Sha.sum blX
 ·rw [if_pos h, if_pos h]; exact bl_ob
 ·rw [if_neg h, if_neg h]; rfl
theorem bl_lks (x : List Nat) : Cl.lks [blX] x = [] := by
 unfold Cl.lks
 rw [bl_obAt]
 split <;> rename_i h
 ·rfl
 ·split at h
  ·injection h with h; rw [← h]; rfl
  ·cases h
theorem bl_wrg (x : List Nat) : Cl.wrg [blX] x = false := by
 unfold Cl.wrg Cl.knd
 rw [bl_obAt]
 by_cases h : x = Sha.sum blX
 ·rw [if_pos h]; rfl
 ·rw [if_neg h]; rfl
theorem bl_rch {x : List Nat} (h : Cl.Rch [blX] [Sha.sum blX] x) : x = Sha.sum blX := by
 induction h with
 | root h => exact List.mem_singleton.1 h
 | link _ hk _ => rw [bl_lks] at hk; cases hk
def refA : ByteArray := ⟨#[114, 101, 102, 115, 47, 97]⟩
noncomputable def blU : En.Up := ⟨refA, z32, Sha.sum blX⟩
noncomputable def blE : En.E := ⟨0, 1, 0, [blU], [blX]⟩
theorem bl_id : Id32 (Sha.sum blX) := cl_sum_id blX
theorem bl_ref : Nm.ref refA.data.toList = true := by decide +kernel
theorem bl_rightE : En.right blE = true := by
 have h1 : En.upsOk [blU] = true := by
  unfold En.upsOk
  simp only [List.length_cons, List.length_nil, Bool.and_eq_true, decide_eq_true_eq]
  refine ⟨by omega, by omega, (En.once_iff _).2 ⟨fun p hp => ?_, by simp⟩⟩
  rw [List.map_cons, List.map_nil, List.mem_singleton] at hp
  subst hp
  unfold En.upKey
  show (Nm.ref refA.data.toList && !(eqv z32 (Sha.sum blX))) = true
  rw [bl_ref, eqv_false (fun e => bl_sum e.symm)]
  rfl
 have h2 : En.objsOk [blX] = true := by
  unfold En.objsOk
  simp only [List.length_cons, List.length_nil, Bool.and_eq_true, decide_eq_true_eq]
  refine ⟨by omega, (En.once_iff _).2 ⟨fun p hp => ?_, by simp⟩⟩
  rw [List.map_cons, List.map_nil, List.mem_singleton] at hp
  subst hp
  unfold En.obKey
  exact (En.objOk_iff _).2 ⟨by decide, _, bl_parse⟩
 have h3 : En.formed blE = true := by
  unfold En.formed blE
  simp [h1, h2]
 have h4 : (En.laid blE).length ≤ 2800 := by
  unfold En.laid blE En.laidUps En.laidObjs blU
  simp [Oc.nums_len, strB, refA, blX, z32]
  have hl : (Sha.sum [98, 120]).length = 32 := bl_id.1
  omega
 unfold En.right
 rw [h3, decide_eq_true h4]
 rfl
theorem bl_cR : cnt okS (behindR empty.refs blE.ups) = 1 := cnt_eq ⟨[refA], by simp, fun i hi => by
 rw [List.mem_singleton.1 hi]
 exact ref_okS bl_ref, fun i _ => by
 show i ∈ [refA] ↔ ((if i = refA then (if Sha.sum blX = z32 then none else some (Sha.sum blX)) else none).isSome = true)
 by_cases h : i = refA
 ·rw [if_pos h, if_neg bl_sum]; simp [h]
 ·rw [if_neg h]; simp [h], rfl⟩
theorem bl_o (x : List Nat) : behindO empty.objs blE.objs x = if x = Sha.sum blX then some blX else none := rfl
theorem bl_cO : cnt Id32 (behindO empty.objs blE.objs) = 1 := cnt_eq ⟨[Sha.sum blX], by simp, fun i hi => by
 rw [List.mem_singleton.1 hi]
 exact bl_id, fun i _ => by
 rw [bl_o]
 by_cases h : i = Sha.sum blX
 ·rw [if_pos h]; simp [h]
 ·rw [if_neg h]; simp [h], rfl⟩
theorem bl_c0 : cnt Id32 empty.objs = 0 := cnt_eq (Cnt.nil _ fun _ _ => rfl)
theorem bl_whole : Whole (behindR empty.refs blE.ups) (behindO empty.objs blE.objs) := by
 refine ⟨[Sha.sum blX], [Sha.sum blX], ⟨?_, fun x hx => ?_, fun x hx => ?_⟩, fun y => ?_, fun x hx hr => ?_⟩
 ·exact Cl.rising_pw.2 (by simp)
 ·rw [List.mem_singleton.1 hx]; exact bl_id
 ·rw [bl_o]
  by_cases h : x = Sha.sum blX
  ·rw [if_pos h]; simp [h]
  ·rw [if_neg h]; simp [h]
 ·show y ∈ [Sha.sum blX] ↔ ∃ i, okS i ∧ (if i = refA then (if Sha.sum blX = z32 then none else some (Sha.sum blX)) else none) = some y
  rw [if_neg bl_sum, List.mem_singleton]
  constructor
  ·rintro rfl
   exact ⟨refA, ref_okS bl_ref, by rw [if_pos rfl]⟩
  ·rintro ⟨i, _, h⟩
   split at h
   ·injection h with h; exact h.symm
   ·cases h
 ·have e1 : texts [Sha.sum blX] (behindO empty.objs blE.objs) = [blX] := by
   unfold texts
   rw [List.map_cons, List.map_nil, bl_o, if_pos rfl]
   rfl
  rw [e1] at hr ⊢
  have := bl_rch hr
  exact ⟨by rw [bl_the, this]; simp, bl_wrg x⟩
theorem bl_step : step empty blE = 0 := by
 unfold step
 rw [if_pos bl_rightE, if_neg (by show ¬ (1 : Int) ≤ lastN [] 0; rw [lastN_nil]; omega), if_pos (show blE.answer = 0 from rfl)]
 unfold fault
 rw [if_neg (by
  show ¬ ([blU].any (elsewhere empty) = true)
  have : elsewhere empty blU = false := by
   unfold elsewhere
   show (!(z32 == z32)) = false
   simp
  simp [this]), bl_cR, bl_c0, bl_cO, if_neg (by
  show ¬ (16 < 1 ∨ 64 < 0 + 1)
  omega), if_neg (by
  show ¬ (1 < 0 + 1)
  omega), if_pos (isWhole_iff.2 bl_whole)]
end Rp
end Go.Proofs.YtgcgomdhdgjpdaaGreatDoor
/- What Ref answers; whether a ref is elsewhere than an update says. -/
namespace Go.Proofs.YtgcgomdhdgjpdaaGreatDoor
open Go Go.RowKit Go.Maps
theorem wpList_loadAt {P : Program} {ops : Array Oper} {rest : List Oper} {o : Oper} {a : Act} {w : World} {Q : Exit → Act → World → Prop} (hg : o.guard = none) (ty : TypeId) (x : Operand) (ho : o.op = .load ty x) (p : Value) (hx : a.eval x = p) (v : Value)
  (hl : (Instr.loadAt ty p).run P w = .ok v w) (h : wpList P ops Q rest (a.put o.dst v) w) : wpList P ops Q (o :: rest) a w :=
 wpList_plain hg fun K hK => by
  unfold Oper.wp execOp
  simp only [ho, hx, Sem.run_bind, hl, Result.andThen_ok]
  exact hK _ _ h
theorem getD_id {f : ByteArray → Option Value} (hf : ∀ i v, f i = some v → ∃ y, Id32 y ∧ v = .agg (u8s y)) (i : ByteArray) : ∃ y, Id32 y ∧ (f i).getD (.agg (u8s (List.replicate 32 0))) = .agg (u8s y) := by
 cases h : f i with
 | none => exact ⟨List.replicate 32 0, ⟨by simp, fun i => by rw [List.getD_eq_getElem?_getD, List.getElem?_replicate]; split <;> simp⟩, rfl⟩
 | some v =>
  obtain ⟨y, hy, rfl⟩ := hf i v h
  exact ⟨y, hy, rfl⟩
set_option maxRecDepth 100000 in
set_option maxHeartbeats 2000000 in
theorem ref_ofAny (r : Nat) (j rf ob : Value) (ls : List Nat) (n : Nat) (f : ByteArray → Option Value) (i : ByteArray) (w : World) (h : RpM w r j ls rf ob) (hs : SrcS w rf n f) (hi : okS i) (hf : ∀ i v, f i = some v → ∃ y, Id32 y ∧ v = .agg (u8s y)) :
  Calls Tryz.prog 31 #[.pointer (some ⟨r, 0, none⟩), .string i] w fun e w' => e = .returned ((f i).getD (.agg (u8s (List.replicate 32 0)))) ∧ Below w.heap.size w w' := by
 obtain ⟨y, hy, ey⟩ := getD_id hf i
 obtain ⟨w1, hw1⟩ : ∃ w1, w1 = w.alloc (.cells (u8s (List.replicate 32 0)) 41) := ⟨_, rfl⟩
 have b1 : Below w.heap.size w w1 := by rw [hw1]; exact (Below.refl _ w).alloc (Nat.le_refl _) _
 have HB : Hid (Blk w1 w.heap.size 41 (u8s (List.replicate 32 0))) := Lib.hid (by rw [hw1]; exact Blk.new w _ _)
 have c9 := (h.below b1 h.lt).refs
 have qL : (Instr.lookup 62 rf (.string i) false).run Tryz.prog w1 = .ok (.agg (u8s y)) w1 := by
  have h1 := (hs.below b1).look Tryz.underlying62 (oid_zero _) hi
  rwa [ey] at h1
 have B1 := Lib.hid b1
 have HY := Lib.hid hy
 rw [ey]
 clear h hs hi hf b1 ey hy
 go_enter Tryz.func31, Tryz.ntmps31
 go_wp2_with (with_reducible (show wpList _ _ _ (Oper.mk _ (Op.load 62 _) _ _ _ _ :: _) _ _); refine pause ?_)
 unfold Paused
 change wpList _ _ _ _ _ (w.alloc (.cells (u8s (List.replicate 32 0)) 41))
 rw [← hw1]
 clear hw1
 go_wp2_with (with_reducible (show wpList _ _ _ (Oper.mk _ (Op.store 41 _ _) _ _ _ _ :: _) _ _); refine pause ?_)
 unfold Paused
 refine wpList_store_row (by rfl) 41 (.tmp 4) (.tmp 11) (by rfl) w.heap.size (u8s y) (by rfl) (by rfl) 41 (u8s (List.replicate 32 0)) HB.out (by rw [u8s_size, HY.out.1]; exact cl_oid_load) (by rw [u8s_size, u8s_size, HY.out.1]; rfl) (u8s_one _) ?_
 go_wp2
 refine bodyPost_ret (v := .agg (u8s y)) (results_cell_row rfl _ _ w.heap.size 41 _ (0, 0) _ rfl (HB.out.row _) Tryz.underlying41 rfl (by rw [u8s_size, HY.out.1]; exact cl_oid_load)) rfl ⟨rfl, below_row B1.out (Nat.le_refl _) _⟩
set_option maxRecDepth 100000 in
set_option maxHeartbeats 2000000 in
theorem else_any (sb : Nat) (rf ob : Value) (n : Nat) (f : ByteArray → Option Value) (u : En.Up) (y : List Nat) (w : World) (hb : Blk w sb 65 #[rf, ob]) (hs : SrcS w rf n f) (hu : u.Fit) (hr : okS u.ref) (hy : Id32 y) (ey : (f u.ref).getD (.agg (u8s (List.replicate 32 0))) = .agg (u8s y)) :
  Calls Tryz.prog 42 #[.agg (cellsU1 u).toArray, .pointer (some ⟨sb, 0, none⟩)] w fun e w' => e = .returned (.bool (!(y == u.old))) ∧ Below w.heap.size w w' := by
 obtain ⟨w1, hw1⟩ : ∃ w1, w1 = w.alloc (.cells (cellsU1 u).toArray 89) := ⟨_, rfl⟩
 have b1 : Below w.heap.size w w1 := by rw [hw1]; exact (Below.refl _ w).alloc (Nat.le_refl _) _
 have hB : Blk w1 w.heap.size 89 (cellsU1 u).toArray := by rw [hw1]; exact Blk.new w _ _
 have c0 : w1.cell? ⟨sb, 0, none⟩ = some rf := by rw [(hb.below b1 hb.lt).cell]; rfl
 have cR : w1.cell? ⟨w.heap.size, 0, none⟩ = some (.string u.ref) := by rw [hB.cell]; rfl
 have hO : w1.rangeAt w.heap.size 1 (cellsB u.old) := fun k v hk => by
  rw [hB.cell, List.getElem?_toArray, Nat.add_comm]
  unfold cellsU1
  rw [List.getElem?_cons_succ, List.getElem?_append_left (by exact (List.getElem?_eq_some_iff.1 hk).1)]
  exact hk
 have qL : (Instr.lookup 62 rf (.string u.ref) false).run Tryz.prog w1 = .ok (.agg (u8s y)) w1 := by
  have h1 := (hs.below b1).look Tryz.underlying62 (oid_zero _) hr
  rwa [ey] at h1
 have l1 : (Instr.loadAt 41 (.pointer (some ⟨w.heap.size, 1, none⟩))).run Tryz.prog w1 = .ok (.agg (u8s u.old)) w1 := run_loadAt_mid w1 w.heap.size 1 41 (cellsB u.old) _ hO Tryz.underlying41 rfl (by rw [cellsP1_len hu.1]; kernel_rfl)
 have qN : (Op.equalIn 10000 41 (.agg (u8s y)) (.agg (u8s u.old))).run Tryz.prog w1 = .ok (y == u.old) w1 := run_equalIn_u8s w1 _ _ 32 Tryz.underlying41 Tryz.underlying5 (fun w => by kernel_rfl) y u.old hy.1 hu.1.1 hy.2 hu.1.2
 have B1 := Lib.hid b1
 clear hb hs hu hr hy ey b1 hB hO
 generalize (y == u.old) = β at qN ⊢
 go_enter Tryz.func42, Tryz.ntmps42
 go_wp2_with (with_reducible (show wpList _ _ _ (Oper.mk _ (Op.load 62 _) _ _ _ _ :: _) _ _); refine pause ?_)
 unfold Paused
 rw [← hw1]
 clear hw1
 go_wp2_with (with_reducible (show wpList _ _ _ (Oper.mk _ (Op.load 41 _) _ _ _ _ :: _) _ _); refine pause ?_)
 unfold Paused
 refine wpList_loadAt (by rfl) 41 (.tmp 9) (by rfl) _ (by rfl) _ l1 ?_
 go_wp2
 go_ret
 exact ⟨rfl, B1.out⟩
theorem any_take {p : En.Up → Bool} {us : List En.Up} {k : Nat} (hk : k < us.length) (h : (us.take k).any p = false) (hp : p us[k] = false) : (us.take (k + 1)).any p = false := by
 rw [List.take_succ_eq_append_getElem hk, List.any_append, h]
 simp [hp]
set_option maxRecDepth 100000 in
set_option maxHeartbeats 4000000 in
theorem indexU_any (K : Nat) (cap : Array Value) (p : En.Up → Bool) (us : List En.Up) (A : Option Addr) (n c : Nat) (w : World) (hx : RdK w (.slice A n c) n (cellsU us)) (hl : n = us.length) (hf : ∀ u ∈ us, u.Fit) (hn : n ≤ 1000)
  (hK : ∀ args w, (callFunc K args).run Tryz.prog w = .ok (.enter K args) w)
  (hP : ∀ u ∈ us, ∀ w', Below w.heap.size w w' → Calls Tryz.prog K (#[.agg (cellsU1 u).toArray] ++ cap) w' fun e w'' => e = .returned (.bool (p u)) ∧ Below w'.heap.size w' w'') :
  Calls Tryz.prog 60 #[.slice A n c, .func (.func K) #[] cap] w fun e w' => ∃ r : Int, e = .returned (.int .i64 r) ∧ (us.any p = true → 0 ≤ r) ∧ (us.any p = false → r = -1) ∧ Below w.heap.size w w' := by
 have HX := Lib.hid hx
 have HFT := Lib.hid hf
 have HP := Lib.hid hP
 have HL := Lib.hid hl
 have HN := Lib.hid hn
 obtain ⟨β, hβ⟩ : ∃ β, β = us.any p := ⟨_, rfl⟩
 rw [← hβ]
 have HBT := Lib.hid hβ
 clear hx hl hf hn hP hβ
 go_enter Tryz.func60, Tryz.ntmps60
 go_wp2
 go_loopw [8] (fun i wr => ∃ k : Nat, k ≤ n ∧ i = .int .i64 k ∧ Hid ((us.take k).any p = false ∧ Below w.heap.size w wr)) (fun i _ => n - (intOf i).toNat)
 case atStart => exact ⟨0, Nat.zero_le _, rfl, Lib.hid ⟨rfl, Below.refl _ _⟩⟩
 case round =>
  obtain ⟨k, hk, rfl, HW⟩ := hrel
  by_cases hlt : k < n
  ·have hkl : k < us.length := by rw [← HL.out]; exact hlt
   have i1 : ((k : Nat) : Int) < n := by omega
   have i2 : (0 : Int) ≤ ((k : Nat) : Int) := by omega
   have i3 : ((k : Nat) : Int) < 1000 := by have := HN.out; omega
   have hxx := HX.out
   rw [HL.out] at hxx
   obtain ⟨b, o, rfl, hbl, hrg⟩ := hxx.up rfl HFT.out hkl
   have hmem := List.getElem_mem hkl
   have hyes : p us[k] = true → β = true := fun h => HBT.out.trans (List.any_eq_true.2 ⟨us[k], List.getElem_mem hkl, h⟩)
   have hno : p us[k] = false → (us.take (k + 1)).any p = false := any_take hkl HW.out.1
   generalize us[k] = u at hrg hmem hyes hno
   have HFU := Lib.hid (HFT.out _ hmem)
   have HRG : Hid (wr.rangeAt b (o + k * 65) (cellsU1 u)) := Lib.hid (fun j v hj => (HW.out.2.cell (p := ⟨b, o + k * 65 + j, none⟩) hbl).trans (hrg j v hj))
   have CP := HP.out _ hmem wr HW.out.2
   have HYES := Lib.hid hyes
   have HNO := Lib.hid hno
   have HLT : Hid (k + 1 ≤ n) := Lib.hid hlt
   clear hkl hxx hbl hrg hk hlt hmem hyes hno
   go_wp2_with (with_reducible (show wpList _ _ _ (Oper.mk _ (Op.load 89 _) _ _ _ _ :: _) _ _); refine pause ?_)
   unfold Paused
   refine wpList_mid_w (by rfl) 89 (.tmp 14) (by rfl) b (o + k * 65) (by rfl) (cellsU1 u) _ HRG.out Tryz.underlying89 (by rfl) (upd_load HFU.out) ?_
   clear HRG
   go_wp2_with (with_reducible (refine CP.mono ?_); refine pause ?_)
   unfold Paused
   rintro e w7 ⟨rfl, hb7⟩
   have HB7 := Lib.hid (below_next HW.out.2 hb7)
   clear hb7 CP
   cases hpk : p u with
   | true =>
    have HY := Lib.hid (HYES.out hpk)
    clear hpk
    go_wp2
    go_ret
    exact ⟨_, rfl, fun _ => i2, fun h => by (rw [HY.out] at h; cases h), HB7.out⟩
   | false =>
    have HO := Lib.hid (HNO.out hpk)
    clear hpk
    go_wp2
    go_roundw
    case rel => exact ⟨k + 1, HLT.out, by go_num, Lib.hid ⟨HO.out, HB7.out⟩⟩
    case measure => have h5 := HLT.out; simp [intOf]; omega
  ·obtain rfl : k = n := by omega
   have i1 : ¬ ((k : Nat) : Int) < k := by omega
   have HA : Hid (β = false) := Lib.hid (by have h1 := HW.out.1; rw [List.take_of_length_le (Nat.le_of_eq HL.out.symm)] at h1; exact HBT.out.trans h1)
   clear hk hlt
   go_wp2
   go_ret
   exact ⟨_, rfl, fun h => by (rw [HA.out] at h; cases h), fun _ => rfl, HW.out.2⟩
set_option maxRecDepth 100000 in
set_option maxHeartbeats 4000000 in
theorem containsU_any (K : Nat) (cap : Array Value) (p : En.Up → Bool) (us : List En.Up) (A : Option Addr) (n c : Nat) (w : World) (hx : RdK w (.slice A n c) n (cellsU us)) (hl : n = us.length) (hf : ∀ u ∈ us, u.Fit) (hn : n ≤ 1000)
  (hK : ∀ args w, (callFunc K args).run Tryz.prog w = .ok (.enter K args) w)
  (hP : ∀ u ∈ us, ∀ w', Below w.heap.size w w' → Calls Tryz.prog K (#[.agg (cellsU1 u).toArray] ++ cap) w' fun e w'' => e = .returned (.bool (p u)) ∧ Below w'.heap.size w' w'') :
  Calls Tryz.prog 43 #[.slice A n c, .func (.func K) #[] cap] w fun e w' => e = .returned (.bool (us.any p)) ∧ Below w.heap.size w w' := by
 have CI := indexU_any K cap p us A n c w hx hl hf hn hK hP
 obtain ⟨β, hβ⟩ : ∃ β, β = us.any p := ⟨_, rfl⟩
 rw [← hβ] at CI ⊢
 clear hx hl hf hn hK hP hβ
 go_enter Tryz.func43, Tryz.ntmps43
 go_wp2_with (go_at_call 60; refine pause ?_)
 unfold Paused
 refine CI.mono ?_
 rintro e w' ⟨r, rfl, h1, h2, hb⟩
 have HB := Lib.hid hb
 clear hb CI
 cases β with
 | true =>
  have g1 := h1 rfl
  clear h1 h2
  go_wp2
  go_ret
  exact ⟨by simp, HB.out⟩
 | false =>
  obtain rfl := h2 rfl
  clear h1 h2
  go_wp2
  go_ret
  exact ⟨rfl, HB.out⟩
end Go.Proofs.YtgcgomdhdgjpdaaGreatDoor
