/- What a pack is, said plainly: its items, one behind the other; what it is as bytes, and back. -/
import Derived.Test.YtcnedkgadfegbaaDoorMOb26s
import Derived.Test.YtcnedkgadfegbaaDoorMDl15
import Derived.Test.YtcnedkgadfegbaaDoorMShaSums
import Derived.Test.YtcnedkgadfegbaaDoorMOb1s
import Derived.Maps.OwnSet
import Derived.DeepKeys4
namespace Go.Proofs.YtcnedkgadfegbaaDoor
open Go Go.RowKit
namespace Pk
/-- an item: its text, and how deep it is -/
abbrev Item := List Nat × Nat
inductive R (α : Type) where
  | bad (e : Nat)
  | ok (a : α)
/-- the last one with an id -/
noncomputable def find (l : List Item) (id : List Nat) : Option Item := l.foldl (fun o p => if id = Sha.sum p.1 then some p else o) none
theorem find_snoc (l : List Item) (p : Item) (id : List Nat) : find (l ++ [p]) id = if id = Sha.sum p.1 then some p else find l id := by
  unfold find; rw [List.foldl_append]; rfl
theorem find_nil (id : List Nat) : find [] id = none := rfl
/-- a text is a right object, and none of the ids ahead is its: 0; else the error -/
noncomputable def adm (out : List Item) (t : List Nat) : Nat :=
  if 300 < t.length then 13 else match Ob.parse t with
    | .bad e => e
    | .ok _ => if (find out (Sha.sum t)).isSome then 20 else 0
/-- a text of bytes: itself, and what is left -/
def text (ys : List Nat) : Option (List Nat × List Nat) :=
  if ys.length < 2 then none else if ys.length < 2 + Oc.val (ys.take 2) then none else some ((ys.drop 2).take (Oc.val (ys.take 2)), ys.drop (2 + Oc.val (ys.take 2)))
/-- what an item's base is -/
noncomputable def base (out kn : List Item) (id : List Nat) : Option Item := match find out id with | some p => some p | none => find kn id
/-- an item told: its text, its depth, what is left -/
noncomputable def told (out kn : List Item) : List Nat → R (Item × List Nat)
  | [] => .bad 2
  | k :: ys =>
    if k = 0 then (match text ys with | none => .bad 2 | some q => .ok ((q.1, 0), q.2))
    else if k = 1 then
      (if ys.length < 32 then .bad 2 else match text (ys.drop 32) with
        | none => .bad 2
        | some q => match base out kn (ys.take 32) with
          | none => .bad 9
          | some p => if 5 ≤ p.2 then .bad 8 else match Dl.applyP p.1 q.1 with
            | .err c => .bad (c + 1)
            | .ok t => .ok ((t, p.2 + 1), q.2))
    else .bad 7
theorem told_cons (out kn : List Item) (k : Nat) (ys : List Nat) : told out kn (k :: ys) =
    if k = 0 then (match text ys with | none => .bad 2 | some q => .ok ((q.1, 0), q.2))
    else if k = 1 then
      (if ys.length < 32 then .bad 2 else match text (ys.drop 32) with
        | none => .bad 2
        | some q => match base out kn (ys.take 32) with
          | none => .bad 9
          | some p => if 5 ≤ p.2 then .bad 8 else match Dl.applyP p.1 q.1 with
            | .err c => .bad (c + 1)
            | .ok t => .ok ((t, p.2 + 1), q.2))
    else .bad 7 := rfl
/-- an item told and admitted -/
noncomputable def step (out kn : List Item) (xs : List Nat) : R (Item × List Nat) := match told out kn xs with
  | .bad e => .bad e
  | .ok q => if adm out q.1.1 = 0 then .ok q else .bad (adm out q.1.1)
noncomputable def go (kn : List Item) : Nat → List Item → List Nat → R (List Item)
  | 0, out, xs => if xs.length = 0 then .ok out else .bad 3
  | n + 1, out, xs => match step out kn xs with
    | .bad e => .bad e
    | .ok q => go kn n (out ++ [q.1]) q.2
noncomputable def decode (kn : List Item) (b : List Nat) : R (List Item) := if 2000 < b.length then .bad 13 else match b with
  | [] => .bad 2
  | n :: r => if 64 < n then .bad 22 else go kn n [] r
/-! what is known besides changes nothing -/
theorem base_more {out : List Item} {kn : List Item} {id : List Nat} {p : Item} (h : base out [] id = some p) : base out kn id = some p := by
  unfold base at h ⊢
  cases hq : find out id with
  | some q => rw [hq] at h; exact h
  | none => rw [hq] at h; rw [find_nil] at h; cases h
theorem told_more {out kn : List Item} {xs : List Nat} {q : Item × List Nat} (h : told out [] xs = .ok q) : told out kn xs = .ok q := by
  obtain _ | ⟨k, ys⟩ := xs
  · cases h
  · rw [told_cons] at h ⊢
    by_cases h0 : k = 0
    · rw [if_pos h0] at h ⊢; exact h
    · rw [if_neg h0] at h ⊢
      by_cases h1 : k = 1
      · rw [if_pos h1] at h ⊢
        by_cases h2 : ys.length < 32
        · rw [if_pos h2] at h; cases h
        · rw [if_neg h2] at h ⊢
          cases ht : text (ys.drop 32) with
          | none => rw [ht] at h; cases h
          | some r =>
            rw [ht] at h
            simp only at h ⊢
            cases hb : base out [] (ys.take 32) with
            | none => rw [hb] at h; cases h
            | some p =>
              rw [hb] at h
              rw [base_more hb]
              exact h
      · rw [if_neg h1] at h; cases h
theorem step_more {out kn : List Item} {xs : List Nat} {q : Item × List Nat} (h : step out [] xs = .ok q) : step out kn xs = .ok q := by
  unfold step at h ⊢
  cases ht : told out [] xs with
  | bad e => rw [ht] at h; cases h
  | ok r =>
    rw [ht] at h
    rw [told_more ht]
    exact h
theorem go_more (kn : List Item) : ∀ (n : Nat) (out : List Item) (xs : List Nat) (l : List Item), go [] n out xs = .ok l → go kn n out xs = .ok l
  | 0, _, _, _, h => h
  | n + 1, out, xs, l, h => by
    unfold go at h ⊢
    cases hs : step out [] xs with
    | bad e => rw [hs] at h; cases h
    | ok q =>
      rw [hs] at h
      rw [step_more hs]
      exact go_more kn n _ _ l h
theorem decode_more (kn : List Item) {b : List Nat} {l : List Item} (h : decode [] b = .ok l) : decode kn b = .ok l := by
  unfold decode at h ⊢
  by_cases h1 : 2000 < b.length
  · rw [if_pos h1] at h; cases h
  · rw [if_neg h1] at h ⊢
    obtain _ | ⟨n, r⟩ := b
    · cases h
    · simp only at h ⊢
      by_cases h2 : 64 < n
      · rw [if_pos h2] at h; cases h
      · rw [if_neg h2] at h ⊢
        exact go_more kn n _ _ l h
/-! what is there: right objects, each once, none too deep -/
def Good (l : List Item) : Prop := ∀ p ∈ l, p.1.length ≤ 300 ∧ (∃ o, Ob.parse p.1 = .ok o) ∧ p.2 ≤ 5
theorem parse_bad_pos {t : List Nat} {e : Nat} (h : Ob.parse t = .bad e) : 0 < e := by
  have hf : ∀ o, Prs.fin o = .bad e → 0 < e := fun o h => by
    unfold Prs.fin at h
    split at h
    · cases h
    · cases h; omega
  unfold Ob.parse at h
  split at h
  · cases h; omega
  · repeat' split at h
    all_goals first | exact hf _ h | (cases h; omega)
theorem admit_zero {out : List Item} {t : List Nat} (h : adm out t = 0) : t.length ≤ 300 ∧ (∃ o, Ob.parse t = .ok o) ∧ find out (Sha.sum t) = none := by
  unfold adm at h
  split at h
  · cases h
  · rename_i hl
    split at h
    · rename_i e he
      have := parse_bad_pos he; omega
    · rename_i o ho
      split at h
      · cases h
      · rename_i hf
        exact ⟨by omega, ⟨o, ho⟩, by simpa using hf⟩
theorem step_ok {out kn : List Item} {xs : List Nat} {q : Item × List Nat} (h : step out kn xs = .ok q) : told out kn xs = .ok q ∧ adm out q.1.1 = 0 := by
  unfold step at h
  split at h
  · cases h
  · rename_i r hr
    split at h
    · rename_i ha
      cases h
      exact ⟨hr, ha⟩
    · cases h
theorem text_len {ys : List Nat} {q : List Nat × List Nat} (h : text ys = some q) : q.2.length < ys.length ∧ q.1.length + 2 ≤ ys.length := by
  unfold text at h
  split at h
  · cases h
  · split at h
    · cases h
    · cases h
      simp only [List.length_drop, List.length_take]
      omega
theorem told_len {out kn : List Item} {xs : List Nat} {q : Item × List Nat} (h : told out kn xs = .ok q) : q.2.length < xs.length ∧ (q.1.2 ≤ 5) := by
  obtain _ | ⟨k, ys⟩ := xs
  · cases h
  · rw [told_cons] at h
    split at h
    · split at h
      · cases h
      · rename_i r hr
        cases h
        exact ⟨by have := (text_len hr).1; rw [List.length_cons]; simp only; omega, by simp⟩
    · split at h
      · split at h
        · cases h
        · split at h
          · cases h
          · rename_i r hr
            split at h
            · cases h
            · split at h
              · cases h
              · split at h
                · cases h
                · cases h
                  have := (text_len hr).1
                  rw [List.length_drop] at this
                  exact ⟨by rw [List.length_cons]; simp only; omega, by simp only; omega⟩
      · cases h
theorem go_good (kn : List Item) : ∀ (n : Nat) (out : List Item) (xs : List Nat) (l : List Item), go kn n out xs = .ok l → Good out → Good l ∧ l.length = out.length + n
  | 0, out, xs, l, h, hg => by
    unfold go at h
    split at h
    · cases h; exact ⟨hg, rfl⟩
    · cases h
  | n + 1, out, xs, l, h, hg => by
    unfold go at h
    split at h
    · cases h
    · rename_i q hq
      obtain ⟨h1, h2⟩ := step_ok hq
      have ha := admit_zero h2
      obtain ⟨g1, g2⟩ := go_good kn n _ _ l h (fun p hp => by
        rcases List.mem_append.1 hp with hp | hp
        · exact hg p hp
        · rw [List.mem_singleton.1 hp]
          exact ⟨ha.1, ha.2.1, (told_len h1).2⟩)
      exact ⟨g1, by rw [g2]; simp; omega⟩
/-! a pack of objects -/
/-- an object's item behind the one ahead: its bytes, its depth -/
noncomputable def lays (last : Item) (t : List Nat) : List Nat × Nat :=
  if last.2 < 5 ∧ (Dl.mk last.1 t).length + 40 ≤ t.length then ((1 :: Sha.sum last.1) ++ ([(Dl.mk last.1 t).length / 256, (Dl.mk last.1 t).length % 256] ++ Dl.mk last.1 t), last.2 + 1)
  else (0 :: ([t.length / 256, t.length % 256] ++ t), 0)
noncomputable def encGo : List (List Nat) → List Item → Item → List Nat → R (List Nat)
  | [], _, _, pk => if 2000 < pk.length then .bad 13 else .ok pk
  | t :: r, out, last, pk => if adm out t = 0 then encGo r (out ++ [(t, (lays last t).2)]) (t, (lays last t).2) (pk ++ (lays last t).1) else .bad (adm out t)
noncomputable def encode (l : List (List Nat)) : R (List Nat) := if 64 < l.length then .bad 22 else encGo l [] ([], 0) [l.length]
end Pk
end Go.Proofs.YtcnedkgadfegbaaDoor
/- Maps from ids to any values, as functions: as maps from whole numbers (MapF). -/
namespace Go.Proofs.YtcnedkgadfegbaaDoor
open Go Go.RowKit Go.Maps
/-- every value reads as itself -/
def selfO (v : Value) : Option (DataW Value × List MemPlace) := some (.held v, [])
theorem selfO_mk (v : Value) : selfO v = some (.held v, []) := by unfold selfO; rfl
theorem oid_law : Keyed Tryd.prog 34 :=
  Keyed.of_law (deep_law_laid (by kernel_rfl) (m := 2) (by omega) (by rw [show Tryd.prog.types.size = 171 from by kernel_rfl]; decide) (by kernel_rfl) (by rw [Tryd.underlying34]))
/-- what an id reads as -/
def oidKey (xs : List Nat) : Lit := .string (keyBytes (xs.map fun (n : Nat) => Lit.int .u8 (n : Int)))
theorem mapM_all {α β : Type} {f : α → Option β} {g : α → β} : ∀ (l : List α), (∀ a ∈ l, f a = some (g a)) → l.mapM f = some (l.map g)
  | [], _ => rfl
  | a :: l, h => by
    rw [List.mapM_cons, h a (by simp), mapM_all l (fun b hb => h b (by simp [hb]))]
    rfl
theorem flatten_ones {α β : Type} (g : α → β) : ∀ (l : List α), (l.map fun a => [g a]).flatten = l.map g
  | [] => rfl
  | a :: l => by rw [List.map_cons, List.flatten_cons, flatten_ones g l]; rfl
theorem u8_wf {x : Nat} (h : x < 256) : (Lit.int .u8 (x : Int)).wf = true := by
  show (decide ((0 : Int) ≤ (x : Int)) && decide ((x : Int) ≤ 255)) = true
  rw [decide_eq_true (by omega), decide_eq_true (by omega)]
  rfl
theorem key_lits {cs : List Value} {m c : Nat} (hl : cs.length = c) (hc : Tryd.prog.cellsOf 34 = c) :
    Tryd.prog.keyLits (m + 1) 34 cs = ((List.range 32).mapM fun i => Tryd.prog.keyLits m 5 ((cs.drop (i * Tryd.prog.cellsOf 5)).take (Tryd.prog.cellsOf 5))).map List.flatten := by
  simp only [Program.keyLits, Tryd.underlying34]
  rw [if_pos (by rw [hl, hc])]
theorem oid_key {xs : List Nat} (h : Id32 xs) : keyOf Tryd.prog 34 (.agg (u8s xs)) = some (oidKey xs) := by
  obtain ⟨hl, hb⟩ := h
  have hc : Tryd.prog.cellsOf 34 = 32 := by kernel_rfl
  have hc1 : Tryd.prog.cellsOf 5 = 1 := by kernel_rfl
  have hk : Tryd.prog.keyType 34 = true := by kernel_rfl
  have hf : (Value.agg (u8s xs)).formed Tryd.prog 34 = true := by
    unfold Value.formed
    rw [Tryd.underlying34]
    simp only
    rw [u8s_size, hl, hc]
    rfl
  obtain ⟨m, hm⟩ : ∃ m, Tryd.prog.types.size = m + 1 := ⟨171 - 1, by kernel_rfl⟩
  have hlen : (Value.agg (u8s xs)).cells.toList.length = 32 := by
    show (u8s xs).toList.length = 32
    simp [u8s, hl]
  have hget : ∀ i, i < 32 → ((Value.agg (u8s xs)).cells.toList.drop (i * 1)).take 1 = [Value.int .u8 ((xs.getD i 0 : Nat) : Int)] := fun i hi => by
    show ((u8s xs).toList.drop (i * 1)).take 1 = _
    rw [Nat.mul_one]
    have e : (u8s xs).toList = xs.map fun (n : Nat) => Value.int .u8 (n : Int) := by simp [u8s]
    have e1 : (xs.drop i).take 1 = [xs.getD i 0] := by
      rw [List.drop_eq_getElem_cons (by omega), List.take_succ_cons, List.take_zero]
      simp [List.getD, hl, hi]
    rw [e, ← List.map_drop, ← List.map_take, e1]
    rfl
  have hone : ∀ i ∈ List.range 32, Tryd.prog.keyLits Tryd.prog.types.size 5 (((Value.agg (u8s xs)).cells.toList.drop (i * 1)).take 1) = some [Lit.int .u8 ((xs.getD i 0 : Nat) : Int)] := fun i hi => by
    have h := hb i
    rw [hget i (List.mem_range.1 hi), hm]
    generalize xs.getD i 0 = y at h ⊢
    have hw : (Lit.int .u8 (y : Int)).wf = true := u8_wf h
    simp [Program.keyLits, Tryd.underlying5, hw]
  unfold keyOf
  rw [Tryd.underlying34]
  simp only
  rw [hk, hf]
  simp only [Bool.and_self, if_true]
  rw [key_lits hlen hc, hc1, mapM_all (g := fun i => [Lit.int .u8 ((xs.getD i 0 : Nat) : Int)]) _ hone]
  simp only [Option.map_some]
  rw [flatten_ones]
  unfold oidKey
  have e : (List.range 32).map (fun i => Lit.int .u8 ((xs.getD i 0 : Nat) : Int)) = xs.map fun (n : Nat) => Lit.int .u8 (n : Int) := by
    apply List.ext_getElem
    · simp [hl]
    · intro i h1 h2
      simp at h1
      simp [List.getD, hl, h1]
  rw [e]
theorem oidKey_lit {xs : List Nat} (h : Id32 xs) : WideAt.IsKeyLit (oidKey xs) := oid_law.key (oid_key h)
theorem oidKey_ne {xs ys : List Nat} (hx : Id32 xs) (hy : Id32 ys) (h : ys ≠ xs) : oidKey ys ≠ oidKey xs := fun e => by
  have h1 := oid_key hx
  have h2 := oid_key hy
  rw [e] at h2
  have h3 := oid_law.inj h2 h1
  injection h3 with h3
  refine h ?_
  have e2 := congrArg Array.toList h3
  simp only [u8s] at e2
  apply List.ext_getElem
  · have := congrArg List.length e2; simpa using this
  · intro i i1 i2
    have := congrArg (fun l => l[i]?) e2
    simp [i1, i2] at this
    omega
/-- Block b is a map of at most n entries: f. -/
def MapO (w : World) (b n : Nat) (f : List Nat → Option Value) : Prop :=
  ∃ D : DataW Value, w.ownsMap Tryd.prog 34 selfO b n D ∧ ∀ xs, Id32 xs → has D (oidKey xs) = (f xs).isSome ∧ ∀ z, D.atKey (oidKey xs) (.held z) = .held ((f xs).getD z)
def updO (f : List Nat → Option Value) (x : List Nat) (v : Value) : List Nat → Option Value := fun y => if y = x then some v else f y
section
variable {w w' : World} {b n : Nat} {f : List Nat → Option Value} {t e : TypeId} {z : Value} {x : List Nat}
theorem MapO.made (w : World) : MapO (w.alloc (.map #[] 0)) w.heap.size 0 (fun _ => none) := ⟨_, World.ownsMap_made w _ _ _, fun _i _ => ⟨rfl, fun _ => rfl⟩⟩
theorem MapO.lt (h : MapO w b n f) : b < w.heap.size := by obtain ⟨D, h, _⟩ := h; exact h.lt
theorem MapO.mono (h : MapO w b n f) {n' : Nat} (hn : n ≤ n') : MapO w b n' f := by obtain ⟨D, h, k⟩ := h; exact ⟨D, h.mono hn, k⟩
theorem MapO.kept {row : Option Nat} (h : MapO w b n f) (hg : w.grownBy w' row) (hne : some b ≠ row) : MapO w' b n f := by obtain ⟨D, h, k⟩ := h; exact ⟨D, h.kept hg hne, k⟩
theorem MapO.below (h : MapO w b n f) (hb : Below w.heap.size w w') : MapO w' b n f := h.kept (only_of_below hb none) (by simp)
theorem MapO.block (h : MapO w b n f) (e : w'.heap[b]? = w.heap[b]?) : MapO w' b n f := by
  obtain ⟨D, ⟨es, clock, h1, h2, h3, h4⟩, k⟩ := h
  exact ⟨D, ⟨es, clock, e.trans h1, h2, h3, h4⟩, k⟩
theorem MapO.is (h : MapO w b n f) : ∃ es clock, w.heap[b]? = some (.map es clock) := by
  obtain ⟨D, ⟨es, clock, h1, _⟩, k⟩ := h
  exact ⟨es, clock, h1⟩
theorem MapO.ext (h : MapO w b n f) {g : List Nat → Option Value} (hg : ∀ x, Id32 x → f x = g x) : MapO w b n g := by
  obtain ⟨D, h1, k⟩ := h
  exact ⟨D, h1, fun x hx => by rw [← hg x hx]; exact k x hx⟩
theorem MapO.look (h : MapO w b n f) (ht : Tryd.prog.underlying t = some (.map 34 e)) (hz : (zeroValue e).run Tryd.prog w = .ok z w) (hi : Id32 x) :
    (Instr.lookup t (.map (some b)) (.agg (u8s x)) false).run Tryd.prog w = .ok ((f x).getD z) w := by
  obtain ⟨D, h, k⟩ := h
  obtain ⟨v, ps, hrun, hv⟩ := h.lookup oid_law ht hz (zd := .held z) (zp := []) (selfO_mk z) (oid_key hi)
  have e0 : DataW.held v = D.atKey (oidKey x) (.held z) := congrArg Prod.fst (Option.some.inj hv)
  rw [(k x hi).2 z] at e0
  have e1 := DataW.held.inj e0
  rw [hrun, e1]
theorem MapO.look_ok (h : MapO w b n f) (ht : Tryd.prog.underlying t = some (.map 34 e)) (hz : (zeroValue e).run Tryd.prog w = .ok z w) (hi : Id32 x) :
    (Instr.lookup t (.map (some b)) (.agg (u8s x)) true).run Tryd.prog w = .ok (.tuple #[(f x).getD z, .bool (f x).isSome]) w := by
  obtain ⟨D, h, k⟩ := h
  obtain ⟨v, ps, hrun, hv⟩ := h.look_ok oid_law ht hz (zd := .held z) (zp := []) (selfO_mk z) (oid_key hi)
  have e0 : DataW.held v = D.atKey (oidKey x) (.held z) := congrArg Prod.fst (Option.some.inj hv)
  rw [(k x hi).2 z] at e0
  have e1 := DataW.held.inj e0
  rw [hrun, e1, (k x hi).1]
theorem MapO.store (h : MapO w b n f) (ht : Tryd.prog.underlying t = some (.map 34 e)) (hn : n < maxLen) (hi : Id32 x) (v : Value) :
    ∃ w', (Instr.mapUpdate t (.map (some b)) (.agg (u8s x)) v).run Tryd.prog w = .ok () w' ∧ MapO w' b (n + 1) (updO f x v) ∧ w.grownBy w' (some b) := by
  obtain ⟨D, h, k⟩ := h
  obtain ⟨w', hrun, h2, hg⟩ := h.update oid_law ht hn (oid_key hi) (val := v) (d := .held v) (ps := []) (selfO_mk v)
  refine ⟨w', hrun, ⟨_, h2, fun y hy => ?_⟩, hg⟩
  unfold updO
  by_cases hyx : y = x
  · subst hyx
    rw [if_pos rfl]
    exact ⟨has_put_same h.isMap (oidKey_lit hi) _, fun z => atKey_put_same h.isMap (oidKey_lit hi) _ _⟩
  · rw [if_neg hyx]
    exact ⟨by rw [has_put_other (oidKey_ne hi hy hyx)]; exact (k y hy).1, fun z => by rw [atKey_put_other (oidKey_ne hi hy hyx)]; exact (k y hy).2 z⟩
end
end Go.Proofs.YtcnedkgadfegbaaDoor
