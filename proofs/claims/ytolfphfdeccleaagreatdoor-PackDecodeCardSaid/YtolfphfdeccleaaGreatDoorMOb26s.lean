/- Which object bytes are (said plainly), and what stands while object.read reads it. -/
import Derived.Test.YtolfphfdeccleaaGreatDoorMOb23s
import Derived.Test.YtolfphfdeccleaaGreatDoorMBases
import Derived.Test.YtolfphfdeccleaaGreatDoorMHelds
import Derived.Test.YtolfphfdeccleaaGreatDoorMOct9s
import Derived.Test.YtolfphfdeccleaaGreatDoorMLawKits
import Derived.Deep.QuietTactic
import Derived.BigQuiet
import Derived.WalkSpells
import Derived.RegionTactic
import Derived.ChangeAlike
import Derived.RangeFuncOwn
namespace Go.Proofs.YtolfphfdeccleaaGreatDoor
open Go Go.RowKit
def zid : List Nat := List.replicate 32 0
theorem zid_id : Id32 zid := ⟨by simp [zid], fun i => by
  unfold zid
  rw [List.getD_eq_getElem?_getD, List.getElem?_replicate]
  split <;> simp⟩
/-- the entry at a place -/
def entOf (n : Nat) (ys : List Nat) : Ent := ⟨textOf (ys.take n), (ys.drop n).take 32⟩
/-- the entries of bytes, one after another -/
def entsGo : Nat → List Ent → List Nat → Option (List Ent)
  | _, es, [] => some es
  | 0, _, _ :: _ => none
  | f + 1, es, n :: ys => if ys.length < n + 32 then none else entsGo f (es ++ [entOf n ys]) (ys.drop (n + 32))
theorem entsGo_more : ∀ (f f' : Nat) (es : List Ent) (ys : List Nat), ys.length ≤ f → ys.length ≤ f' → entsGo f es ys = entsGo f' es ys
  | f, f', es, [], _, _ => by cases f <;> cases f' <;> rfl
  | 0, _, _, _ :: _, h, _ => by simp at h
  | _, 0, _, _ :: _, _, h => by simp at h
  | f + 1, f' + 1, es, n :: ys, h, h' => by
    unfold entsGo
    split
    · rfl
    · exact entsGo_more f f' _ _ (by rw [List.length_drop]; simp at h; omega) (by rw [List.length_drop]; simp at h'; omega)
def entsOf (es : List Ent) (ys : List Nat) : Option (List Ent) := entsGo ys.length es ys
theorem entsOf_nil (es : List Ent) : entsOf es [] = some es := rfl
theorem entsOf_short {es : List Ent} {n : Nat} {ys : List Nat} (h : ys.length < n + 32) : entsOf es (n :: ys) = none := by
  unfold entsOf
  rw [List.length_cons, entsGo, if_pos h]
theorem entsOf_next {es : List Ent} {n : Nat} {ys : List Nat} (h : n + 32 ≤ ys.length) : entsOf es (n :: ys) = entsOf (es ++ [entOf n ys]) (ys.drop (n + 32)) := by
  unfold entsOf
  rw [List.length_cons, entsGo, if_neg (by omega)]
  exact entsGo_more _ _ _ _ (by rw [List.length_drop]; omega) (Nat.le_refl _)
/-- so many ids, one after another, and what is left -/
def parsGo : Nat → List (List Nat) → List Nat → Option (List (List Nat) × List Nat)
  | 0, ps, ys => some (ps, ys)
  | n + 1, ps, ys => if ys.length < 32 then none else parsGo n (ps ++ [ys.take 32]) (ys.drop 32)
inductive Prs where
  | bad (e : Nat)
  | ok (o : Ob)
noncomputable def Prs.fin (o : Ob) : Prs := if o.right then .ok o else .bad 4
/-- the object that bytes are -/
noncomputable def Ob.parse : List Nat → Prs
  | [] => .bad 2
  | c :: ys =>
    if c = 98 then Prs.fin ⟨1, ys, [], zid, []⟩
    else if c = 116 then (match entsOf [] ys with | none => .bad 2 | some es => Prs.fin ⟨2, [], es, zid, []⟩)
    else if c = 99 then (if ys.length < 33 then .bad 2 else match parsGo (ys.getD 32 0) [] (ys.drop 33) with | none => .bad 2 | some q => Prs.fin ⟨3, q.2, [], ys.take 32, q.1⟩)
    else if c = 103 then (if ys.length < 32 then .bad 2 else Prs.fin ⟨4, ys.drop 32, [], ys.take 32, []⟩)
    else .bad 7
/-- What stands while read goes on: the reading, the object at g, the result's place. -/
structure Rst (w0 w w' : World) (i r g : Nat) (cs : Array Value) (ys : List Nat) : Prop where
  at_ : InAt w0 w' i r ys
  ob : Blk w' g 145 cs
  res : Blk w' w.heap.size 145 zOc
  kpt : Kpt (fun b => b = r) w w'
  old : r < w.heap.size ∧ i < w.heap.size
  gt : w.heap.size < g
section
variable {w0 w w' w'' : World} {i r g : Nat} {cs : Array Value} {ys zs : List Nat}
theorem Rst.read (h : Rst w0 w w' i r g cs ys) (hg : w'.grownBy w'' (some r)) (hi : InAt w0 w'' i r zs) : Rst w0 w w'' i r g cs zs :=
  ⟨hi, h.ob.grown hg (fun e => by injection e with e; have := h.gt; have := h.old.1; omega), h.res.grown hg (fun e => by injection e with e; have := h.old.1; omega), h.kpt.trans (Kpt.of_grown hg rfl), h.old, h.gt⟩
theorem Rst.below (h : Rst w0 w w' i r g cs ys) (hb : Below w'.heap.size w' w'') : Rst w0 w w'' i r g cs ys :=
  ⟨h.at_.below hb, h.ob.below hb h.ob.lt, h.res.below hb h.res.lt, h.kpt.trans (Kpt.of_below hb), h.old, h.gt⟩
theorem Rst.put (h : Rst w0 w w' i r g cs ys) (hg : w'.grownBy w'' (some g)) {cs2 : Array Value} (hb : Blk w'' g 145 cs2) : Rst w0 w w'' i r g cs2 ys := by
  obtain ⟨v, k, hr, hw, h1, h2⟩ := h.at_
  have := h.gt
  have := h.old.1
  have := h.old.2
  refine ⟨⟨v, ⟨k.i_.grown hg (fun e => by injection e with e; omega), k.r_.grown hg (fun e => by injection e with e; omega), k.ne⟩, hr, below_of_only hw hg (by omega), h1, h2⟩, hb, h.res.grown hg (fun e => by injection e with e; omega), ?_, h.old, h.gt⟩
  exact ⟨hg.os.trans h.kpt.os, hg.tape.trans h.kpt.tape, hg.output.trans h.kpt.output, Nat.le_trans h.kpt.size hg.size, fun b hb hs => (hg.block b (Nat.lt_of_lt_of_le hb h.kpt.size) (fun e => by injection e with e; omega)).trans (h.kpt.block b hb hs)⟩
theorem Rst.own (h : Rst w0 w w' i r g cs ys) {B n z : Nat} {e : TypeId} {v : Value} {us : List Value} (ho : w'.ownsRow B e z v n us) (hB : g < B) (hg : w'.grownBy w'' v.ownBlock) : Rst w0 w w'' i r g cs ys := by
  have n0 : ∀ x, x < B → some x ≠ v.ownBlock := fun x hx => own_ne' ho hx
  obtain ⟨u, k, hr, hw, h1, h2⟩ := h.at_
  have := h.gt
  have := h.old.1
  have := h.old.2
  refine ⟨⟨u, ⟨k.i_.grown hg (n0 _ (by omega)), k.r_.grown hg (n0 _ (by omega)), k.ne⟩, hr, below_own hw ho (by omega) hg, h1, h2⟩, h.ob.grown hg (n0 _ hB), h.res.grown hg (n0 _ (by omega)), ?_, h.old, h.gt⟩
  exact ⟨hg.os.trans h.kpt.os, hg.tape.trans h.kpt.tape, hg.output.trans h.kpt.output, Nat.le_trans h.kpt.size hg.size, fun b hb hs => (hg.block b (Nat.lt_of_lt_of_le hb h.kpt.size) (n0 _ (by omega))).trans (h.kpt.block b hb hs)⟩
theorem Rst.fails (h : Rst w0 w w' i r g cs ys) {er : Value} {e : Ending} (hf : Fails w' r er e w'') : e = .panicked [{ v := stopV r, recovered := false }] ∧ Dead w'' r er ∧ Kpt (fun b => b = r) w w'' :=
  ⟨hf.1, hf.2.1, h.kpt.trans (Kpt.of_grown hf.2.2 rfl)⟩
end
/-- one cell of the object set -/
theorem grown_cell (w : World) (g k : Nat) (v : Value) : w.grownBy (w.setCell ⟨g, k, none⟩ v) (some g) := only_setCell (World.grownBy.refl w _) (Or.inl rfl) v
theorem grown_cells (g : Nat) : ∀ (vs : List Value) (o : Nat) (w a : World), a.grownBy w (some g) → a.grownBy (w.setCells g o vs) (some g)
  | [], _, _, _, h => h
  | v :: vs, o, _w, a, h => grown_cells g vs (o + 1) _ a (only_setCell h (Or.inl rfl) v)
theorem blk_cells {t g : Nat} (post : List Value) : ∀ (vs old pre : List Value) (o : Nat) (w : World), old.length = vs.length → pre.length = o → Blk w g t (pre ++ old ++ post).toArray → Blk (w.setCells g o vs) g t (pre ++ vs ++ post).toArray
  | [], old, pre, o, w, h, _, hb => by
    obtain rfl : old = [] := List.eq_nil_of_length_eq_zero h
    exact hb
  | v :: vs, [], pre, o, w, h, _, hb => by simp at h
  | v :: vs, u :: old, pre, o, w, h, hp, hb => by
    have e : (pre ++ u :: old ++ post).toArray.setIfInBounds o v = ((pre ++ [v]) ++ old ++ post).toArray := by
      apply Array.ext'
      rw [Array.toList_setIfInBounds]
      show (pre ++ u :: old ++ post).set o v = _
      rw [List.append_assoc, List.set_append_right _ _ (by omega), show o - pre.length = 0 by omega]
      simp
    have h1 := hb.set_ o v
    rw [e] at h1
    have h2 := blk_cells post vs old (pre ++ [v]) (o + 1) _ (by simpa using h) (by simp; omega) h1
    rw [World.setCells]
    rwa [show pre ++ [v] ++ vs ++ post = pre ++ v :: vs ++ post by simp] at h2
theorem there_of {w : World} {t g o n : Nat} {cs : Array Value} (hb : Blk w g t cs) (h : o + n ≤ cs.size) : w.there g o n := fun j hj => by
  rw [hb.cell, hb.frozen]
  exact ⟨by rw [Array.getElem?_eq_getElem (by omega)]; rfl, rfl⟩
theorem cellsOb_k1 (k : Int) (t e p v : Value) (x : List Nat) : (cellsOb k t e p x).toArray.setIfInBounds 1 v = (cellsOb k v e p x).toArray := by
  apply Array.ext'; rw [Array.toList_setIfInBounds]; rfl
theorem cellsOb_k2 (k : Int) (t e p v : Value) (x : List Nat) : (cellsOb k t e p x).toArray.setIfInBounds 2 v = (cellsOb k t v p x).toArray := by
  apply Array.ext'; rw [Array.toList_setIfInBounds]; rfl
theorem cellsOb_k35 (k : Int) (t e p v : Value) (x : List Nat) (hx : x.length = 32) : (cellsOb k t e p x).toArray.setIfInBounds 35 v = (cellsOb k t e v x).toArray := by
  apply Array.ext'
  rw [Array.toList_setIfInBounds]
  show (.int .i64 k :: t :: e :: (cellsB x ++ [p])).set 35 v = .int .i64 k :: t :: e :: (cellsB x ++ [v])
  rw [show (35 : Nat) = 32 + 1 + 1 + 1 from rfl, List.set_cons_succ, List.set_cons_succ, List.set_cons_succ, List.set_append_right _ _ (by rw [cellsB_len]; omega), cellsB_len, hx]
  rfl
theorem zOc_cells : zOc = (cellsOb 0 nilV nilV nilV zid).toArray := by kernel_rfl
theorem obj_places : (Tryz.prog.fieldsOf 145).toList.mapM (fun f => (Tryz.prog.info? f.type).map fun i => (f.offset, i.size)) = some [(0, 1), (1, 1), (2, 1), (3, 32), (35, 1)] := by kernel_rfl
theorem obj_zero : ((Tryz.prog.info? 145).bind (·.zero)).map (·.cells) = some (cellsOb 0 nilV nilV nilV zid).toArray := by kernel_rfl
theorem iobj_under : Tryz.prog.underlying 145 = some (.struct (Tryz.prog.fieldsOf 145)) := by kernel_rfl
theorem obj_built (k : Int) : Tryz.prog.built 145 [(0, .int .i64 k)] = some (cellsOb k nilV nilV nilV zid).toArray := by
  rw [built_of iobj_under obj_zero obj_places]
  exact fill_part (fun i => ([(0, 1), (1, 1), (2, 1), (3, 32), (35, 1)] : List (Nat × Nat)).toArray[i]?) 0 0 1 (.int .i64 k) [] [.int .i64 k] [.int .i64 0] [] (nilV :: nilV :: (cellsB zid ++ [nilV])) rfl rfl rfl rfl rfl
/-- What read leaves of an object that is right: its parts lie above m. -/
structure ObO (m : Nat) (w : World) (o : Ob) (cs : Array Value) (T : Option Addr) (tc : Nat) (E : Option Addr) (ec : Nat) (P : Option Addr) (pc : Nat) : Prop where
  cells : cs = (cellsOb o.kind (.slice T o.text.length tc) (.slice E o.ents.length ec) (.slice P o.pars.length pc) o.target).toArray
  text : w.ownsRow m 5 1 (.slice T o.text.length tc) o.text.length (cellsB o.text)
  ents : w.ownsRow m 185 33 (.slice E o.ents.length ec) o.ents.length (cellsE o.ents)
  pars : w.ownsRow m 49 32 (.slice P o.pars.length pc) o.pars.length (cellsP o.pars)
theorem own_kpt {m z n : Nat} {w w' : World} {e : TypeId} {v : Value} {us : List Value} (h : w.ownsRow m e z v n us) (k : Kpt (fun b => b < m) w w') : w'.ownsRow m e z v n us := by
  refine ⟨h.1, ?_⟩
  rcases h.2 with hn | ⟨g, cap, cur, rfl, hb, hgg, rest⟩
  · exact .inl hn
  · refine .inr ⟨g, cap, cur, rfl, hb, ?_, rest⟩
    rw [k.block g (Array.getElem?_eq_some_iff.1 hgg).1 (by omega)]
    exact hgg
theorem ObO.kept {m : Nat} {w w' : World} {o : Ob} {cs : Array Value} {T E P : Option Addr} {tc ec pc : Nat} (h : ObO m w o cs T tc E ec P pc) (k : Kpt (fun b => b < m) w w') : ObO m w' o cs T tc E ec P pc :=
  ⟨h.cells, own_kpt h.text k, own_kpt h.ents k, own_kpt h.pars k⟩
theorem own_low {w : World} {m m' z n : Nat} {e : TypeId} {v : Value} {us : List Value} (h : w.ownsRow m e z v n us) (hm : m' ≤ m) : w.ownsRow m' e z v n us := by
  refine ⟨h.1, ?_⟩
  rcases h.2 with hn | ⟨g, cap, cur, h1, h2, h3⟩
  · exact .inl hn
  · exact .inr ⟨g, cap, cur, h1, by omega, h3⟩
theorem rd_own {w : World} {m : Nat} {v : Value} {xs : List Nat} (h : w.ownsRow m 5 1 v xs.length (cellsB xs)) : Rd w v xs := by
  rcases h.2 with ⟨rfl, h0⟩ | ⟨g, cap, cur, rfl, _, hg, hc, _⟩
  · have : xs = [] := List.eq_nil_of_length_eq_zero h0
    subst this
    exact ⟨none, 0, rfl, Nat.le_refl _, fun h => absurd h (by simp)⟩
  · refine ⟨_, cap, rfl, hc, fun _ => ⟨g, 0, rfl, (Array.getElem?_eq_some_iff.1 hg).1, fun i hi => ?_⟩⟩
    have h1 := h.cells (g := g) rfl i _ (cellsB_get hi)
    rwa [Addr.add_mid] at h1
theorem ObO.obc {m : Nat} {w : World} {o : Ob} {cs : Array Value} {T E P : Option Addr} {tc ec pc : Nat} (h : ObO m w o cs T tc E ec P pc) : ObC w o cs T tc E ec P pc :=
  ⟨h.cells, rd_own h.text, rdk_own h.ents, rdk_own h.pars⟩
/-- What read answers. -/
def ReadPost (xs : List Nat) (a : Nat → Addr) (w0 w : World) (i r : Nat) (e : Ending) (w' : World) : Prop :=
  (∀ c, Ob.parse xs = .bad c → e = .panicked [{ v := stopV r, recovered := false }] ∧ Dead w' r (ev (a (c - 1))) ∧ Kpt (fun b => b = r) w w') ∧
  (∀ o, Ob.parse xs = .ok o → ∃ cs T tc E ec P pc, e = .returned (.agg cs) ∧ o.Fit ∧ o.Held ∧ ObO w.heap.size w' o cs T tc E ec P pc ∧ InAt w0 w' i r [] ∧ Kpt (fun b => b = r) w w')
theorem post_bad {xs : List Nat} {a : Nat → Addr} {w0 w w' : World} {i r c : Nat} {e : Ending} (hp : Ob.parse xs = .bad c) (h : e = .panicked [{ v := stopV r, recovered := false }] ∧ Dead w' r (ev (a (c - 1))) ∧ Kpt (fun b => b = r) w w') : ReadPost xs a w0 w i r e w' :=
  ⟨fun c' h' => (by rw [hp] at h'; injection h' with h'; subst h'; exact h), fun o h' => (by rw [hp] at h'; cases h')⟩
theorem post_ok {xs : List Nat} {a : Nat → Addr} {w0 w w' : World} {i r : Nat} {e : Ending} {o : Ob} {cs : Array Value} {T E P : Option Addr} {tc ec pc : Nat} (hp : Ob.parse xs = .ok o) (he : e = .returned (.agg cs)) (hf : o.Fit) (hd : o.Held) (ho : ObO w.heap.size w' o cs T tc E ec P pc) (hi : InAt w0 w' i r []) (hk : Kpt (fun b => b = r) w w') : ReadPost xs a w0 w i r e w' :=
  ⟨fun c' h' => (by rw [hp] at h'; cases h'), fun o' h' => (by rw [hp] at h'; injection h' with h'; subst h'; exact ⟨cs, T, tc, E, ec, P, pc, he, hf, hd, ho, hi, hk⟩)⟩
/-- The error values that reading an object may end by. -/
def PSents (w : World) (a : Nat → Addr) : Prop := w.cell? ⟨1, 0, none⟩ = some (ev (a 1)) ∧ w.cell? ⟨3, 0, none⟩ = some (ev (a 3)) ∧ w.cell? ⟨6, 0, none⟩ = some (ev (a 6))
theorem PSents.at_ {w0 w : World} {a : Nat → Addr} (h : PSents w0 a) (hb : Below w0.heap.size w0 w) : PSents w a :=
  ⟨(hb.cell (block_lt_of_cell h.1)).trans h.1, (hb.cell (block_lt_of_cell h.2.1)).trans h.2.1, (hb.cell (block_lt_of_cell h.2.2)).trans h.2.2⟩
end Go.Proofs.YtolfphfdeccleaaGreatDoor
/- Deltas as lists of bytes: the steps behind the sizes, the text that they make of a base, the copies and fresh bytes of a target; what is made so makes the target. -/
namespace Go.Proofs.YtolfphfdeccleaaGreatDoor.Dl
open Go.Proofs.YtolfphfdeccleaaGreatDoor
/-- a byte, 0 beyond the end -/
def at0 (d : List Nat) (p : Nat) : Nat := d.getD p 0
def two (d : List Nat) (p : Nat) : Nat := at0 d p * 256 + at0 d (p + 1)
inductive Ev where
  | bad (short : Bool)
  | copy (n src : Nat)
  | fresh (n pos : Nat)
/-- the step at a place, and how many bytes it takes -/
def evAt (d : List Nat) (p : Nat) : Ev × Nat :=
  if at0 d p % 128 = 0 then (.bad false, 0)
  else if at0 d p < 128 then (if d.length < p + 1 + at0 d p then (.bad true, 0) else (.fresh (at0 d p) (p + 1), 1 + at0 d p))
  else (if d.length < p + 3 then (.bad true, 0) else (.copy (at0 d p - 128) (two d (p + 1)), 3))
theorem evAt_pos {d : List Nat} {p : Nat} (h : ∀ s, (evAt d p).1 ≠ .bad s) : 0 < (evAt d p).2 := by
  have : (∃ s, (evAt d p).1 = .bad s) ∨ 0 < (evAt d p).2 := by
    unfold evAt
    split
    · exact .inl ⟨_, rfl⟩
    · split
      · split
        · exact .inl ⟨_, rfl⟩
        · exact .inr (show 0 < 1 + at0 d p by omega)
      · split
        · exact .inl ⟨_, rfl⟩
        · exact .inr (show 0 < 3 by omega)
  rcases this with ⟨s, e⟩ | e
  · exact absurd e (h s)
  · exact e
/-- the steps from a place on, at most f of them -/
def evsF (d : List Nat) : Nat → Nat → List Ev
  | 0, _ => []
  | f + 1, p => if p < d.length then
      match evAt d p with
      | (.bad s, _) => [.bad s]
      | (e, k) => e :: evsF d f (p + k)
    else []
theorem evsF_succ (d : List Nat) (f p : Nat) : evsF d (f + 1) p = if p < d.length then
      match evAt d p with
      | (.bad s, _) => [.bad s]
      | (e, k) => e :: evsF d f (p + k)
    else [] := rfl
theorem evsF_more (d : List Nat) : ∀ (f p : Nat), d.length ≤ p + f → ∀ g, f ≤ g → evsF d g p = evsF d f p
  | 0, p, h, g, _ => by
    cases g with
    | zero => rfl
    | succ g => rw [evsF_succ, if_neg (by omega)]; rfl
  | f + 1, p, h, g, hg => by
    cases g with
    | zero => omega
    | succ g =>
      rw [evsF_succ, evsF_succ]
      by_cases hp : p < d.length
      · rw [if_pos hp, if_pos hp]
        have hk : (∀ s, (evAt d p).1 ≠ .bad s) → 0 < (evAt d p).2 := evAt_pos
        rcases he : evAt d p with ⟨e, k⟩
        rw [he] at hk
        cases e with
        | bad s => rfl
        | copy n s =>
          have := hk (by intro s' h'; cases h')
          show Ev.copy n s :: evsF d g (p + k) = Ev.copy n s :: evsF d f (p + k)
          rw [evsF_more d f (p + k) (by simp at this; omega) g (by omega)]
        | fresh n s =>
          have := hk (by intro s' h'; cases h')
          show Ev.fresh n s :: evsF d g (p + k) = Ev.fresh n s :: evsF d f (p + k)
          rw [evsF_more d f (p + k) (by simp at this; omega) g (by omega)]
      · rw [if_neg hp, if_neg hp]
def evs (d : List Nat) (p : Nat) : List Ev := evsF d (d.length - p) p
theorem evs_end {d : List Nat} {p : Nat} (h : d.length ≤ p) : evs d p = [] := by
  unfold evs; rw [show d.length - p = 0 by omega]; rfl
theorem evs_bad {d : List Nat} {p k : Nat} {s : Bool} (h : p < d.length) (he : evAt d p = (.bad s, k)) : evs d p = [.bad s] := by
  unfold evs
  obtain ⟨f, hf⟩ : ∃ f, d.length - p = f + 1 := ⟨d.length - p - 1, by omega⟩
  rw [hf, evsF_succ, if_pos h, he]
theorem evs_step {d : List Nat} {p k : Nat} {e : Ev} (h : p < d.length) (he : evAt d p = (e, k)) (hb : ∀ s, e ≠ .bad s) : evs d p = e :: evs d (p + k) := by
  have hk := evAt_pos (d := d) (p := p) (by rw [he]; exact hb)
  rw [he] at hk
  unfold evs
  obtain ⟨f, hf⟩ : ∃ f, d.length - p = f + 1 := ⟨d.length - p - 1, by omega⟩
  rw [hf, evsF_succ, if_pos h, he]
  cases e with
  | bad s => exact absurd rfl (hb s)
  | copy n s => show _ :: evsF d f (p + k) = _; rw [evsF_more d (d.length - (p + k)) (p + k) (by omega) f (by simp at hk; omega)]
  | fresh n s => show _ :: evsF d f (p + k) = _; rw [evsF_more d (d.length - (p + k)) (p + k) (by omega) f (by simp at hk; omega)]
/-- a step that may stand in a delta -/
def okE (d : List Nat) : Ev → Prop
  | .bad _ => True
  | .copy n f => 0 < n ∧ n ≤ 127 ∧ f ≤ 65535
  | .fresh n q => 0 < n ∧ n ≤ 127 ∧ q + n ≤ d.length
theorem evAt_ok {d : List Nat} (hb : ∀ i, d.getD i 0 < 256) (p : Nat) : okE d (evAt d p).1 := by
  have h0 := hb p
  have h1 := hb (p + 1)
  have h2 := hb (p + 1 + 1)
  unfold evAt two
  simp only [← show at0 d p = d.getD p 0 from rfl, ← show at0 d (p + 1) = d.getD (p + 1) 0 from rfl, ← show at0 d (p + 1 + 1) = d.getD (p + 1 + 1) 0 from rfl] at h0 h1 h2
  split
  · trivial
  · split
    · split
      · trivial
      · exact ⟨by omega, by omega, by omega⟩
    · split
      · trivial
      · exact ⟨by omega, by omega, by omega⟩
open Classical in
noncomputable def norm (d : List Nat) (e : Ev) : Ev := if okE d e then e else .bad false
theorem norm_ok {d : List Nat} {e : Ev} (h : okE d e) : norm d e = e := by unfold norm; rw [if_pos h]
theorem ok_norm (d : List Nat) (e : Ev) : okE d (norm d e) := by
  unfold norm
  split
  · assumption
  · trivial
theorem evs_norm {d : List Nat} (hb : ∀ i, d.getD i 0 < 256) (p : Nat) : (evs d p).map (norm d) = evs d p := by
  unfold evs
  generalize d.length - p = f
  induction f generalizing p with
  | zero => rfl
  | succ f ih =>
    rw [evsF_succ]
    have h := evAt_ok hb p
    split
    · rcases he : evAt d p with ⟨e, k⟩
      rw [he] at h
      cases e with
      | bad s => simp [norm_ok h]
      | copy n s => simp [norm_ok h, ih]
      | fresh n s => simp [norm_ok h, ih]
    · rfl
/-- what a delta makes: an error's number, or a text -/
inductive Res where
  | err (k : Nat)
  | ok (l : List Nat)
/-- the text of the steps (numbers of errors: 0 range, 1 short, 2 long, 3 form) -/
def runE (base d : List Nat) (to : Nat) : List Ev → List Nat → Res
  | [], out => if out.length < to then .err 1 else .ok out
  | .bad s :: _, _ => .err (if s then 1 else 3)
  | .copy n f :: r, out => if base.length < f + n then .err 0 else if to < out.length + n then .err 2 else runE base d to r (out ++ (base.drop f).take n)
  | .fresh n p :: r, out => if to < out.length + n then .err 2 else runE base d to r (out ++ (d.drop p).take n)
end Go.Proofs.YtolfphfdeccleaaGreatDoor.Dl
/- Numbers of two bytes, the sizes, a delta's first step. -/
namespace Go.Proofs.YtolfphfdeccleaaGreatDoor
open Go Go.RowKit
theorem i64_or (a b : Nat) (ha : a < 256) (hb : b < 256) : bits .or .i64 ((a : Int) * 256) (b : Int) = ((a * 256 + b : Nat) : Int) := by
  have e : a * 256 ||| b = a * 256 + b := by rw [Nat.mul_comm]; exact (Nat.two_pow_add_eq_or_of_lt (i := 8) (by omega) a).symm
  have h1 : bits .or .i64 ((a : Int) * 256) (b : Int) = IntKind.i64.wrap ((BitVec.ofInt 64 ((a * 256 : Nat) : Int) ||| BitVec.ofInt 64 (b : Int)).toNat : Int) := by rw [Int.natCast_mul]; rfl
  rw [h1, BitVec.toNat_or, ofInt_u 64 (a * 256) (by omega), ofInt_u 64 b (by omega), e]
  exact IntWalk.i64_in _ (by omega)
theorem dnumber_any (A : Option Addr) (n c : Nat) (xs : List Nat) (w : World) (h : Rd w (.slice A n c) xs) (hb : Sha.Byte xs) (h2 : 2 ≤ xs.length) :
    Calls Tryz.prog 109 #[.slice A n c] w fun e w' => e = .returned (.int .i64 (Dl.two xs 0 : Nat)) ∧ ∃ m, w' = w.drewN m := by
  obtain ⟨A', c', hv, hc, hA⟩ := h
  injection hv with e1 e2 e3
  subst e1 e3
  obtain rfl := e2
  obtain ⟨b, o, rfl, _, hx⟩ := hA (by omega)
  have x0 : w.cell? ⟨b, o, none⟩ = _ := hx 0 (by omega)
  have x1 := hx 1 (by omega)
  have i0 : 0 < xs.length := by omega
  have j0 : 1 < xs.length := by omega
  have p1 := hb 0
  have q1 := hb 1
  have HE := Lib.hid (show bits .or .i64 ((xs.getD 0 0 : Nat) * 256) ((xs.getD 1 0 : Nat) : Int) = (Dl.two xs 0 : Nat) from i64_or _ _ p1 q1)
  obtain ⟨r, hr⟩ : ∃ r, r = Dl.two xs 0 := ⟨_, rfl⟩
  rw [← hr] at HE ⊢
  clear hr hb
  generalize xs.getD 0 0 = p at x0 p1 HE
  generalize xs.getD 1 0 = q at x1 q1 HE
  generalize hn : xs.length = n at *
  clear hx hA
  go_enter Tryz.func109, Tryz.ntmps109
  go_wp2
  go_quiet (fail)
  go_wp2
  go_ret
  exact ⟨by rw [← HE.out]; rfl, _, rfl⟩
/-- what isn't a row of bytes stands as it stood -/
theorem kp_below {W W1 : World} (h : Below W.heap.size W W1) : KeepsOthers W W1 :=
  ⟨h.size, fun k _o hk _ => (h.block k (Array.getElem?_eq_some_iff.1 hk).1).trans hk⟩
theorem kp_own {a b c : World} {B size n : Nat} {T : TypeId} {v : Value} {xs : List Value} (h : KeepsOthers a b) (ho : b.ownsRow B T size v n xs) (k : b.grownBy c v.ownBlock) : KeepsOthers a c :=
  h.trans (KeepsOthers.of_grownBy k fun j o ej hj => by
    rcases ho.2 with ⟨rfl, _⟩ | ⟨g, cap, cur, rfl, _, hgb, _⟩
    · simp [Value.ownBlock] at ej
    · obtain rfl : g = j := by simpa [Value.ownBlock] using ej
      rw [hgb] at hj; cases hj; rfl)
/-- what is no row of bytes stands as it stood -/
def Dl.Oth (w w' : World) : Prop := (∀ (p : Nat) (cs : Array Value) (T : TypeId) (z : Nat × Nat), T ≠ 5 → w.heap[p]? = some (Obj.cells cs T z) → w'.heap[p]? = some (Obj.cells cs T z)) ∧ KeepsOthers w w'
theorem Dl.Oth.refl (w : World) : Dl.Oth w w := ⟨fun _ _ _ _ _ h => h, kp_below (Below.refl _ w)⟩
theorem Dl.Oth.trans {a b c : World} (h : Dl.Oth a b) (k : Dl.Oth b c) : Dl.Oth a c := ⟨fun p cs T z n e => k.1 p cs T z n (h.1 p cs T z n e), h.2.trans k.2⟩
theorem Dl.Oth.alloc {a b : World} (h : Dl.Oth a b) (o : Obj) : Dl.Oth a (b.alloc o) := ⟨fun p cs T z n e => by
  have h1 := h.1 p cs T z n e
  exact (Below.heap_alloc b o p (Array.getElem?_eq_some_iff.1 h1).1).trans h1, h.2.trans (kp_below ((Below.refl _ b).alloc (Nat.le_refl _) o))⟩
theorem Dl.Oth.own {a b c : World} {B size n : Nat} {v : Value} {xs : List Value} (h : Dl.Oth a b) (ho : b.ownsRow B 5 size v n xs) (k : b.grownBy c v.ownBlock) : Dl.Oth a c := ⟨fun p cs T z hT e => by
  have h1 := h.1 p cs T z hT e
  refine (k.block p (Array.getElem?_eq_some_iff.1 h1).1 ?_).trans h1
  intro hp
  rcases ho.2 with ⟨rfl, _⟩ | ⟨g, cap, cur, rfl, _, hh, _⟩
  · cases hp
  · cases hp
    rw [hh] at h1
    cases h1
    exact hT rfl, kp_own h.2 ho k⟩
theorem Dl.Oth.of_below {a b : World} (h : Below a.heap.size a b) : Dl.Oth a b := ⟨fun p _ _ _ _ e => (h.block p (Array.getElem?_eq_some_iff.1 e).1).trans e, kp_below h⟩
theorem Rd.blk {w : World} {A : Option Addr} {n c : Nat} {xs : List Nat} (h : Rd w (.slice A n c) xs) (h0 : 0 < xs.length) :
    n = xs.length ∧ n ≤ c ∧ ∃ b o, A = some ⟨b, o, none⟩ ∧ b < w.heap.size ∧ ∀ i, i < xs.length → w.cell? ⟨b, o + i, none⟩ = some (.int .u8 ((xs.getD i 0 : Nat) : Int)) := by
  obtain ⟨A', c', hv, hc, hA⟩ := h
  injection hv with e1 e2 e3
  subst e1 e2 e3
  obtain ⟨b, o, e, hb, hx⟩ := hA h0
  exact ⟨rfl, hc, b, o, e, hb, hx⟩
theorem sl_lo (b o len cap l : Nat) (w : World) (h1 : l ≤ len) (h2 : l < cap) {lo : Int} (el : lo = l) :
    (Instr.slice 22 (.slice (some ⟨b, o, none⟩) len cap) (some (.int .i64 lo)) none none).run Tryz.prog w = .ok (.slice (some ⟨b, o + l, none⟩) (len - l) (cap - l)) w := by
  subst el
  cases hq : Tryz.prog.info? 5 with
  | none => have h : (Tryz.prog.info? 5).map (·.size) = some 1 := by kernel_rfl
            simp [hq] at h
  | some i =>
    have hs : i.size = 1 := by have h : (Tryz.prog.info? 5).map (·.size) = some 1 := by kernel_rfl
                               simpa [hq] using h
    have hn : ((l : Nat) : Int) ≤ len := by omega
    have hc : ¬ cap = l := by omega
    simp [Instr.slice, run_underlying Tryz.underlying22, Instr.sliceBounds, run_sliceBound, sizeOf, typeInfo, hq, hs, hn, hc, Addr.add_mid]
theorem sl_lohi (b o len cap l h : Nat) (w : World) (h1 : l ≤ h) (h2 : h ≤ cap) (h3 : l < cap) {lo hi : Int} (el : lo = l) (eh : hi = h) :
    (Instr.slice 22 (.slice (some ⟨b, o, none⟩) len cap) (some (.int .i64 lo)) (some (.int .i64 hi)) none).run Tryz.prog w = .ok (.slice (some ⟨b, o + l, none⟩) (h - l) (cap - l)) w := by
  subst el eh
  cases hq : Tryz.prog.info? 5 with
  | none => have h : (Tryz.prog.info? 5).map (·.size) = some 1 := by kernel_rfl
            simp [hq] at h
  | some i =>
    have hs : i.size = 1 := by have h : (Tryz.prog.info? 5).map (·.size) = some 1 := by kernel_rfl
                               simpa [hq] using h
    have hn : ((l : Nat) : Int) ≤ h := by omega
    have hm : ((h : Nat) : Int) ≤ cap := by omega
    have hc : ¬ cap = l := by omega
    simp [Instr.slice, run_underlying Tryz.underlying22, Instr.sliceBounds, run_sliceBound, sizeOf, typeInfo, hq, hs, hn, hm, hc, Addr.add_mid]
set_option maxRecDepth 100000 in
theorem sizes_short (A : Option Addr) (c : Nat) (d : List Nat) (aS : Addr) (w : World) (h : d.length < 4) (hS : w.cell? ⟨1, 0, none⟩ = some (ev aS)) :
    Calls Tryz.prog 95 #[.slice A d.length c] w fun e w' => e = .returned (.tuple #[.int .i64 0, .int .i64 0, ev aS]) ∧ ∃ m, w' = w.drewN m := by
  have h1 : (d.length : Int) < 4 := by omega
  generalize d.length = n at *
  clear h
  go_enter Tryz.func95, Tryz.ntmps95
  go_wp2
  go_quiet (fail)
  go_wp2
  go_ret3
  exact ⟨rfl, _, rfl⟩
set_option maxRecDepth 100000 in
theorem sizes_any (A : Option Addr) (n c : Nat) (d : List Nat) (w : World) (h : Rd w (.slice A n c) d) (hb : Sha.Byte d) (h4 : 4 ≤ d.length) :
    Calls Tryz.prog 95 #[.slice A n c] w fun e w' => e = .returned (.tuple #[.int .i64 (Dl.two d 0 : Nat), .int .i64 (Dl.two d 2 : Nat), .nilIface]) ∧ ∃ m, w' = w.drewN m := by
  obtain ⟨rfl, hc, b, o, rfl, hbw, hx⟩ := h.blk (by omega)
  have C1 : ∀ k, Calls Tryz.prog 109 #[.slice (some ⟨b, o, none⟩) d.length c] (w.drewN k) fun e w' => e = .returned (.int .i64 (Dl.two d 0 : Nat)) ∧ ∃ m, w' = (w.drewN k).drewN m := fun k =>
    dnumber_any _ _ _ d _ (h.below (below_drewN (Below.refl _ w) k) (Nat.le_refl _)) hb (by omega)
  have C2 : ∀ k, Calls Tryz.prog 109 #[.slice (some ⟨b, o + 2, none⟩) (d.length - 2) (c - 2)] (w.drewN k) fun e w' => e = .returned (.int .i64 (Dl.two d 2 : Nat)) ∧ ∃ m, w' = (w.drewN k).drewN m := fun k => by
    have h2 := (h.below (below_drewN (Below.refl _ w) k) (Nat.le_refl _)).cut (k := 2) (by omega)
    rw [if_neg (by omega)] at h2
    have e : Dl.two d 2 = Dl.two (d.drop 2) 0 := by unfold Dl.two Dl.at0; rw [Sha.getD_drop, Sha.getD_drop]
    rw [e]
    exact dnumber_any _ _ _ (d.drop 2) _ h2 (fun i => by rw [Sha.getD_drop]; exact hb _) (by rw [List.length_drop]; omega)
  have S1 : ∀ w', (Instr.slice 22 (.slice (some ⟨b, o, none⟩) d.length c) (some (.int .i64 2)) none none).run Tryz.prog w' = .ok (.slice (some ⟨b, o + 2, none⟩) (d.length - 2) (c - 2)) w' := fun w' => sl_lo b o _ _ 2 w' (by omega) (by omega) rfl
  have h1 : ¬ (d.length : Int) < 4 := by omega
  obtain ⟨x, hx⟩ : ∃ x, x = Dl.two d 0 := ⟨_, rfl⟩
  obtain ⟨y, hy⟩ : ∃ y, y = Dl.two d 2 := ⟨_, rfl⟩
  rw [← hx] at C1 ⊢
  rw [← hy] at C2 ⊢
  generalize d.length = n at *
  clear hx hy hb h
  go_enter Tryz.func95, Tryz.ntmps95
  go_wp2
  go_quiet (first | (go_at_call 109; with_reducible exact Calls.quiet_of (C1 _)) | (go_at_call 109; with_reducible exact Calls.quiet_of (C2 _)))
  go_wp2
  go_ret3
  exact ⟨rfl, _, rfl⟩
end Go.Proofs.YtolfphfdeccleaaGreatDoor
