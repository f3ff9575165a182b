/- Which object bytes are (said plainly), and what stands while object.read reads it. -/
import Derived.Test.YtgcgomdhdgjpdaaGreatDoorMOb22s
namespace Go.Proofs.YtgcgomdhdgjpdaaGreatDoor
open Go Go.RowKit
def zid : List Nat := List.replicate 32 0
theorem zid_id : Id32 zid := ⟨by simp [zid], fun i => by
 unfold zid
 rw [List.getD_eq_getElem?_getD, List.getElem?_replicate]
 split <;> simp⟩
def entOf (n : Nat) (ys : List Nat) : Ent := ⟨textOf (ys.take n), (ys.drop n).take 32⟩
def entsGo : Nat → List Ent → List Nat → Option (List Ent)
 | _, es, [] => some es
 | 0, _, _ :: _ => none
 | f + 1, es, n :: ys => if ys.length < n + 32 then none else entsGo f (es ++ [entOf n ys]) (ys.drop (n + 32))
theorem entsGo_more : ∀ (f f' : Nat) (es : List Ent) (ys : List Nat), ys.length ≤ f → ys.length ≤ f' → entsGo f es ys = entsGo f' es ys
 | f, f', es, [], _, _ => by cases f <;> cases f' <;> rfl
 | 0, _, _, _ :: _, h, _ => by simp at h
 | _, 0, _, _ :: _, _, h => by simp at h
 | f + 1, f' + 1, es, n :: ys, h, h' => by
  unfold entsGo
  split
  ·rfl
  ·exact entsGo_more f f' _ _ (by rw [List.length_drop]; simp at h; omega) (by rw [List.length_drop]; simp at h'; omega)
def entsOf (es : List Ent) (ys : List Nat) : Option (List Ent) := entsGo ys.length es ys
theorem entsOf_nil (es : List Ent) : entsOf es [] = some es := rfl
theorem entsOf_short {es : List Ent} {n : Nat} {ys : List Nat} (h : ys.length < n + 32) : entsOf es (n :: ys) = none := by
 unfold entsOf
 rw [List.length_cons, entsGo, if_pos h]
theorem entsOf_next {es : List Ent} {n : Nat} {ys : List Nat} (h : n + 32 ≤ ys.length) : entsOf es (n :: ys) = entsOf (es ++ [entOf n ys]) (ys.drop (n + 32)) := by
 unfold entsOf
 rw [List.length_cons, entsGo, if_neg (by omega)]
 exact entsGo_more _ _ _ _ (by rw [List.length_drop]; omega) (Nat.le_refl _)
def parsGo : Nat → List (List Nat) → List Nat → Option (List (List Nat) × List Nat)
 | 0, ps, ys => some (ps, ys)
 | n + 1, ps, ys => if ys.length < 32 then none else parsGo n (ps ++ [ys.take 32]) (ys.drop 32)
inductive Prs where
 | bad (e : Nat)
 | ok (o : Ob)
noncomputable def Prs.fin (o : Ob) : Prs := if o.right then .ok o else .bad 4
noncomputable def Ob.parse : List Nat → Prs
 | [] => .bad 2
 | c :: ys =>
  if c = 98 then Prs.fin ⟨1, ys, [], zid, []⟩
  else if c = 116 then (match entsOf [] ys with | none => .bad 2 | some es => Prs.fin ⟨2, [], es, zid, []⟩)
  else if c = 99 then (if ys.length < 33 then .bad 2 else match parsGo (ys.getD 32 0) [] (ys.drop 33) with | none => .bad 2 | some q => Prs.fin ⟨3, q.2, [], ys.take 32, q.1⟩)
  else if c = 103 then (if ys.length < 32 then .bad 2 else Prs.fin ⟨4, ys.drop 32, [], ys.take 32, []⟩)
  else .bad 7
structure Rst (w0 w w' : World) (i r g : Nat) (cs : Array Value) (ys : List Nat) : Prop where
 at_ : InAt w0 w' i r ys
 ob : Blk w' g 183 cs
 res : Blk w' w.heap.size 183 zOc
 kpt : Kpt (fun b => b = r) w w'
 old : r < w.heap.size ∧ i < w.heap.size
 gt : w.heap.size < g
section
variable {w0 w w' w'' : World} {i r g : Nat} {cs : Array Value} {ys zs : List Nat}
theorem Rst.read (h : Rst w0 w w' i r g cs ys) (hg : w'.grownBy w'' (some r)) (hi : InAt w0 w'' i r zs) : Rst w0 w w'' i r g cs zs :=
 ⟨hi, h.ob.grown hg (fun e => by injection e with e; have := h.gt; have := h.old.1; omega), h.res.grown hg (fun e => by injection e with e; have := h.old.1; omega), h.kpt.trans (Kpt.of_grown hg rfl), h.old, h.gt⟩
theorem Rst.below (h : Rst w0 w w' i r g cs ys) (hb : Below w'.heap.size w' w'') : Rst w0 w w'' i r g cs ys :=
 ⟨h.at_.below hb, h.ob.below hb h.ob.lt, h.res.below hb h.res.lt, h.kpt.trans (Kpt.of_below hb), h.old, h.gt⟩
theorem Rst.put (h : Rst w0 w w' i r g cs ys) (hg : w'.grownBy w'' (some g)) {cs2 : Array Value} (hb : Blk w'' g 183 cs2) : Rst w0 w w'' i r g cs2 ys := by
 obtain ⟨v, k, hr, hw, h1, h2⟩ := h.at_
 have := h.gt
 have := h.old.1
 have := h.old.2
 refine ⟨⟨v, ⟨k.i_.grown hg (fun e => by injection e with e; omega), k.r_.grown hg (fun e => by injection e with e; omega), k.ne⟩, hr, below_of_only hw hg (by omega), h1, h2⟩, hb, h.res.grown hg (fun e => by injection e with e; omega), ?_, h.old, h.gt⟩
 exact ⟨hg.os.trans h.kpt.os, hg.tape.trans h.kpt.tape, hg.output.trans h.kpt.output, Nat.le_trans h.kpt.size hg.size, fun b hb hs => (hg.block b (Nat.lt_of_lt_of_le hb h.kpt.size) (fun e => by injection e with e; omega)).trans (h.kpt.block b hb hs)⟩
theorem Rst.own (h : Rst w0 w w' i r g cs ys) {B n z : Nat} {e : TypeId} {v : Value} {us : List Value} (ho : w'.ownsRow B e z v n us) (hB : g < B) (hg : w'.grownBy w'' v.ownBlock) : Rst w0 w w'' i r g cs ys := by
 have n0 : ∀ x, x < B → some x ≠ v.ownBlock := fun x hx => own_ne' ho hx
 obtain ⟨u, k, hr, hw, h1, h2⟩ := h.at_
 have := h.gt
 have := h.old.1
 have := h.old.2
 refine ⟨⟨u, ⟨k.i_.grown hg (n0 _ (by omega)), k.r_.grown hg (n0 _ (by omega)), k.ne⟩, hr, below_own hw ho (by omega) hg, h1, h2⟩, h.ob.grown hg (n0 _ hB), h.res.grown hg (n0 _ (by omega)), ?_, h.old, h.gt⟩
 exact ⟨hg.os.trans h.kpt.os, hg.tape.trans h.kpt.tape, hg.output.trans h.kpt.output, Nat.le_trans h.kpt.size hg.size, fun b hb hs => (hg.block b (Nat.lt_of_lt_of_le hb h.kpt.size) (n0 _ (by omega))).trans (h.kpt.block b hb hs)⟩
theorem Rst.fails (h : Rst w0 w w' i r g cs ys) {er : Value} {e : Ending} (hf : Fails w' r er e w'') : e = .panicked [{ v := stopV r, recovered := false }] ∧ Dead w'' r er ∧ Kpt (fun b => b = r) w w'' :=
 ⟨hf.1, hf.2.1, h.kpt.trans (Kpt.of_grown hf.2.2 rfl)⟩
end
theorem grown_cell (w : World) (g k : Nat) (v : Value) : w.grownBy (w.setCell ⟨g, k, none⟩ v) (some g) := only_setCell (World.grownBy.refl w _) (Or.inl rfl) v
theorem grown_cells (g : Nat) : ∀ (vs : List Value) (o : Nat) (w a : World), a.grownBy w (some g) → a.grownBy (w.setCells g o vs) (some g)
 | [], _, _, _, h => h
 | v :: vs, o, _w, a, h => grown_cells g vs (o + 1) _ a (only_setCell h (Or.inl rfl) v)
theorem blk_cells {t g : Nat} (post : List Value) : ∀ (vs old pre : List Value) (o : Nat) (w : World), old.length = vs.length → pre.length = o → Blk w g t (pre ++ old ++ post).toArray → Blk (w.setCells g o vs) g t (pre ++ vs ++ post).toArray
 | [], old, pre, o, w, h, _, hb => by
  obtain rfl : old = [] := List.eq_nil_of_length_eq_zero h
  exact hb
 | v :: vs, [], pre, o, w, h, _, hb => by simp at h
 | v :: vs, u :: old, pre, o, w, h, hp, hb => by
  have e : (pre ++ u :: old ++ post).toArray.setIfInBounds o v = ((pre ++ [v]) ++ old ++ post).toArray := by
   apply Array.ext'
   rw [Array.toList_setIfInBounds]
   show (pre ++ u :: old ++ post).set o v = _
   rw [List.append_assoc, List.set_append_right _ _ (by omega), show o - pre.length = 0 by omega]
   simp
  have h1 := hb.set_ o v
  rw [e] at h1
  have h2 := blk_cells post vs old (pre ++ [v]) (o + 1) _ (by simpa using h) (by simp; omega) h1
  rw [World.setCells]
  rwa [show pre ++ [v] ++ vs ++ post = pre ++ v :: vs ++ post by simp] at h2
theorem there_of {w : World} {t g o n : Nat} {cs : Array Value} (hb : Blk w g t cs) (h : o + n ≤ cs.size) : w.there g o n := fun j hj => by
 rw [hb.cell, hb.frozen]
 exact ⟨by rw [Array.getElem?_eq_getElem (by omega)]; rfl, rfl⟩
theorem cellsOb_k1 (k : Int) (t e p v : Value) (x : List Nat) : (cellsOb k t e p x).toArray.setIfInBounds 1 v = (cellsOb k v e p x).toArray := by
 apply Array.ext'; rw [Array.toList_setIfInBounds]; rfl
theorem cellsOb_k2 (k : Int) (t e p v : Value) (x : List Nat) : (cellsOb k t e p x).toArray.setIfInBounds 2 v = (cellsOb k t v p x).toArray := by
 apply Array.ext'; rw [Array.toList_setIfInBounds]; rfl
theorem cellsOb_k35 (k : Int) (t e p v : Value) (x : List Nat) (hx : x.length = 32) : (cellsOb k t e p x).toArray.setIfInBounds 35 v = (cellsOb k t e v x).toArray := by
 apply Array.ext'
 rw [Array.toList_setIfInBounds]
 show (.int .i64 k :: t :: e :: (cellsB x ++ [p])).set 35 v = .int .i64 k :: t :: e :: (cellsB x ++ [v])
 rw [show (35 : Nat) = 32 + 1 + 1 + 1 from rfl, List.set_cons_succ, List.set_cons_succ, List.set_cons_succ, List.set_append_right _ _ (by rw [cellsB_len]; omega), cellsB_len, hx]
 rfl
theorem zOc_cells : zOc = (cellsOb 0 nilV nilV nilV zid).toArray := by kernel_rfl
theorem obj_places : (Tryz.prog.fieldsOf 183).toList.mapM (fun f => (Tryz.prog.info? f.type).map fun i => (f.offset, i.size)) = some [(0, 1), (1, 1), (2, 1), (3, 32), (35, 1)] := by kernel_rfl
theorem obj_zero : ((Tryz.prog.info? 183).bind (·.zero)).map (·.cells) = some (cellsOb 0 nilV nilV nilV zid).toArray := by kernel_rfl
theorem iobj_under : Tryz.prog.underlying 183 = some (.struct (Tryz.prog.fieldsOf 183)) := by kernel_rfl
theorem obj_built (k : Int) : Tryz.prog.built 183 [(0, .int .i64 k)] = some (cellsOb k nilV nilV nilV zid).toArray := by
 rw [built_of iobj_under obj_zero obj_places]
 exact fill_part (fun i => ([(0, 1), (1, 1), (2, 1), (3, 32), (35, 1)] : List (Nat × Nat)).toArray[i]?) 0 0 1 (.int .i64 k) [] [.int .i64 k] [.int .i64 0] [] (nilV :: nilV :: (cellsB zid ++ [nilV])) rfl rfl rfl rfl rfl
structure ObO (m : Nat) (w : World) (o : Ob) (cs : Array Value) (T : Option Addr) (tc : Nat) (E : Option Addr) (ec : Nat) (P : Option Addr) (pc : Nat) : Prop where
 cells : cs = (cellsOb o.kind (.slice T o.text.length tc) (.slice E o.ents.length ec) (.slice P o.pars.length pc) o.target).toArray
 text : w.ownsRow m 5 1 (.slice T o.text.length tc) o.text.length (cellsB o.text)
 ents : w.ownsRow m 245 33 (.slice E o.ents.length ec) o.ents.length (cellsE o.ents)
 pars : w.ownsRow m 41 32 (.slice P o.pars.length pc) o.pars.length (cellsP o.pars)
theorem own_kpt {m z n : Nat} {w w' : World} {e : TypeId} {v : Value} {us : List Value} (h : w.ownsRow m e z v n us) (k : Kpt (fun b => b < m) w w') : w'.ownsRow m e z v n us := by
 refine ⟨h.1, ?_⟩
 rcases h.2 with hn | ⟨g, cap, cur, rfl, hb, hgg, rest⟩
 ·exact .inl hn
 ·refine .inr ⟨g, cap, cur, rfl, hb, ?_, rest⟩
  rw [k.block g (Array.getElem?_eq_some_iff.1 hgg).1 (by omega)]
  exact hgg
theorem ObO.kept {m : Nat} {w w' : World} {o : Ob} {cs : Array Value} {T E P : Option Addr} {tc ec pc : Nat} (h : ObO m w o cs T tc E ec P pc) (k : Kpt (fun b => b < m) w w') : ObO m w' o cs T tc E ec P pc :=
 ⟨h.cells, own_kpt h.text k, own_kpt h.ents k, own_kpt h.pars k⟩
theorem own_low {w : World} {m m' z n : Nat} {e : TypeId} {v : Value} {us : List Value} (h : w.ownsRow m e z v n us) (hm : m' ≤ m) : w.ownsRow m' e z v n us := by
 refine ⟨h.1, ?_⟩
 rcases h.2 with hn | ⟨g, cap, cur, h1, h2, h3⟩
 ·exact .inl hn
 ·exact .inr ⟨g, cap, cur, h1, by omega, h3⟩
theorem rd_own {w : World} {m : Nat} {v : Value} {xs : List Nat} (h : w.ownsRow m 5 1 v xs.length (cellsB xs)) : Rd w v xs := by
 rcases h.2 with ⟨rfl, h0⟩ | ⟨g, cap, cur, rfl, _, hg, hc, _⟩
 ·have : xs = [] := List.eq_nil_of_length_eq_zero h0
  subst this
  exact ⟨none, 0, rfl, Nat.le_refl _, fun h => absurd h (by simp)⟩
 ·refine ⟨_, cap, rfl, hc, fun _ => ⟨g, 0, rfl, (Array.getElem?_eq_some_iff.1 hg).1, fun i hi => ?_⟩⟩
  have h1 := h.cells (g := g) rfl i _ (cellsB_get hi)
  rwa [Addr.add_mid] at h1
theorem ObO.obc {m : Nat} {w : World} {o : Ob} {cs : Array Value} {T E P : Option Addr} {tc ec pc : Nat} (h : ObO m w o cs T tc E ec P pc) : ObC w o cs T tc E ec P pc :=
 ⟨h.cells, rd_own h.text, rdk_own h.ents, rdk_own h.pars⟩
def ReadPost (xs : List Nat) (a : Nat → Addr) (w0 w : World) (i r : Nat) (e : Ending) (w' : World) : Prop :=
 (∀ c, Ob.parse xs = .bad c → e = .panicked [{ v := stopV r, recovered := false }] ∧ Dead w' r (ev (a (c - 1))) ∧ Kpt (fun b => b = r) w w') ∧
 (∀ o, Ob.parse xs = .ok o → ∃ cs T tc E ec P pc, e = .returned (.agg cs) ∧ o.Fit ∧ o.Held ∧ ObO w.heap.size w' o cs T tc E ec P pc ∧ InAt w0 w' i r [] ∧ Kpt (fun b => b = r) w w')
theorem post_bad {xs : List Nat} {a : Nat → Addr} {w0 w w' : World} {i r c : Nat} {e : Ending} (hp : Ob.parse xs = .bad c) (h : e = .panicked [{ v := stopV r, recovered := false }] ∧ Dead w' r (ev (a (c - 1))) ∧ Kpt (fun b => b = r) w w') : ReadPost xs a w0 w i r e w' :=
 ⟨fun c' h' => (by rw [hp] at h'; injection h' with h'; subst h'; exact h), fun o h' => (by rw [hp] at h'; cases h')⟩
theorem post_ok {xs : List Nat} {a : Nat → Addr} {w0 w w' : World} {i r : Nat} {e : Ending} {o : Ob} {cs : Array Value} {T E P : Option Addr} {tc ec pc : Nat} (hp : Ob.parse xs = .ok o) (he : e = .returned (.agg cs)) (hf : o.Fit) (hd : o.Held) (ho : ObO w.heap.size w' o cs T tc E ec P pc) (hi : InAt w0 w' i r []) (hk : Kpt (fun b => b = r) w w') : ReadPost xs a w0 w i r e w' :=
 ⟨fun c' h' => (by rw [hp] at h'; cases h'), fun o' h' => (by rw [hp] at h'; injection h' with h'; subst h'; exact ⟨cs, T, tc, E, ec, P, pc, he, hf, hd, ho, hi, hk⟩)⟩
def PSents (w : World) (a : Nat → Addr) : Prop := w.cell? ⟨3, 0, none⟩ = some (ev (a 1)) ∧ w.cell? ⟨0, 0, none⟩ = some (ev (a 3)) ∧ w.cell? ⟨7, 0, none⟩ = some (ev (a 6))
theorem PSents.at_ {w0 w : World} {a : Nat → Addr} (h : PSents w0 a) (hb : Below w0.heap.size w0 w) : PSents w a :=
 ⟨(hb.cell (block_lt_of_cell h.1)).trans h.1, (hb.cell (block_lt_of_cell h.2.1)).trans h.2.1, (hb.cell (block_lt_of_cell h.2.2)).trans h.2.2⟩
end Go.Proofs.YtgcgomdhdgjpdaaGreatDoor
