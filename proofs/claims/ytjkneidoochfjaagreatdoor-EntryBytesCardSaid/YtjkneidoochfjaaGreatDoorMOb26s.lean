/- Which object bytes are (said plainly), and what stands while object.read reads it. -/
import Derived.Test.YtjkneidoochfjaaGreatDoorMEnT4s
namespace Go.Proofs.YtjkneidoochfjaaGreatDoor
open Go Go.RowKit
def zid : List Nat := List.replicate 32 0
theorem zid_id : Id32 zid := ⟨by simp [zid], fun i => by
  unfold zid
  rw [List.getD_eq_getElem?_getD, List.getElem?_replicate]
  split <;> simp⟩
/-- the entry at a place -/
def entOf (n : Nat) (ys : List Nat) : Ent := ⟨textOf (ys.take n), (ys.drop n).take 32⟩
/-- the entries of bytes, one after another -/
def entsGo : Nat → List Ent → List Nat → Option (List Ent)
  | _, es, [] => some es
  | 0, _, _ :: _ => none
  | f + 1, es, n :: ys => if ys.length < n + 32 then none else entsGo f (es ++ [entOf n ys]) (ys.drop (n + 32))
theorem entsGo_more : ∀ (f f' : Nat) (es : List Ent) (ys : List Nat), ys.length ≤ f → ys.length ≤ f' → entsGo f es ys = entsGo f' es ys
  | f, f', es, [], _, _ => by cases f <;> cases f' <;> rfl
  | 0, _, _, _ :: _, h, _ => by simp at h
  | _, 0, _, _ :: _, _, h => by simp at h
  | f + 1, f' + 1, es, n :: ys, h, h' => by
    unfold entsGo
    split
    · rfl
    · exact entsGo_more f f' _ _ (by rw [List.length_drop]; simp at h; omega) (by rw [List.length_drop]; simp at h'; omega)
def entsOf (es : List Ent) (ys : List Nat) : Option (List Ent) := entsGo ys.length es ys
theorem entsOf_nil (es : List Ent) : entsOf es [] = some es := rfl
theorem entsOf_short {es : List Ent} {n : Nat} {ys : List Nat} (h : ys.length < n + 32) : entsOf es (n :: ys) = none := by
  unfold entsOf
  rw [List.length_cons, entsGo, if_pos h]
theorem entsOf_next {es : List Ent} {n : Nat} {ys : List Nat} (h : n + 32 ≤ ys.length) : entsOf es (n :: ys) = entsOf (es ++ [entOf n ys]) (ys.drop (n + 32)) := by
  unfold entsOf
  rw [List.length_cons, entsGo, if_neg (by omega)]
  exact entsGo_more _ _ _ _ (by rw [List.length_drop]; omega) (Nat.le_refl _)
/-- so many ids, one after another, and what is left -/
def parsGo : Nat → List (List Nat) → List Nat → Option (List (List Nat) × List Nat)
  | 0, ps, ys => some (ps, ys)
  | n + 1, ps, ys => if ys.length < 32 then none else parsGo n (ps ++ [ys.take 32]) (ys.drop 32)
inductive Prs where
  | bad (e : Nat)
  | ok (o : Ob)
noncomputable def Prs.fin (o : Ob) : Prs := if o.right then .ok o else .bad 4
/-- the object that bytes are -/
noncomputable def Ob.parse : List Nat → Prs
  | [] => .bad 2
  | c :: ys =>
    if c = 98 then Prs.fin ⟨1, ys, [], zid, []⟩
    else if c = 116 then (match entsOf [] ys with | none => .bad 2 | some es => Prs.fin ⟨2, [], es, zid, []⟩)
    else if c = 99 then (if ys.length < 33 then .bad 2 else match parsGo (ys.getD 32 0) [] (ys.drop 33) with | none => .bad 2 | some q => Prs.fin ⟨3, q.2, [], ys.take 32, q.1⟩)
    else if c = 103 then (if ys.length < 32 then .bad 2 else Prs.fin ⟨4, ys.drop 32, [], ys.take 32, []⟩)
    else .bad 7
/-- What stands while read goes on: the reading, the object at g, the result's place. -/
structure Rst (w0 w w' : World) (i r g : Nat) (cs : Array Value) (ys : List Nat) : Prop where
  at_ : InAt w0 w' i r ys
  ob : Blk w' g 120 cs
  res : Blk w' w.heap.size 120 zOc
  kpt : Kpt (fun b => b = r) w w'
  old : r < w.heap.size ∧ i < w.heap.size
  gt : w.heap.size < g
section
variable {w0 w w' w'' : World} {i r g : Nat} {cs : Array Value} {ys zs : List Nat}
theorem Rst.read (h : Rst w0 w w' i r g cs ys) (hg : w'.grownBy w'' (some r)) (hi : InAt w0 w'' i r zs) : Rst w0 w w'' i r g cs zs :=
  ⟨hi, h.ob.grown hg (fun e => by injection e with e; have := h.gt; have := h.old.1; omega), h.res.grown hg (fun e => by injection e with e; have := h.old.1; omega), h.kpt.trans (Kpt.of_grown hg rfl), h.old, h.gt⟩
theorem Rst.below (h : Rst w0 w w' i r g cs ys) (hb : Below w'.heap.size w' w'') : Rst w0 w w'' i r g cs ys :=
  ⟨h.at_.below hb, h.ob.below hb h.ob.lt, h.res.below hb h.res.lt, h.kpt.trans (Kpt.of_below hb), h.old, h.gt⟩
theorem Rst.put (h : Rst w0 w w' i r g cs ys) (hg : w'.grownBy w'' (some g)) {cs2 : Array Value} (hb : Blk w'' g 120 cs2) : Rst w0 w w'' i r g cs2 ys := by
  obtain ⟨v, k, hr, hw, h1, h2⟩ := h.at_
  have := h.gt
  have := h.old.1
  have := h.old.2
  refine ⟨⟨v, ⟨k.i_.grown hg (fun e => by injection e with e; omega), k.r_.grown hg (fun e => by injection e with e; omega), k.ne⟩, hr, below_of_only hw hg (by omega), h1, h2⟩, hb, h.res.grown hg (fun e => by injection e with e; omega), ?_, h.old, h.gt⟩
  exact ⟨hg.os.trans h.kpt.os, hg.tape.trans h.kpt.tape, hg.output.trans h.kpt.output, Nat.le_trans h.kpt.size hg.size, fun b hb hs => (hg.block b (Nat.lt_of_lt_of_le hb h.kpt.size) (fun e => by injection e with e; omega)).trans (h.kpt.block b hb hs)⟩
theorem Rst.own (h : Rst w0 w w' i r g cs ys) {B n z : Nat} {e : TypeId} {v : Value} {us : List Value} (ho : w'.ownsRow B e z v n us) (hB : g < B) (hg : w'.grownBy w'' v.ownBlock) : Rst w0 w w'' i r g cs ys := by
  have n0 : ∀ x, x < B → some x ≠ v.ownBlock := fun x hx => own_ne' ho hx
  obtain ⟨u, k, hr, hw, h1, h2⟩ := h.at_
  have := h.gt
  have := h.old.1
  have := h.old.2
  refine ⟨⟨u, ⟨k.i_.grown hg (n0 _ (by omega)), k.r_.grown hg (n0 _ (by omega)), k.ne⟩, hr, below_own hw ho (by omega) hg, h1, h2⟩, h.ob.grown hg (n0 _ hB), h.res.grown hg (n0 _ (by omega)), ?_, h.old, h.gt⟩
  exact ⟨hg.os.trans h.kpt.os, hg.tape.trans h.kpt.tape, hg.output.trans h.kpt.output, Nat.le_trans h.kpt.size hg.size, fun b hb hs => (hg.block b (Nat.lt_of_lt_of_le hb h.kpt.size) (n0 _ (by omega))).trans (h.kpt.block b hb hs)⟩
theorem Rst.fails (h : Rst w0 w w' i r g cs ys) {er : Value} {e : Ending} (hf : Fails w' r er e w'') : e = .panicked [{ v := stopV r, recovered := false }] ∧ Dead w'' r er ∧ Kpt (fun b => b = r) w w'' :=
  ⟨hf.1, hf.2.1, h.kpt.trans (Kpt.of_grown hf.2.2 rfl)⟩
end
/-- one cell of the object set -/
theorem grown_cell (w : World) (g k : Nat) (v : Value) : w.grownBy (w.setCell ⟨g, k, none⟩ v) (some g) := only_setCell (World.grownBy.refl w _) (Or.inl rfl) v
theorem grown_cells (g : Nat) : ∀ (vs : List Value) (o : Nat) (w a : World), a.grownBy w (some g) → a.grownBy (w.setCells g o vs) (some g)
  | [], _, _, _, h => h
  | v :: vs, o, _w, a, h => grown_cells g vs (o + 1) _ a (only_setCell h (Or.inl rfl) v)
theorem blk_cells {t g : Nat} (post : List Value) : ∀ (vs old pre : List Value) (o : Nat) (w : World), old.length = vs.length → pre.length = o → Blk w g t (pre ++ old ++ post).toArray → Blk (w.setCells g o vs) g t (pre ++ vs ++ post).toArray
  | [], old, pre, o, w, h, _, hb => by
    obtain rfl : old = [] := List.eq_nil_of_length_eq_zero h
    exact hb
  | v :: vs, [], pre, o, w, h, _, hb => by simp at h
  | v :: vs, u :: old, pre, o, w, h, hp, hb => by
    have e : (pre ++ u :: old ++ post).toArray.setIfInBounds o v = ((pre ++ [v]) ++ old ++ post).toArray := by
      apply Array.ext'
      rw [Array.toList_setIfInBounds]
      show (pre ++ u :: old ++ post).set o v = _
      rw [List.append_assoc, List.set_append_right _ _ (by omega), show o - pre.length = 0 by omega]
      simp
    have h1 := hb.set_ o v
    rw [e] at h1
    have h2 := blk_cells post vs old (pre ++ [v]) (o + 1) _ (by simpa using h) (by simp; omega) h1
    rw [World.setCells]
    rwa [show pre ++ [v] ++ vs ++ post = pre ++ v :: vs ++ post by simp] at h2
theorem there_of {w : World} {t g o n : Nat} {cs : Array Value} (hb : Blk w g t cs) (h : o + n ≤ cs.size) : w.there g o n := fun j hj => by
  rw [hb.cell, hb.frozen]
  exact ⟨by rw [Array.getElem?_eq_getElem (by omega)]; rfl, rfl⟩
theorem cellsOb_k1 (k : Int) (t e p v : Value) (x : List Nat) : (cellsOb k t e p x).toArray.setIfInBounds 1 v = (cellsOb k v e p x).toArray := by
  apply Array.ext'; rw [Array.toList_setIfInBounds]; rfl
theorem cellsOb_k2 (k : Int) (t e p v : Value) (x : List Nat) : (cellsOb k t e p x).toArray.setIfInBounds 2 v = (cellsOb k t v p x).toArray := by
  apply Array.ext'; rw [Array.toList_setIfInBounds]; rfl
theorem cellsOb_k35 (k : Int) (t e p v : Value) (x : List Nat) (hx : x.length = 32) : (cellsOb k t e p x).toArray.setIfInBounds 35 v = (cellsOb k t e v x).toArray := by
  apply Array.ext'
  rw [Array.toList_setIfInBounds]
  show (.int .i64 k :: t :: e :: (cellsB x ++ [p])).set 35 v = .int .i64 k :: t :: e :: (cellsB x ++ [v])
  rw [show (35 : Nat) = 32 + 1 + 1 + 1 from rfl, List.set_cons_succ, List.set_cons_succ, List.set_cons_succ, List.set_append_right _ _ (by rw [cellsB_len]; omega), cellsB_len, hx]
  rfl
theorem zOc_cells : zOc = (cellsOb 0 nilV nilV nilV zid).toArray := by kernel_rfl
theorem obj_places : (Tryz.prog.fieldsOf 120).toList.mapM (fun f => (Tryz.prog.info? f.type).map fun i => (f.offset, i.size)) = some [(0, 1), (1, 1), (2, 1), (3, 32), (35, 1)] := by kernel_rfl
theorem obj_zero : ((Tryz.prog.info? 120).bind (·.zero)).map (·.cells) = some (cellsOb 0 nilV nilV nilV zid).toArray := by kernel_rfl
theorem iobj_under : Tryz.prog.underlying 120 = some (.struct (Tryz.prog.fieldsOf 120)) := by kernel_rfl
theorem obj_built (k : Int) : Tryz.prog.built 120 [(0, .int .i64 k)] = some (cellsOb k nilV nilV nilV zid).toArray := by
  rw [built_of iobj_under obj_zero obj_places]
  exact fill_part (fun i => ([(0, 1), (1, 1), (2, 1), (3, 32), (35, 1)] : List (Nat × Nat)).toArray[i]?) 0 0 1 (.int .i64 k) [] [.int .i64 k] [.int .i64 0] [] (nilV :: nilV :: (cellsB zid ++ [nilV])) rfl rfl rfl rfl rfl
/-- What read leaves of an object that is right: its parts lie above m. -/
structure ObO (m : Nat) (w : World) (o : Ob) (cs : Array Value) (T : Option Addr) (tc : Nat) (E : Option Addr) (ec : Nat) (P : Option Addr) (pc : Nat) : Prop where
  cells : cs = (cellsOb o.kind (.slice T o.text.length tc) (.slice E o.ents.length ec) (.slice P o.pars.length pc) o.target).toArray
  text : w.ownsRow m 5 1 (.slice T o.text.length tc) o.text.length (cellsB o.text)
  ents : w.ownsRow m 170 33 (.slice E o.ents.length ec) o.ents.length (cellsE o.ents)
  pars : w.ownsRow m 54 32 (.slice P o.pars.length pc) o.pars.length (cellsP o.pars)
theorem own_kpt {m z n : Nat} {w w' : World} {e : TypeId} {v : Value} {us : List Value} (h : w.ownsRow m e z v n us) (k : Kpt (fun b => b < m) w w') : w'.ownsRow m e z v n us := by
  refine ⟨h.1, ?_⟩
  rcases h.2 with hn | ⟨g, cap, cur, rfl, hb, hgg, rest⟩
  · exact .inl hn
  · refine .inr ⟨g, cap, cur, rfl, hb, ?_, rest⟩
    rw [k.block g (Array.getElem?_eq_some_iff.1 hgg).1 (by omega)]
    exact hgg
theorem ObO.kept {m : Nat} {w w' : World} {o : Ob} {cs : Array Value} {T E P : Option Addr} {tc ec pc : Nat} (h : ObO m w o cs T tc E ec P pc) (k : Kpt (fun b => b < m) w w') : ObO m w' o cs T tc E ec P pc :=
  ⟨h.cells, own_kpt h.text k, own_kpt h.ents k, own_kpt h.pars k⟩
theorem own_low {w : World} {m m' z n : Nat} {e : TypeId} {v : Value} {us : List Value} (h : w.ownsRow m e z v n us) (hm : m' ≤ m) : w.ownsRow m' e z v n us := by
  refine ⟨h.1, ?_⟩
  rcases h.2 with hn | ⟨g, cap, cur, h1, h2, h3⟩
  · exact .inl hn
  · exact .inr ⟨g, cap, cur, h1, by omega, h3⟩
theorem rd_own {w : World} {m : Nat} {v : Value} {xs : List Nat} (h : w.ownsRow m 5 1 v xs.length (cellsB xs)) : Rd w v xs := by
  rcases h.2 with ⟨rfl, h0⟩ | ⟨g, cap, cur, rfl, _, hg, hc, _⟩
  · have : xs = [] := List.eq_nil_of_length_eq_zero h0
    subst this
    exact ⟨none, 0, rfl, Nat.le_refl _, fun h => absurd h (by simp)⟩
  · refine ⟨_, cap, rfl, hc, fun _ => ⟨g, 0, rfl, (Array.getElem?_eq_some_iff.1 hg).1, fun i hi => ?_⟩⟩
    have h1 := h.cells (g := g) rfl i _ (cellsB_get hi)
    rwa [Addr.add_mid] at h1
theorem ObO.obc {m : Nat} {w : World} {o : Ob} {cs : Array Value} {T E P : Option Addr} {tc ec pc : Nat} (h : ObO m w o cs T tc E ec P pc) : ObC w o cs T tc E ec P pc :=
  ⟨h.cells, rd_own h.text, rdk_own h.ents, rdk_own h.pars⟩
/-- What read answers. -/
def ReadPost (xs : List Nat) (a : Nat → Addr) (w0 w : World) (i r : Nat) (e : Ending) (w' : World) : Prop :=
  (∀ c, Ob.parse xs = .bad c → e = .panicked [{ v := stopV r, recovered := false }] ∧ Dead w' r (ev (a (c - 1))) ∧ Kpt (fun b => b = r) w w') ∧
  (∀ o, Ob.parse xs = .ok o → ∃ cs T tc E ec P pc, e = .returned (.agg cs) ∧ o.Fit ∧ o.Held ∧ ObO w.heap.size w' o cs T tc E ec P pc ∧ InAt w0 w' i r [] ∧ Kpt (fun b => b = r) w w')
theorem post_bad {xs : List Nat} {a : Nat → Addr} {w0 w w' : World} {i r c : Nat} {e : Ending} (hp : Ob.parse xs = .bad c) (h : e = .panicked [{ v := stopV r, recovered := false }] ∧ Dead w' r (ev (a (c - 1))) ∧ Kpt (fun b => b = r) w w') : ReadPost xs a w0 w i r e w' :=
  ⟨fun c' h' => (by rw [hp] at h'; injection h' with h'; subst h'; exact h), fun o h' => (by rw [hp] at h'; cases h')⟩
theorem post_ok {xs : List Nat} {a : Nat → Addr} {w0 w w' : World} {i r : Nat} {e : Ending} {o : Ob} {cs : Array Value} {T E P : Option Addr} {tc ec pc : Nat} (hp : Ob.parse xs = .ok o) (he : e = .returned (.agg cs)) (hf : o.Fit) (hd : o.Held) (ho : ObO w.heap.size w' o cs T tc E ec P pc) (hi : InAt w0 w' i r []) (hk : Kpt (fun b => b = r) w w') : ReadPost xs a w0 w i r e w' :=
  ⟨fun c' h' => (by rw [hp] at h'; cases h'), fun o' h' => (by rw [hp] at h'; injection h' with h'; subst h'; exact ⟨cs, T, tc, E, ec, P, pc, he, hf, hd, ho, hi, hk⟩)⟩
/-- The error values that reading an object may end by. -/
def PSents (w : World) (a : Nat → Addr) : Prop := w.cell? ⟨3, 0, none⟩ = some (ev (a 1)) ∧ w.cell? ⟨0, 0, none⟩ = some (ev (a 3)) ∧ w.cell? ⟨7, 0, none⟩ = some (ev (a 6))
theorem PSents.at_ {w0 w : World} {a : Nat → Addr} (h : PSents w0 a) (hb : Below w0.heap.size w0 w) : PSents w a :=
  ⟨(hb.cell (block_lt_of_cell h.1)).trans h.1, (hb.cell (block_lt_of_cell h.2.1)).trans h.2.1, (hb.cell (block_lt_of_cell h.2.2)).trans h.2.2⟩
end Go.Proofs.YtjkneidoochfjaaGreatDoor
/- object.read: no bytes, letters of no kind, blobs, tags. -/
namespace Go.Proofs.YtjkneidoochfjaaGreatDoor
open Go Go.RowKit
theorem InAt.all {w0 w : World} {i r : Nat} {xs : List Nat} (h : InAt w0 w i r xs) : r < w.heap.size ∧ i < w.heap.size ∧ w0.heap.size ≤ w.heap.size := by
  obtain ⟨v, k, hr, hw, h1, h3⟩ := h
  exact ⟨k.r_.lt, k.i_.lt, hw.size⟩
theorem Rst.start {w0 w w3 : World} {i r : Nat} {xs ys : List Nat} {cs : Array Value} (h : InAt w0 w i r xs) (hg : (w.alloc (.cells zOc 120)).grownBy w3 (some r)) (hi : InAt w0 w3 i r ys) {w4 : World} (h4 : w4 = (w3.alloc (.cells zOc 120)).setRow w3.heap.size cs) : Rst w0 w w4 i r w3.heap.size cs ys := by
  have hb : Below w3.heap.size w3 w4 := h4 ▸ below_row ((Below.refl _ _).alloc (Nat.le_refl _) _) (Nat.le_refl _) _
  have ha := h.all
  have hsz : w.heap.size + 1 ≤ w3.heap.size := by have := hg.size; simpa using this
  have hres : Blk w3 w.heap.size 120 zOc := (Blk.new w 120 zOc).grown hg (fun e => by injection e with e; omega)
  refine ⟨hi.below hb, h4 ▸ (Blk.new w3 120 zOc).row cs, hres.below hb hres.lt, ?_, ⟨ha.1, ha.2.1⟩, by omega⟩
  exact (Kpt.of_below ((Below.refl _ _).alloc (Nat.le_refl _) _)).trans ((Kpt.of_grown (S := fun b => b = r) hg rfl).trans (Kpt.of_below hb))
theorem Rst.done {w0 w w' w'' : World} {i r g : Nat} {cs : Array Value} {ys : List Nat} (h : Rst w0 w w' i r g cs ys) (hg : w'.grownBy w'' (some w.heap.size)) : InAt w0 w'' i r ys ∧ Kpt (fun b => b = r) w w'' := by
  obtain ⟨v, k, hr, hw, h1, h2⟩ := h.at_
  have := h.old.1
  have := h.old.2
  refine ⟨⟨v, ⟨k.i_.grown hg (fun e => by injection e with e; omega), k.r_.grown hg (fun e => by injection e with e; omega), k.ne⟩, hr, below_of_only hw hg (by omega), h1, h2⟩, ?_⟩
  exact ⟨hg.os.trans h.kpt.os, hg.tape.trans h.kpt.tape, hg.output.trans h.kpt.output, Nat.le_trans h.kpt.size hg.size, fun b hb hs => (hg.block b (Nat.lt_of_lt_of_le hb h.kpt.size) (fun e => by injection e with e; omega)).trans (h.kpt.block b hb hs)⟩
theorem ObO.below {m : Nat} {w w' : World} {o : Ob} {cs : Array Value} {T E P : Option Addr} {tc ec pc : Nat} (h : ObO m w o cs T tc E ec P pc) (hb : Below w.heap.size w w') : ObO m w' o cs T tc E ec P pc :=
  h.kept (Kpt.of_below hb)
theorem ObO.store {m g : Nat} {w w' : World} {o : Ob} {cs : Array Value} {T E P : Option Addr} {tc ec pc : Nat} (h : ObO (g + 1) w o cs T tc E ec P pc) (hm : m < g) (hg : w.grownBy w' (some m)) : ObO m w' o cs T tc E ec P pc :=
  ⟨h.cells, own_low (h.text.kept hg (own_far h.text (by omega))) (by omega), own_low (h.ents.kept hg (own_far h.ents (by omega))) (by omega), own_low (h.pars.kept hg (own_far h.pars (by omega))) (by omega)⟩
theorem ObO.one {m : Nat} {w : World} {o : Ob} {cs : Array Value} {T E P : Option Addr} {tc ec pc : Nat} (h : ObO m w o cs T tc E ec P pc) : cs.all (·.oneCell') = true := by
  rw [h.cells]
  refine arr_one fun v hv => ?_
  unfold cellsOb at hv
  rcases List.mem_cons.1 hv with rfl | hv; · rfl
  rcases List.mem_cons.1 hv with rfl | hv; · rfl
  rcases List.mem_cons.1 hv with rfl | hv; · rfl
  rcases List.mem_append.1 hv with hv | hv
  · exact cellsB_one _ v hv
  · rw [List.mem_singleton.1 hv]; rfl
abbrev kindS : ByteArray := ⟨#[98, 116, 99, 103]⟩
theorem kind_not : ∀ c : Fin 256, c.val ≠ 98 → c.val ≠ 116 → c.val ≠ 99 → c.val ≠ 103 → Lib.indexByte kindS.data.toList (((c.val : Nat) : Int).toNat.toUInt8) = -1 := by decide +kernel
theorem kind_at (c : Nat) (k : Int) (hk : Lib.indexByte kindS.data.toList (((c : Nat) : Int).toNat.toUInt8) = k) (w : World) : Calls Tryz.prog 91 #[.string kindS, .int .u8 (c : Int)] w fun e w' => e = .returned (.int .i64 k) ∧ w = w' :=
  (Any.strings_IndexByte ixb_lays kindS (c : Int) w).mono fun e w' h => by rw [hk] at h; exact ⟨h.1, h.2.symm⟩
theorem byte_of {xs : List Nat} (h : Oc.bytes xs) : Sha.Byte xs := fun i => by
  rcases Nat.lt_or_ge i xs.length with h1 | h1
  · rw [List.getD, List.getElem?_eq_getElem h1]
    exact h _ (List.getElem_mem h1)
  · rw [List.getD, List.getElem?_eq_none h1]; show 0 < 256; omega
theorem bytes_tail {c : Nat} {ys : List Nat} (h : Oc.bytes (c :: ys)) : Oc.bytes ys := fun x hx => h x (List.mem_cons_of_mem _ hx)
theorem id_take {ys : List Nat} (h : Oc.bytes ys) (hl : 32 ≤ ys.length) : Id32 (ys.take 32) := ⟨by rw [List.length_take]; omega, byte_of (Oc.bytes_take h 32)⟩
set_option maxRecDepth 100000 in
theorem oread_nil (i r : Nat) (a : Nat → Addr) (w0 w : World) (h : InAt w0 w i r []) (hS : PSents w0 a) :
    Calls Tryz.prog 90 #[.pointer (some ⟨i, 0, none⟩)] w fun e w' => ReadPost [] a w0 w i r e w' := by
  have hb : Below w.heap.size w (w.alloc (.cells zOc 120)) := (Below.refl _ _).alloc (Nat.le_refl _) _
  have CN := ibyte_short i r (a 1) w0 (w.alloc (.cells zOc 120)) (h.below hb) hS.1
  have HB := Lib.hid hb
  clear h hS hb
  go_enter Tryz.func90, Tryz.ntmps90
  go_wp2_with (go_at_call 59; refine pause ?_)
  unfold Paused
  change Calls _ _ _ (w.alloc (.cells zOc 120)) _
  refine CN.mono ?_
  rintro e w3 ⟨rfl, hd, hg⟩
  exact ⟨rfl, post_bad (c := 2) rfl ⟨rfl, hd, (Kpt.of_below HB.out).trans (Kpt.of_grown (S := fun b => b = r) hg rfl)⟩⟩
set_option maxRecDepth 100000 in
set_option maxHeartbeats 2000000 in
theorem oread_kind (i r : Nat) (c : Nat) (ys : List Nat) (a : Nat → Addr) (w0 w : World) (h : InAt w0 w i r (c :: ys)) (hb : Oc.bytes (c :: ys)) (hz : (c :: ys).length ≤ 300) (hS : PSents w0 a) (n1 : c ≠ 98) (n2 : c ≠ 116) (n3 : c ≠ 99) (n4 : c ≠ 103) :
    Calls Tryz.prog 90 #[.pointer (some ⟨i, 0, none⟩)] w fun e w' => ReadPost (c :: ys) a w0 w i r e w' := by
  have hc := hb c (List.mem_cons_self ..)
  have CI : ∀ w, Calls Tryz.prog 91 #[.string kindS, .int .u8 (c : Int)] w _ := fun w => kind_at c (-1) (kind_not ⟨c, hc⟩ n1 n2 n3 n4) w
  have q1 := small_conv c hc
  have HP := Lib.hid (show Ob.parse (c :: ys) = .bad 7 by simp only [Ob.parse, if_neg n1, if_neg n2, if_neg n3, if_neg n4])
  clear n1 n2 n3 n4
  have CN := ibyte_ok i r c ys w0 (w.alloc (.cells zOc 120)) (h.below ((Below.refl _ _).alloc (Nat.le_refl _) _)) hb
  have HB := Lib.hid hb
  have HZ := Lib.hid hz
  have HS := Lib.hid hS
  have HIN := Lib.hid h
  clear h hb hz hS
  go_enter Tryz.func90, Tryz.ntmps90
  go_wp2_with (go_at_call 59; refine pause ?_)
  unfold Paused
  change Calls _ _ _ (w.alloc (.cells zOc 120)) _
  refine CN.mono ?_
  rintro e w3 ⟨rfl, hi, hg⟩
  have HI3 := Lib.hid hi
  have HG3 := Lib.hid hg
  clear hi hg CN
  go_wp2_with (first
    | (go_at_call 91; refine (CI _).mono ?_; rintro e w' ⟨rfl, rfl⟩)
    | (with_reducible (show wpList _ _ _ (Oper.mk _ (Op.build _ _) _ _ _ _ :: _) _ _); refine pause ?_))
  unfold Paused
  refine wpList_buildK (by rfl) 120 _ (by rfl) _ (by kernel_rfl) _ (obj_built 0) ?_
  go_wp2_with (with_reducible (show wpList _ _ _ (Oper.mk _ (Op.store 120 _ _) _ _ _ _ :: _) _ _); refine pause ?_)
  unfold Paused
  change wpList _ _ _ _ _ (w3.alloc (.cells zOc 120))
  refine wpList_store_row (by rfl) 120 (.tmp 3) (.tmp 10) (by rfl) w3.heap.size (cellsOb 0 nilV nilV nilV zid).toArray (by rfl) (by rfl) 120 zOc (Blk.new w3 _ _) (by kernel_rfl) (by kernel_rfl) (by kernel_rfl) ?_
  have HRS := Lib.hid (Rst.start HIN.out HG3.out HI3.out (cs := (cellsOb 0 nilV nilV nilV zid).toArray) rfl)
  generalize World.setRow _ w3.heap.size (cellsOb 0 nilV nilV nilV zid).toArray = w4 at HRS ⊢
  generalize w3.heap.size = g at HRS ⊢
  have a0 : w4.cell? ⟨g, 0, none⟩ = some (.int .i64 0) := HRS.out.ob.cell 0
  clear CI
  obtain ⟨vq, kq, hrq, hwq, _, _⟩ := HRS.out.at_
  have pK := (HS.out.at_ hwq).2.2
  have CF := fail_any i r vq (a 6) w4 kq
  clear kq hrq hwq q1
  go_wp2_with (go_at_call 86; refine CF.mono ?_; rintro e w9 ⟨rfl, hd, hg⟩)
  exact ⟨rfl, post_bad HP.out (HRS.out.fails ⟨rfl, hd, hg⟩)⟩
set_option maxRecDepth 100000 in
set_option maxHeartbeats 2000000 in
theorem oread_blob (i r : Nat) (ys : List Nat) (a : Nat → Addr) (w0 w : World) (h : InAt w0 w i r (98 :: ys)) (hb : Oc.bytes (98 :: ys)) (hz : (98 :: ys).length ≤ 300) (hS : PSents w0 a) :
    Calls Tryz.prog 90 #[.pointer (some ⟨i, 0, none⟩)] w fun e w' => ReadPost (98 :: ys) a w0 w i r e w' := by
  have CI : ∀ w, Calls Tryz.prog 91 #[.string kindS, .int .u8 98] w _ := fun w => kind_at 98 0 (by decide +kernel) w
  have CN := ibyte_ok i r 98 ys w0 (w.alloc (.cells zOc 120)) (h.below ((Below.refl _ _).alloc (Nat.le_refl _) _)) hb
  have HB := Lib.hid hb
  have HZ := Lib.hid hz
  have HS := Lib.hid hS
  have HIN := Lib.hid h
  clear h hb hz hS
  go_enter Tryz.func90, Tryz.ntmps90
  go_wp2_with (go_at_call 59; refine pause ?_)
  unfold Paused
  change Calls _ _ _ (w.alloc (.cells zOc 120)) _
  refine CN.mono ?_
  rintro e w3 ⟨rfl, hi, hg⟩
  have HI3 := Lib.hid hi
  have HG3 := Lib.hid hg
  clear hi hg CN
  go_wp2_with (first
    | (go_at_call 91; refine (CI _).mono ?_; rintro e w' ⟨rfl, rfl⟩)
    | (with_reducible (show wpList _ _ _ (Oper.mk _ (Op.build _ _) _ _ _ _ :: _) _ _); refine pause ?_))
  unfold Paused
  refine wpList_buildK (by rfl) 120 _ (by rfl) _ (by kernel_rfl) _ (obj_built 1) ?_
  go_wp2_with (with_reducible (show wpList _ _ _ (Oper.mk _ (Op.store 120 _ _) _ _ _ _ :: _) _ _); refine pause ?_)
  unfold Paused
  change wpList _ _ _ _ _ (w3.alloc (.cells zOc 120))
  refine wpList_store_row (by rfl) 120 (.tmp 3) (.tmp 10) (by rfl) w3.heap.size (cellsOb 1 nilV nilV nilV zid).toArray (by rfl) (by rfl) 120 zOc (Blk.new w3 _ _) (by kernel_rfl) (by kernel_rfl) (by kernel_rfl) ?_
  have HRS := Lib.hid (Rst.start HIN.out HG3.out HI3.out (cs := (cellsOb 1 nilV nilV nilV zid).toArray) rfl)
  generalize World.setRow _ w3.heap.size (cellsOb 1 nilV nilV nilV zid).toArray = w4 at HRS ⊢
  generalize w3.heap.size = g at HRS ⊢
  have a0 : w4.cell? ⟨g, 0, none⟩ = some (.int .i64 1) := HRS.out.ob.cell 0
  clear CI
  have HYB := Lib.hid (bytes_tail HB.out)
  have HYL : Hid (ys.length ≤ 1000000) := Lib.hid (by have := HZ.out; simp only [List.length_cons] at this; omega)
  have CL := left_any i r ys w0 w4 HRS.out.at_
  have CX := onext_ok i r ys.length ys w0 w4 HRS.out.at_ HYB.out (Nat.le_refl _) HYL.out
  rw [List.take_of_length_le (Nat.le_refl _), List.drop_of_length_le (Nat.le_refl _)] at CX
  go_wp2_with (first
    | (go_at_call 104; refine CL.mono ?_; rintro e w' ⟨rfl, rfl⟩)
    | (go_at_call 103; refine pause ?_))
  unfold Paused
  refine CX.mono ?_
  rintro e w6 ⟨v, rfl, hv, hi, hg⟩
  obtain ⟨T, tc, rfl⟩ := own_slice hv
  have HV := Lib.hid (own_low hv (m' := g + 1) HRS.out.ob.lt)
  have HR6 := Lib.hid (HRS.out.read hg hi)
  have q1 : w6.cell? ⟨g, 1, none⟩ = some nilV := HR6.out.ob.cell 1
  have z1 : w6.frozen? ⟨g, 1, none⟩ = false := HR6.out.ob.frozen 1
  have HR7 : Hid (Rst w0 w (w6.setCell ⟨g, 1, none⟩ (.slice T ys.length tc)) i r g (cellsOb 1 (.slice T ys.length tc) nilV nilV zid).toArray []) := Lib.hid (HR6.out.put (grown_cell _ _ _ _) (by have := HR6.out.ob.set_ 1 (.slice T ys.length tc); rwa [cellsOb_k1] at this))
  have HO7 : Hid (ObO (g + 1) (w6.setCell ⟨g, 1, none⟩ (.slice T ys.length tc)) ⟨1, ys, [], zid, []⟩ (cellsOb 1 (.slice T ys.length tc) nilV nilV zid).toArray T tc none 0 none 0) := Lib.hid ⟨rfl, HV.out.kept (grown_cell _ _ _ _) (own_far HV.out (Nat.lt_succ_self g)), World.ownsRow_nil _ _ _ _, World.ownsRow_nil _ _ _ _⟩
  have HFT : Hid (Ob.Fit ⟨1, ys, [], zid, []⟩) := Lib.hid ⟨byte_of HYB.out, fun _ h => (by cases h), zid_id, fun _ h => (by cases h)⟩
  have HHD : Hid (Ob.Held ⟨1, ys, [], zid, []⟩) := Lib.hid ⟨fun _ h => (by cases h), by have := HYL.out; show ys.length ≤ _; omega⟩
  have HPR : Hid (Ob.parse (98 :: ys) = Prs.fin ⟨1, ys, [], zid, []⟩) := Lib.hid rfl
  clear hv hi hg CL CX
  go_wp2_with (with_reducible (show wpList _ _ _ (Oper.mk _ (Op.load 120 _) _ _ _ _ :: _) _ _); refine pause ?_)
  unfold Paused
  generalize w6.setCell ⟨g, 1, none⟩ (.slice T ys.length tc) = w7 at HR7 HO7 ⊢
  have CR := right_any _ _ _ _ _ _ _ _ w7 HO7.out.obc HFT.out HHD.out
  obtain ⟨br, hbr⟩ : ∃ br, br = Ob.right ⟨1, ys, [], zid, []⟩ := ⟨_, rfl⟩
  rw [← hbr] at CR
  have HBR := Lib.hid hbr
  clear hbr
  refine wpList_row_w (by rfl) 120 (.tmp 3) (by rfl) g (by rfl) 120 _ _ HR7.out.ob Tryz.underlying120 (by rfl) (by rw [cellsOb_size _ _ _ _ _ HFT.out.target.1]; kernel_rfl) ?_
  go_wp2_with (go_at_call 105; refine pause ?_)
  unfold Paused
  refine CR.mono ?_
  rintro e w8 ⟨rfl, hb8⟩
  have HRS8 := Lib.hid (HR7.out.below hb8)
  have HOO8 := Lib.hid (HO7.out.below hb8)
  clear hb8 CR
  cases br
  · obtain ⟨vq, kq, hrq, hwq, _, _⟩ := HRS8.out.at_
    have pF := (HS.out.at_ hwq).2.1
    have CF := fail_any i r vq (a 3) w8 kq
    have HPX := Lib.hid (HPR.out.trans (show Prs.fin ⟨1, ys, [], zid, []⟩ = .bad 4 by unfold Prs.fin; rw [← HBR.out]; rfl))
    clear kq hrq hwq
    go_wp2_with (go_at_call 86; refine CF.mono ?_; rintro e w9 ⟨rfl, hd, hg⟩)
    exact ⟨rfl, post_bad HPX.out (HRS8.out.fails ⟨rfl, hd, hg⟩)⟩
  · have HPX := Lib.hid (HPR.out.trans (show Prs.fin ⟨1, ys, [], zid, []⟩ = .ok ⟨1, ys, [], zid, []⟩ by unfold Prs.fin; rw [← HBR.out]; rfl))
    go_wp2_with (with_reducible (show wpList _ _ _ (Oper.mk _ (Op.load 120 _) _ _ _ _ :: _) _ _); refine pause ?_)
    unfold Paused
    refine wpList_row_w (by rfl) 120 (.tmp 3) (by rfl) g (by rfl) 120 _ _ HRS8.out.ob Tryz.underlying120 (by rfl) (by rw [cellsOb_size _ _ _ _ _ HFT.out.target.1]; kernel_rfl) ?_
    refine wpList_store_row (by rfl) 120 (.tmp 2) (.tmp 80) (by rfl) w.heap.size _ (by rfl) (by rfl) 120 zOc HRS8.out.res (by rw [cellsOb_size _ _ _ _ _ HFT.out.target.1]; kernel_rfl) (by rw [cellsOb_size _ _ _ _ _ HFT.out.target.1]; rfl) (ObO.one HOO8.out) ?_
    have HB9 := Lib.hid (HRS8.out.res.row (cellsOb 1 (.slice T ys.length tc) nilV nilV zid).toArray)
    have HG9 := Lib.hid (show w8.grownBy (w8.setRow w.heap.size (cellsOb 1 (.slice T ys.length tc) nilV nilV zid).toArray) (some w.heap.size) from only_setRow (World.grownBy.refl w8 _) (Or.inl rfl) _)
    generalize World.setRow _ w.heap.size (cellsOb 1 (.slice T ys.length tc) nilV nilV zid).toArray = w9 at HB9 HG9 ⊢
    go_wp2
    exact bodyPost_ret (v := .agg (cellsOb 1 (.slice T ys.length tc) nilV nilV zid).toArray) (resultsO (t := 2) rfl (by rfl) HB9.out (cellsOb_size _ _ _ _ _ HFT.out.target.1)) rfl (post_ok HPX.out rfl HFT.out HHD.out (HOO8.out.store HRS8.out.gt HG9.out) (HRS8.out.done HG9.out).1 (HRS8.out.done HG9.out).2)
set_option maxRecDepth 100000 in
set_option maxHeartbeats 2000000 in
theorem oread_tag0 (i r : Nat) (ys : List Nat) (a : Nat → Addr) (w0 w : World) (h : InAt w0 w i r (103 :: ys)) (hb : Oc.bytes (103 :: ys)) (hz : (103 :: ys).length ≤ 300) (hS : PSents w0 a) (hs : ys.length < 32) :
    Calls Tryz.prog 90 #[.pointer (some ⟨i, 0, none⟩)] w fun e w' => ReadPost (103 :: ys) a w0 w i r e w' := by
  have CI : ∀ w, Calls Tryz.prog 91 #[.string kindS, .int .u8 103] w _ := fun w => kind_at 103 3 (by decide +kernel) w
  have HSH := Lib.hid hs
  clear hs
  have CN := ibyte_ok i r 103 ys w0 (w.alloc (.cells zOc 120)) (h.below ((Below.refl _ _).alloc (Nat.le_refl _) _)) hb
  have HB := Lib.hid hb
  have HZ := Lib.hid hz
  have HS := Lib.hid hS
  have HIN := Lib.hid h
  clear h hb hz hS
  go_enter Tryz.func90, Tryz.ntmps90
  go_wp2_with (go_at_call 59; refine pause ?_)
  unfold Paused
  change Calls _ _ _ (w.alloc (.cells zOc 120)) _
  refine CN.mono ?_
  rintro e w3 ⟨rfl, hi, hg⟩
  have HI3 := Lib.hid hi
  have HG3 := Lib.hid hg
  clear hi hg CN
  go_wp2_with (first
    | (go_at_call 91; refine (CI _).mono ?_; rintro e w' ⟨rfl, rfl⟩)
    | (with_reducible (show wpList _ _ _ (Oper.mk _ (Op.build _ _) _ _ _ _ :: _) _ _); refine pause ?_))
  unfold Paused
  refine wpList_buildK (by rfl) 120 _ (by rfl) _ (by kernel_rfl) _ (obj_built 4) ?_
  go_wp2_with (with_reducible (show wpList _ _ _ (Oper.mk _ (Op.store 120 _ _) _ _ _ _ :: _) _ _); refine pause ?_)
  unfold Paused
  change wpList _ _ _ _ _ (w3.alloc (.cells zOc 120))
  refine wpList_store_row (by rfl) 120 (.tmp 3) (.tmp 10) (by rfl) w3.heap.size (cellsOb 4 nilV nilV nilV zid).toArray (by rfl) (by rfl) 120 zOc (Blk.new w3 _ _) (by kernel_rfl) (by kernel_rfl) (by kernel_rfl) ?_
  have HRS := Lib.hid (Rst.start HIN.out HG3.out HI3.out (cs := (cellsOb 4 nilV nilV nilV zid).toArray) rfl)
  generalize World.setRow _ w3.heap.size (cellsOb 4 nilV nilV nilV zid).toArray = w4 at HRS ⊢
  generalize w3.heap.size = g at HRS ⊢
  have a0 : w4.cell? ⟨g, 0, none⟩ = some (.int .i64 4) := HRS.out.ob.cell 0
  clear CI
  have HPR := Lib.hid (show Ob.parse (103 :: ys) = .bad 2 from (show (if ys.length < 32 then Prs.bad 2 else Prs.fin ⟨4, ys.drop 32, [], ys.take 32, []⟩) = _ from if_pos HSH.out))
  have pS := (HS.out.at_ HRS.out.at_.bel.1).1
  have CO := oid_short i r (a 1) ys w0 w4 HRS.out.at_ HSH.out pS
  go_wp2_with (go_at_call 61; refine CO.mono ?_; rintro e w9 ⟨rfl, hd, hg⟩)
  exact ⟨rfl, post_bad HPR.out (HRS.out.fails ⟨rfl, hd, hg⟩)⟩
set_option maxRecDepth 100000 in
set_option maxHeartbeats 2000000 in
theorem oread_tag (i r : Nat) (ys : List Nat) (a : Nat → Addr) (w0 w : World) (h : InAt w0 w i r (103 :: ys)) (hb : Oc.bytes (103 :: ys)) (hz : (103 :: ys).length ≤ 300) (hS : PSents w0 a) (hs : 32 ≤ ys.length) :
    Calls Tryz.prog 90 #[.pointer (some ⟨i, 0, none⟩)] w fun e w' => ReadPost (103 :: ys) a w0 w i r e w' := by
  have CI : ∀ w, Calls Tryz.prog 91 #[.string kindS, .int .u8 103] w _ := fun w => kind_at 103 3 (by decide +kernel) w
  have HSH := Lib.hid hs
  clear hs
  have CN := ibyte_ok i r 103 ys w0 (w.alloc (.cells zOc 120)) (h.below ((Below.refl _ _).alloc (Nat.le_refl _) _)) hb
  have HB := Lib.hid hb
  have HZ := Lib.hid hz
  have HS := Lib.hid hS
  have HIN := Lib.hid h
  clear h hb hz hS
  go_enter Tryz.func90, Tryz.ntmps90
  go_wp2_with (go_at_call 59; refine pause ?_)
  unfold Paused
  change Calls _ _ _ (w.alloc (.cells zOc 120)) _
  refine CN.mono ?_
  rintro e w3 ⟨rfl, hi, hg⟩
  have HI3 := Lib.hid hi
  have HG3 := Lib.hid hg
  clear hi hg CN
  go_wp2_with (first
    | (go_at_call 91; refine (CI _).mono ?_; rintro e w' ⟨rfl, rfl⟩)
    | (with_reducible (show wpList _ _ _ (Oper.mk _ (Op.build _ _) _ _ _ _ :: _) _ _); refine pause ?_))
  unfold Paused
  refine wpList_buildK (by rfl) 120 _ (by rfl) _ (by kernel_rfl) _ (obj_built 4) ?_
  go_wp2_with (with_reducible (show wpList _ _ _ (Oper.mk _ (Op.store 120 _ _) _ _ _ _ :: _) _ _); refine pause ?_)
  unfold Paused
  change wpList _ _ _ _ _ (w3.alloc (.cells zOc 120))
  refine wpList_store_row (by rfl) 120 (.tmp 3) (.tmp 10) (by rfl) w3.heap.size (cellsOb 4 nilV nilV nilV zid).toArray (by rfl) (by rfl) 120 zOc (Blk.new w3 _ _) (by kernel_rfl) (by kernel_rfl) (by kernel_rfl) ?_
  have HRS := Lib.hid (Rst.start HIN.out HG3.out HI3.out (cs := (cellsOb 4 nilV nilV nilV zid).toArray) rfl)
  generalize World.setRow _ w3.heap.size (cellsOb 4 nilV nilV nilV zid).toArray = w4 at HRS ⊢
  generalize w3.heap.size = g at HRS ⊢
  have a0 : w4.cell? ⟨g, 0, none⟩ = some (.int .i64 4) := HRS.out.ob.cell 0
  clear CI
  have HYB := Lib.hid (bytes_tail HB.out)
  have HPR := Lib.hid (show Ob.parse (103 :: ys) = Prs.fin ⟨4, ys.drop 32, [], ys.take 32, []⟩ from (show (if ys.length < 32 then Prs.bad 2 else Prs.fin ⟨4, ys.drop 32, [], ys.take 32, []⟩) = _ from if_neg (Nat.not_lt.2 HSH.out)))
  have HTI := Lib.hid (id_take HYB.out HSH.out)
  have CO := oid_ok i r ys w0 w4 HRS.out.at_ HSH.out
  have HDB := Lib.hid (Oc.bytes_drop HYB.out 32)
  have HYL : Hid ((ys.drop 32).length ≤ 1000000) := Lib.hid (by have := HZ.out; rw [List.length_drop]; simp only [List.length_cons] at this; omega)
  generalize ys.take 32 = tg at HPR HTI CO
  generalize ys.drop 32 = us at HPR HDB HYL CO
  go_wp2_with (go_at_call 61; refine pause ?_)
  unfold Paused
  refine CO.mono ?_
  rintro e w5 ⟨rfl, hi, hg⟩
  have HR5 := Lib.hid (HRS.out.read hg hi)
  clear hi hg CO
  go_wp2_with (with_reducible (show wpList _ _ _ (Oper.mk _ (Op.store 54 _ _) _ _ _ _ :: _) _ _); refine pause ?_)
  unfold Paused
  refine wpList_store_mid (by rfl) 54 (.tmp 68) (.tmp 67) (by rfl) g 3 (u8s tg) (by rfl) (by rfl) (there_of HR5.out.ob (by rw [cellsOb_size _ _ _ _ _ zid_id.1, u8s_size, HTI.out.1]; omega)) (by rw [u8s_size, HTI.out.1]; exact oid_size) (u8s_one _) ?_
  have HR6 : Hid (Rst w0 w (w5.setCells g 3 (u8s tg).toList) i r g (cellsOb 4 nilV nilV nilV tg).toArray us) := Lib.hid (HR5.out.put (grown_cells g _ 3 w5 w5 (World.grownBy.refl _ _)) (blk_cells (t := 120) [nilV] (u8s tg).toList (cellsB zid) [.int .i64 4, nilV, nilV] 3 w5 (by rw [cellsB_len, zid_id.1, Array.length_toList, u8s_size, HTI.out.1]) rfl HR5.out.ob))
  generalize w5.setCells g 3 (u8s tg).toList = w6 at HR6 ⊢
  have CL := left_any i r us w0 w6 HR6.out.at_
  have CX := onext_ok i r us.length us w0 w6 HR6.out.at_ HDB.out (Nat.le_refl _) HYL.out
  rw [List.take_of_length_le (Nat.le_refl _), List.drop_of_length_le (Nat.le_refl _)] at CX
  go_wp2_with (first
    | (go_at_call 104; refine CL.mono ?_; rintro e w' ⟨rfl, rfl⟩)
    | (go_at_call 103; refine pause ?_))
  unfold Paused
  refine CX.mono ?_
  rintro e w7 ⟨v, rfl, hv, hi, hg⟩
  obtain ⟨T, tc, rfl⟩ := own_slice hv
  have HV := Lib.hid (own_low hv (m' := g + 1) HR6.out.ob.lt)
  have HR7 := Lib.hid (HR6.out.read hg hi)
  have q1 : w7.cell? ⟨g, 1, none⟩ = some nilV := HR7.out.ob.cell 1
  have z1 : w7.frozen? ⟨g, 1, none⟩ = false := HR7.out.ob.frozen 1
  have HR9 : Hid (Rst w0 w (w7.setCell ⟨g, 1, none⟩ (.slice T us.length tc)) i r g (cellsOb 4 (.slice T us.length tc) nilV nilV tg).toArray []) := Lib.hid (HR7.out.put (grown_cell _ _ _ _) (by have := HR7.out.ob.set_ 1 (.slice T us.length tc); rwa [cellsOb_k1] at this))
  have HO9 : Hid (ObO (g + 1) (w7.setCell ⟨g, 1, none⟩ (.slice T us.length tc)) ⟨4, us, [], tg, []⟩ (cellsOb 4 (.slice T us.length tc) nilV nilV tg).toArray T tc none 0 none 0) := Lib.hid ⟨rfl, HV.out.kept (grown_cell _ _ _ _) (own_far HV.out (Nat.lt_succ_self g)), World.ownsRow_nil _ _ _ _, World.ownsRow_nil _ _ _ _⟩
  have HFT : Hid (Ob.Fit ⟨4, us, [], tg, []⟩) := Lib.hid ⟨byte_of HDB.out, fun _ h => (by cases h), HTI.out, fun _ h => (by cases h)⟩
  have HHD : Hid (Ob.Held ⟨4, us, [], tg, []⟩) := Lib.hid ⟨fun _ h => (by cases h), by have := HYL.out; show us.length ≤ _; omega⟩
  clear hv hi hg CL CX
  go_wp2_with (with_reducible (show wpList _ _ _ (Oper.mk _ (Op.load 120 _) _ _ _ _ :: _) _ _); refine pause ?_)
  unfold Paused
  generalize w7.setCell ⟨g, 1, none⟩ (.slice T us.length tc) = wt at HR9 HO9 ⊢
  have CR := right_any _ _ _ _ _ _ _ _ wt HO9.out.obc HFT.out HHD.out
  obtain ⟨br, hbr⟩ : ∃ br, br = Ob.right ⟨4, us, [], tg, []⟩ := ⟨_, rfl⟩
  rw [← hbr] at CR
  have HBR := Lib.hid hbr
  clear hbr
  refine wpList_row_w (by rfl) 120 (.tmp 3) (by rfl) g (by rfl) 120 _ _ HR9.out.ob Tryz.underlying120 (by rfl) (by rw [cellsOb_size _ _ _ _ _ HFT.out.target.1]; kernel_rfl) ?_
  go_wp2_with (go_at_call 105; refine pause ?_)
  unfold Paused
  refine CR.mono ?_
  rintro e w8 ⟨rfl, hb8⟩
  have HRS8 := Lib.hid (HR9.out.below hb8)
  have HOO8 := Lib.hid (HO9.out.below hb8)
  clear hb8 CR
  cases br
  · obtain ⟨vq, kq, hrq, hwq, _, _⟩ := HRS8.out.at_
    have pF := (HS.out.at_ hwq).2.1
    have CF := fail_any i r vq (a 3) w8 kq
    have HPX := Lib.hid (HPR.out.trans (show Prs.fin ⟨4, us, [], tg, []⟩ = .bad 4 by unfold Prs.fin; rw [← HBR.out]; rfl))
    clear kq hrq hwq
    go_wp2_with (go_at_call 86; refine CF.mono ?_; rintro e w9 ⟨rfl, hd, hg⟩)
    exact ⟨rfl, post_bad HPX.out (HRS8.out.fails ⟨rfl, hd, hg⟩)⟩
  · have HPX := Lib.hid (HPR.out.trans (show Prs.fin ⟨4, us, [], tg, []⟩ = .ok ⟨4, us, [], tg, []⟩ by unfold Prs.fin; rw [← HBR.out]; rfl))
    go_wp2_with (with_reducible (show wpList _ _ _ (Oper.mk _ (Op.load 120 _) _ _ _ _ :: _) _ _); refine pause ?_)
    unfold Paused
    refine wpList_row_w (by rfl) 120 (.tmp 3) (by rfl) g (by rfl) 120 _ _ HRS8.out.ob Tryz.underlying120 (by rfl) (by rw [cellsOb_size _ _ _ _ _ HFT.out.target.1]; kernel_rfl) ?_
    refine wpList_store_row (by rfl) 120 (.tmp 2) (.tmp 80) (by rfl) w.heap.size _ (by rfl) (by rfl) 120 zOc HRS8.out.res (by rw [cellsOb_size _ _ _ _ _ HFT.out.target.1]; kernel_rfl) (by rw [cellsOb_size _ _ _ _ _ HFT.out.target.1]; rfl) (ObO.one HOO8.out) ?_
    have HB9 := Lib.hid (HRS8.out.res.row (cellsOb 4 (.slice T us.length tc) nilV nilV tg).toArray)
    have HG9 := Lib.hid (show w8.grownBy (w8.setRow w.heap.size (cellsOb 4 (.slice T us.length tc) nilV nilV tg).toArray) (some w.heap.size) from only_setRow (World.grownBy.refl w8 _) (Or.inl rfl) _)
    generalize World.setRow _ w.heap.size (cellsOb 4 (.slice T us.length tc) nilV nilV tg).toArray = w9 at HB9 HG9 ⊢
    go_wp2
    exact bodyPost_ret (v := .agg (cellsOb 4 (.slice T us.length tc) nilV nilV tg).toArray) (resultsO (t := 2) rfl (by rfl) HB9.out (cellsOb_size _ _ _ _ _ HFT.out.target.1)) rfl (post_ok HPX.out rfl HFT.out HHD.out (HOO8.out.store HRS8.out.gt HG9.out) (HRS8.out.done HG9.out).1 (HRS8.out.done HG9.out).2)
end Go.Proofs.YtjkneidoochfjaaGreatDoor
