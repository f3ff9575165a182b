/- What the document's walk needs: its lists of links, the row while it walks, three rows apart. -/
import Derived.Test.YtlodalppnglclaaDoorMCl15s
namespace Go.Proofs.YtlodalppnglclaaDoor
open Go Go.RowKit
theorem rlinks_of (objs : List (List Nat)) (id : List Nat) (cs : Array Value) (B : Nat) (w : World) (h : RObj B w (Cl.obAt objs id) cs) (hb : ∀ t ∈ objs, Sha.Byte t) :
    Calls Tryd.prog 22 #[.agg cs] w (MadePost (Cl.lks objs id) w) := by
  have hfew := lks_few hb id
  cases ho : Cl.obAt objs id with
  | none =>
    have e1 : Cl.lks objs id = (⟨0, [], [], zid, []⟩ : Ob).links := by unfold Cl.lks; rw [ho]; rfl
    rw [e1, h.none_ ho]
    exact rlinks_any ⟨0, [], [], zid, []⟩ zc0 none none none 0 0 0 w rfl ⟨none, 0, rfl, Nat.le_refl _, fun h0 => absurd h0 (by simp)⟩ ⟨none, 0, rfl, Nat.le_refl _, fun h0 => absurd h0 (by simp)⟩ ⟨byte_of (fun _ h => (by cases h)), fun _ h => (by cases h), zid_id, fun _ h => (by cases h)⟩ ⟨by simp, by simp⟩
  | some o =>
    have e1 : Cl.lks objs id = o.links := by unfold Cl.lks; rw [ho]
    obtain ⟨T, tc, E, ec, P, pc, hf, hc, h1, h2⟩ := h.some_ o ho
    rw [e1] at hfew ⊢
    unfold Ob.links at hfew
    simp only [List.length_append, List.length_map] at hfew
    exact rlinks_any o cs T E P tc ec pc w hc (rdk_own h1) (rdk_own h2) hf ⟨by omega, by omega⟩
/-- what stands while the document walks: the row so far (v shows A), at the pass's start it was A0; b: more has come since -/
structure WS (objs roots A0 : List (List Nat)) (w wr : World) (v : Value) (A : List (List Nat)) (b : Bool) : Prop where
  row : RdO wr v A
  ai : Cl.AI objs roots A
  sub : ∀ x ∈ A0, x ∈ A
  more : b = true → A0.length + 1 ≤ A.length
  same : b = false → A = A0
  bel : Below w.heap.size w wr
section
variable {objs roots A0 : List (List Nat)} {w wr w' : World} {v v' : Value} {A : List (List Nat)} {b : Bool}
theorem WS.below (h : WS objs roots A0 w wr v A b) (hb : Below wr.heap.size wr w') : WS objs roots A0 w w' v A b :=
  ⟨rdo_go h.row hb (Nat.le_refl _), h.ai, h.sub, h.more, h.same, below_next h.bel hb⟩
theorem WS.put {x : List Nat} (h : WS objs roots A0 w wr v A b) (hx : Id32 x) (hr : Cl.Rch objs roots x) (hn : x ∉ A) (hrow : RdO w' v' (Cl.put A x)) (hb : Below wr.heap.size wr w') : WS objs roots A0 w w' v' (Cl.put A x) true := by
  have hs := Cl.put_spec A x h.ai.rise
  have hm := Cl.put_more h.ai.rise hn
  have hl : A0.length ≤ A.length := by
    cases b with
    | true => have := h.more rfl; omega
    | false => rw [h.same rfl]; exact Nat.le_refl _
  exact ⟨hrow, h.ai.put hx hr, fun y hy => (hs.2 y).2 (Or.inl (h.sub y hy)), fun _ => by omega, fun h0 => (by cases h0), below_next h.bel hb⟩
end
/-- is more to come? -/
def agN : Value → Nat
  | .bool true => 1
  | _ => 0
theorem agN_true : agN (.bool true) = 1 := rfl
theorem agN_false : agN (.bool false) = 0 := rfl
theorem rdo_len {w : World} {v : Value} {l : List (List Nat)} (h : RdO w v l) : lenV v = l.length := by
  obtain ⟨A, c, rfl, _, _⟩ := h; rfl
theorem rdo_form {w : World} {v : Value} {l : List (List Nat)} (h : RdO w v l) : ∃ A c, v = .slice A l.length c := by
  obtain ⟨A, c, hv, _⟩ := h; exact ⟨A, c, hv⟩
theorem parse_kind3 {t : List Nat} {o : Ob} (h : Ob.parse t = .ok o) (hk : o.kind = 3) : o.ents = [] := by
  obtain _ | ⟨c, ys⟩ := t
  · cases h
  rw [Ob.parse] at h
  split at h
  · obtain ⟨e, _⟩ := fin_ok h
    subst e; rfl
  · split at h
    · split at h
      · cases h
      · obtain ⟨e, _⟩ := fin_ok h
        subst e
        have h2 : (2 : Int) = 3 := hk
        omega
    · split at h
      · split at h
        · cases h
        · split at h
          · cases h
          · obtain ⟨e, _⟩ := fin_ok h
            subst e; rfl
      · split at h
        · split at h
          · cases h
          · obtain ⟨e, _⟩ := fin_ok h
            subst e; rfl
        · cases h
/-- three rows of one's own that lie apart -/
structure W3 (w0 wr : World) (B : Nat) (va vb vc : Value) (a b c : List (List Nat)) : Prop where
  oa : wr.ownsRow B 36 32 va a.length (cellsP a)
  ob : wr.ownsRow B 36 32 vb b.length (cellsP b)
  oc : wr.ownsRow B 36 32 vc c.length (cellsP c)
  ab : ∀ x, va.ownBlock = some x → vb.ownBlock ≠ some x
  bc : ∀ x, vb.ownBlock = some x → vc.ownBlock ≠ some x
  ca : ∀ x, vc.ownBlock = some x → va.ownBlock ≠ some x
  bel : Below w0.heap.size w0 wr
  siz : w0.heap.size ≤ B ∧ B ≤ wr.heap.size
section
variable {w0 wr w2 : World} {B : Nat} {va vb vc : Value} {a b c : List (List Nat)}
theorem W3.below (h : W3 w0 wr B va vb vc a b c) (hb : Below wr.heap.size wr w2) : W3 w0 w2 B va vb vc a b c :=
  ⟨own_below h.oa hb, own_below h.ob hb, own_below h.oc hb, h.ab, h.bc, h.ca, below_next h.bel hb, by have := h.siz; have := hb.size; omega⟩
theorem W3.rot (h : W3 w0 wr B va vb vc a b c) : W3 w0 wr B vb vc va b c a := ⟨h.ob, h.oc, h.oa, h.bc, h.ca, h.ab, h.bel, h.siz⟩
theorem W3.put {x : List Nat} {g n' c' : Nat} (h : W3 w0 wr B va vb vc a b c) (ho : w2.ownsRow B 36 32 (.slice (some ⟨g, 0, none⟩) n' c') (a.length + 1) (cellsP a ++ cellsB x)) (hg : wr.grownBy w2 va.ownBlock) (hl : va.ownBlock = some g ∨ g = wr.heap.size) : W3 w0 w2 B (.slice (some ⟨g, 0, none⟩) n' c') vb vc (a ++ [x]) b c := by
  have hob : ∀ y, vb.ownBlock = some y → va.ownBlock ≠ some y := fun y h1 h2 => h.ab y h2 h1
  have hvo : (Value.slice (some ⟨g, 0, none⟩) n' c').ownBlock = some g := rfl
  refine ⟨by rw [List.length_append, List.length_singleton, cellsP_snoc]; exact ho, own_grow h.ob hg hob, own_grow h.oc hg h.ca, fun y h1 h2 => ?_, h.bc, fun y h1 h2 => ?_, cl_grow h.bel hg (fun y hy => by have := (own_in h.oa hy).1; have := h.siz; omega), by have := hg.size; have := h.siz; omega⟩
  · rw [hvo] at h1
    injection h1 with h1
    subst h1
    rcases hl with e | e
    · exact h.ab g e h2
    · have := (own_in h.ob h2).2; omega
  · rw [hvo] at h2
    injection h2 with h2
    subst h2
    rcases hl with e | e
    · exact h.ca g h1 e
    · have := (own_in h.oc h1).2; omega
theorem W3.far (h : W3 w0 wr B va vb vc a b c) : (∀ y, va.ownBlock = some y → y < wr.heap.size) ∧ (∀ y, vb.ownBlock = some y → y < wr.heap.size) ∧ ∀ y, vc.ownBlock = some y → y < wr.heap.size :=
  ⟨fun _ h1 => (own_in h.oa h1).2, fun _ h1 => (own_in h.ob h1).2, fun _ h1 => (own_in h.oc h1).2⟩
end
theorem RObj.k0 {B : Nat} {w : World} {objs : List (List Nat)} {x : List Nat} {cs : Array Value} (h : RObj B w (Cl.obAt objs x) cs) : cs[0]? = some (.int .i64 (Cl.knd objs x)) := by
  unfold Cl.knd
  cases ho : Cl.obAt objs x with
  | none => rw [h.none_ ho]; rfl
  | some o =>
    obtain ⟨T, tc, E, ec, P, pc, _, hc, _, _⟩ := h.some_ o ho
    rw [hc]; rfl
theorem the_of_knd {objs : List (List Nat)} {x : List Nat} (h : Cl.the objs x = false) : Cl.knd objs x = 0 := by
  unfold Cl.the at h
  unfold Cl.knd Cl.obAt
  cases hs : Cl.stk objs x with
  | none => rfl
  | some t => rw [hs] at h; cases h
theorem RObj.tg {B : Nat} {w : World} {objs : List (List Nat)} {x : List Nat} {cs : Array Value} (_hb : ∀ t ∈ objs, Sha.Byte t) (h : RObj B w (Cl.obAt objs x) cs) (hk : Cl.knd objs x = 3) : ∃ y ls, Cl.lks objs x = y :: ls ∧ Id32 y ∧ ∀ j u, (cellsB y)[j]? = some u → cs[3 + j]? = some u := by
  cases ho : Cl.obAt objs x with
  | none => unfold Cl.knd at hk; rw [ho] at hk; cases hk
  | some o =>
    obtain ⟨T, tc, E, ec, P, pc, hf, hc, _, _⟩ := h.some_ o ho
    have hk3 : o.kind = 3 := by unfold Cl.knd at hk; rw [ho] at hk; exact hk
    have he : o.ents = [] := by
      unfold Cl.obAt at ho
      cases hs : Cl.stk objs x with
      | none => rw [hs] at ho; cases ho
      | some t =>
        rw [hs] at ho
        obtain ⟨_, hp⟩ := Cl.ob_some ho
        exact parse_kind3 hp hk3
    refine ⟨o.target, o.pars, ?_, hf.target, fun j u hu => ?_⟩
    · unfold Cl.lks
      rw [ho]
      show o.links = _
      unfold Ob.links
      rw [he, if_pos (by rw [hk3]; rfl)]
      rfl
    · rw [hc]
      rw [List.getElem?_toArray, show 3 + j = j + 1 + 1 + 1 by omega, List.getElem?_cons_succ, List.getElem?_cons_succ, List.getElem?_cons_succ, List.getElem?_append_left (List.getElem?_eq_some_iff.1 hu).1, hu]
theorem filt_snoc {l l' : List (List Nat)} {x : List Nat} (p : List Nat → Bool) (h : l' = l ++ [x]) : l'.filter p = if p x = true then l.filter p ++ [x] else l.filter p := by
  rw [h, List.filter_append]
  cases hp : p x <;> simp [hp]
/-- the three rows when the document has looked at k ids -/
def W3F (objs AA : List (List Nat)) (w0 wr : World) (B k : Nat) (va vb vc : Value) : Prop := W3 w0 wr B va vb vc ((AA.take k).filter (Cl.the objs)) ((AA.take k).filter (fun z => !Cl.the objs z)) ((AA.take k).filter (Cl.wrg objs))
section
variable {objs AA : List (List Nat)} {w0 wr : World} {B k : Nat} {va vb vc : Value} {x : List Nat}
theorem w3_miss (h : AA.take (k + 1) = AA.take k ++ [x]) (h1 : Cl.the objs x = false) (h2 : Cl.wrg objs x = false) (hw : W3 w0 wr B va vb vc ((AA.take k).filter (Cl.the objs)) ((AA.take k).filter (fun z => !Cl.the objs z) ++ [x]) ((AA.take k).filter (Cl.wrg objs))) : W3F objs AA w0 wr B (k + 1) va vb vc := by
  unfold W3F
  rw [filt_snoc _ h, filt_snoc (fun z => !Cl.the objs z) h, filt_snoc (Cl.wrg objs) h, if_neg (by rw [h1]; decide), if_pos (by show (!Cl.the objs x) = true; rw [h1]; rfl), if_neg (by rw [h2]; decide)]
  exact hw
theorem w3_good (h : AA.take (k + 1) = AA.take k ++ [x]) (h1 : Cl.the objs x = true) (h2 : Cl.wrg objs x = false) (hw : W3 w0 wr B va vb vc ((AA.take k).filter (Cl.the objs) ++ [x]) ((AA.take k).filter (fun z => !Cl.the objs z)) ((AA.take k).filter (Cl.wrg objs))) : W3F objs AA w0 wr B (k + 1) va vb vc := by
  unfold W3F
  rw [filt_snoc _ h, filt_snoc (fun z => !Cl.the objs z) h, filt_snoc (Cl.wrg objs) h, if_pos h1, if_neg (by show ¬ (!Cl.the objs x) = true; rw [h1]; decide), if_neg (by rw [h2]; decide)]
  exact hw
theorem w3_bad (h : AA.take (k + 1) = AA.take k ++ [x]) (h1 : Cl.the objs x = true) (h2 : Cl.wrg objs x = true) (hw : W3 w0 wr B va vb vc ((AA.take k).filter (Cl.the objs) ++ [x]) ((AA.take k).filter (fun z => !Cl.the objs z)) ((AA.take k).filter (Cl.wrg objs) ++ [x])) : W3F objs AA w0 wr B (k + 1) va vb vc := by
  unfold W3F
  rw [filt_snoc _ h, filt_snoc (fun z => !Cl.the objs z) h, filt_snoc (Cl.wrg objs) h, if_pos h1, if_neg (by show ¬ (!Cl.the objs x) = true; rw [h1]; decide), if_pos h2]
  exact hw
end
theorem wrg_of {objs : List (List Nat)} {x y : List Nat} {ls : List (List Nat)} (hk : Cl.knd objs x = 3) (hl : Cl.lks objs x = y :: ls) : Cl.wrg objs x = (Cl.the objs y && !decide (Cl.knd objs y = 2)) := by
  unfold Cl.wrg
  rw [hk, hl]
  simp
theorem wrg_not {objs : List (List Nat)} {x : List Nat} (hk : Cl.knd objs x ≠ 3) : Cl.wrg objs x = false := by
  unfold Cl.wrg
  simp [hk]
theorem results_tmp4 {fn : Func} {p q r s : Tmp} (h : fn.results = #[.tmp p, .tmp q, .tmp r, .tmp s]) (tmps : Array Value) (P : Program) (w : World) :
    (results fn tmps).run P w = .ok (.tuple #[tmps.getD p undef, tmps.getD q undef, tmps.getD r undef, tmps.getD s undef]) w := by
  simp [results, h]
/-- what the walk answers -/
structure WR (objs roots : List (List Nat)) (w w' : World) (va vb vc vd : Value) (a b c d : List (List Nat)) : Prop where
  ra : RdO w' va a
  rb : RdO w' vb b
  rc : RdO w' vc c
  rd : RdO w' vd d
  ia : Sha.Rising a ∧ ∀ x ∈ a, Id32 x
  ib : Sha.Rising b ∧ ∀ x ∈ b, Id32 x
  ic : Sha.Rising c ∧ ∀ x ∈ c, Id32 x
  id_ : Sha.Rising d ∧ ∀ x ∈ d, Id32 x
  ma : ∀ x, x ∈ a ↔ (Cl.Rch objs roots x ∧ Cl.the objs x = true)
  mb : ∀ x, x ∈ b ↔ (Cl.Rch objs roots x ∧ Cl.the objs x = false)
  mc : ∀ x, x ∈ c ↔ (Cl.Rch objs roots x ∧ Cl.wrg objs x = true)
  md : ∀ x, x ∈ d ↔ ((∃ t ∈ objs, x = Sha.sum t) ∧ x ∉ a)
  bel : Below w.heap.size w w'
/-- how the walk ends -/
def WalkR (objs roots : List (List Nat)) (w : World) (e : Ending) (w' : World) : Prop :=
  ∃ va vb vc vd a b c d, e = .returned (.tuple #[va, vb, vc, vd]) ∧ WR objs roots w w' va vb vc vd a b c d
theorem rising_filter {l : List (List Nat)} (p : List Nat → Bool) (h : Sha.Rising l) : Sha.Rising (l.filter p) := Cl.rising_pw.2 ((Cl.rising_pw.1 h).filter p)
/-- what isn't reached, while the document looks at the objects -/
structure LD (objs a : List (List Nat)) (wr : World) (k : Nat) (v : Value) (D : List (List Nat)) : Prop where
  row : RdO wr v D
  rise : Sha.Rising D
  ids : ∀ x ∈ D, Id32 x
  mem : ∀ x, x ∈ D ↔ ((∃ t ∈ objs.take k, x = Sha.sum t) ∧ x ∉ a)
theorem LD.few {objs a : List (List Nat)} {wr : World} {k : Nat} {v : Value} {D : List (List Nat)} (h : LD objs a wr k v D) : D.length ≤ objs.length := by
  have h1 := Cl.nodup_le (M := (objs.take k).map Sha.sum) (Cl.rising_nodup h.rise) (fun x hx => by
    obtain ⟨⟨t, ht, e⟩, _⟩ := (h.mem x).1 hx
    exact List.mem_map.2 ⟨t, ht, e.symm⟩)
  rw [List.length_map, List.length_take] at h1
  omega
theorem LD.below {objs a : List (List Nat)} {wr w' : World} {k : Nat} {v : Value} {D : List (List Nat)} (h : LD objs a wr k v D) (hb : Below wr.heap.size wr w') : LD objs a w' k v D := ⟨rdo_go h.row hb (Nat.le_refl _), h.rise, h.ids, h.mem⟩
theorem LD.skip {objs a : List (List Nat)} {wr : World} {k : Nat} {v : Value} {D : List (List Nat)} {t : List Nat} (h : LD objs a wr k v D) (ht : objs.take (k + 1) = objs.take k ++ [t]) (hm : Sha.sum t ∈ a) : LD objs a wr (k + 1) v D :=
  ⟨h.row, h.rise, h.ids, fun x => by
    rw [h.mem x, ht]
    constructor
    · rintro ⟨⟨s, hs, e⟩, h2⟩
      exact ⟨⟨s, List.mem_append_left _ hs, e⟩, h2⟩
    · rintro ⟨⟨s, hs, e⟩, h2⟩
      rcases List.mem_append.1 hs with h3 | h3
      · exact ⟨⟨s, h3, e⟩, h2⟩
      · rw [List.mem_singleton.1 h3] at e
        exact absurd (e ▸ hm) h2⟩
theorem LD.put {objs a : List (List Nat)} {wr w' : World} {k : Nat} {v v' : Value} {D : List (List Nat)} {t : List Nat} (h : LD objs a wr k v D) (ht : objs.take (k + 1) = objs.take k ++ [t]) (hm : Sha.sum t ∉ a) (hi : Id32 (Sha.sum t)) (hr : RdO w' v' (Cl.put D (Sha.sum t))) : LD objs a w' (k + 1) v' (Cl.put D (Sha.sum t)) := by
  have hs := Cl.put_spec D (Sha.sum t) h.rise
  refine ⟨hr, hs.1, fun x hx => ?_, fun x => ?_⟩
  · rcases (hs.2 x).1 hx with h1 | h1
    · exact h.ids x h1
    · rw [h1]; exact hi
  · rw [hs.2 x, h.mem x, ht]
    constructor
    · rintro (⟨⟨s, h1, e⟩, h2⟩ | h1)
      · exact ⟨⟨s, List.mem_append_left _ h1, e⟩, h2⟩
      · exact ⟨⟨t, by simp, h1⟩, h1 ▸ hm⟩
    · rintro ⟨⟨s, h1, e⟩, h2⟩
      rcases List.mem_append.1 h1 with h3 | h3
      · exact Or.inl ⟨⟨s, h3, e⟩, h2⟩
      · exact Or.inr (by rw [List.mem_singleton.1 h3] at e; exact e)
end Go.Proofs.YtlodalppnglclaaDoor
