/- The functions that Read and Rest hand to Take. -/
import Derived.Test.YtedlfafbehhkdaaDoorOct19
namespace Go.Proofs.YtedlfafbehhkdaaDoor
open Go Go.RowKit
/-- A field whose bytes lie outside the blocks of S. -/
structure FR (S : Nat → Prop) (w : World) (f : Fld) : Prop where
  rd : Rd w (.slice f.A f.l f.c) f.bs
  len : f.bs.length = f.l
  own : 0 < f.l → ∃ g, f.A = some ⟨g, 0, none⟩ ∧ ¬ S g ∧ g < w.heap.size
theorem Rd.kpt {S : Nat → Prop} {w w' : World} {g n c : Nat} {xs : List Nat} (h : Rd w (.slice (some ⟨g, 0, none⟩) n c) xs) (k : Kpt S w w') (hg : ¬ S g) : Rd w' (.slice (some ⟨g, 0, none⟩) n c) xs := by
  obtain ⟨A, c', hv, hc, hA⟩ := h
  injection hv with e1 e2 e3
  subst e1 e2 e3
  refine ⟨_, _, rfl, hc, fun h0 => ?_⟩
  obtain ⟨b, o, ha, hb, hx⟩ := hA h0
  injection ha with ha
  injection ha with e4 e5
  subst e4 e5
  exact ⟨_, _, rfl, Nat.lt_of_lt_of_le hb k.size, fun i hi => k.cell (hx i hi) hg⟩
theorem Rd.nil {w : World} {A : Option Addr} {c : Nat} (xs : List Nat) (h : xs = []) : Rd w (.slice A 0 c) xs := by subst h; exact ⟨A, c, rfl, Nat.zero_le _, fun h => absurd h (by simp)⟩
theorem FR.step {S : Nat → Prop} {w w' : World} {f : Fld} (h : FR S w f) (k : Kpt S w w') : FR S w' f := by
  refine ⟨?_, h.len, fun h0 => ?_⟩
  · have hl := h.len
    have hr := h.rd
    have ho := h.own
    obtain ⟨n, A, l, c, bs⟩ := f
    dsimp only at hl hr ho ⊢
    rcases Nat.eq_zero_or_pos l with rfl | h0
    · exact Rd.nil bs (List.eq_nil_of_length_eq_zero hl)
    · obtain ⟨g, rfl, hg, _⟩ := ho h0
      exact hr.kpt k hg
  · obtain ⟨g, e, hg, hlt⟩ := h.own h0
    exact ⟨g, e, hg, Nat.lt_of_lt_of_le hlt k.size⟩
theorem FOwn.fr {S : Nat → Prop} {B : Nat} {w : World} {f : Fld} (h : FOwn B w f) (hS : ∀ b, S b → b < B) : FR S w f :=
  ⟨h.rd, h.len, fun h0 => by
    obtain ⟨g, cs, t, e1, e2, hB, _⟩ := h.own h0
    exact ⟨g, e1, fun e => by have := hS g e; omega, hB.lt⟩⟩
/-- Fields as they are handed back, outside the blocks of S. -/
structure Fin' (w : World) (S : Nat → Prop) (u : Value) (fs : List Fld) : Prop where
  out : ∃ A b c, u = .slice A fs.length c ∧ (0 < fs.length → A = some ⟨b, 0, none⟩ ∧ ¬ S b ∧ b < w.heap.size ∧ ∀ j v, (cellsF fs)[j]? = some v → w.cell? ⟨b, j, none⟩ = some v)
  fld : ∀ f ∈ fs, FR S w f
theorem Fin'.step {S : Nat → Prop} {w w' : World} {u : Value} {fs : List Fld} (h : Fin' w S u fs) (k : Kpt S w w') : Fin' w' S u fs := by
  obtain ⟨A, b, c, hu, h2⟩ := h.out
  refine ⟨⟨A, b, c, hu, fun h0 => ?_⟩, fun f hf => (h.fld f hf).step k⟩
  obtain ⟨e1, e2, e3, e4⟩ := h2 h0
  exact ⟨e1, e2, Nat.lt_of_lt_of_le e3 k.size, fun j v hj => k.cell (e4 j v hj) e2⟩
theorem Fin'.row {S : Nat → Prop} {w : World} {u : Value} {fs : List Fld} (h : Fin' w S u fs) (h0 : 0 < w.heap.size) : ∃ A b c, u = .slice A fs.length c ∧ (0 < fs.length → A = some ⟨b, 0, none⟩) ∧ FRow w b 0 fs := by
  obtain ⟨A, b, c, hu, h2⟩ := h.out
  rcases Nat.eq_zero_or_pos fs.length with hz | hz
  · have e := List.eq_nil_of_length_eq_zero hz
    subst e
    exact ⟨A, 0, c, hu, fun h => absurd h (by simp), ⟨fun i hi => absurd hi (by simp), fun i hi => absurd hi (by simp), fun f hf => (by cases hf), h0⟩⟩
  · obtain ⟨e1, e2, e3, e4⟩ := h2 hz
    exact ⟨A, b, c, hu, fun _ => e1, ⟨fun i hi => by rw [Nat.zero_add]; exact e4 _ _ (cellsF_get hi).1, fun i hi => by rw [Nat.zero_add]; exact e4 _ _ (cellsF_get hi).2, fun f hf => ⟨(h.fld f hf).rd, (h.fld f hf).len⟩, e3⟩⟩
theorem FX.fin {w0 wf w : World} {i r k : Nat} {v : Value} {fs : List Fld} {ys : List Nat} (h : FX w0 wf w i r v k fs ys) (hk : fs.length = k) {S : Nat → Prop} (hS : ∀ b, S b → b < wf.heap.size) : Fin' w S v fs := by
  subst hk
  refine ⟨?_, fun f hf => (h.fld f hf).fr hS⟩
  have hrow := h.row
  rcases h.row.2 with ⟨rfl, h0⟩ | ⟨g, cap, cur, rfl, hb, hh, _⟩
  · exact ⟨none, 0, 0, by rw [h0], fun h => by omega⟩
  · refine ⟨_, g, cap, rfl, fun _ => ⟨rfl, fun e => ?_, (Array.getElem?_eq_some_iff.1 hh).1, fun j v hj => ?_⟩⟩
    · have := hS g e; omega
    · have hj2 : j < (cellsF fs).length := (List.getElem?_eq_some_iff.1 hj).1
      rw [cellsF_len] at hj2
      rw [hrow.cellAt j (by omega)]
      exact hj
def RF (l : List (Nat × List Nat)) (r : Nat) (u : Value) (w : World) : Prop := ∃ fs, fs.map Oc.says = l.map Oc.lays ∧ Fin' w (· = r) u fs
theorem RF.step {l : List (Nat × List Nat)} (r : Nat) (u : Value) (a b : World) (h : RF l r u a) (k : a.grownBy b (some r)) : RF l r u b := by
  obtain ⟨fs, h1, h2⟩ := h
  exact ⟨fs, h1, h2.step (Kpt.of_grown k rfl)⟩
theorem says_len {fs : List Fld} {l : List (Nat × List Nat)} (h : fs.map Oc.says = l.map Oc.lays) : fs.length = l.length := by simpa using congrArg List.length h
section
variable (s : ByteArray) (xs : List Nat) (a : Nat → Addr) (sh : Nat) (w0 w : World)
theorem read_ok (hs : s.size ≤ 1000) (hb : Oc.bytes xs) (hS : OSents w0 a) (hsh : w.cell? ⟨sh, 0, none⟩ = some (.string s)) (hk : Oc.known s.data.toList = true) (l : List (Nat × List Nat)) (p : Nat) (h : Oc.reads (shN s) xs = .ok l p) :
    ReadsTo 30 #[.pointer (some ⟨sh, 0, none⟩)] (fun _ => False) w0 w xs (xs.drop p) (RF l) := by
  intro w2 i r hr hri hi hbel
  change Calls Tryd.prog 30 #[.pointer (some ⟨i, 0, none⟩), .pointer (some ⟨sh, 0, none⟩)] w2 _
  have p1 : w2.cell? ⟨sh, 0, none⟩ = some (.string s) := (hbel.cell (block_lt_of_cell hsh)).trans hsh
  have CF := fields_any s i r xs a w0 w2 hi hs hb hS
  have H := Lib.hid (And.intro hk h)
  clear hk h hi hb hS hsh
  go_enter Tryd.func30, Tryd.ntmps30
  go_wp2_with (go_at_call 31; refine CF.mono ?_; rintro e w3 ⟨_, _, hf⟩; obtain ⟨v, fs, rfl, hsy, hx⟩ := hf H.out.1 _ _ H.out.2; have HX := Lib.hid hx; have HSY := Lib.hid hsy; clear hx hsy hf CF)
  go_ret
  refine ⟨v, rfl, HX.out.at_, Kpt.of_grown HX.out.grw (Or.inl rfl), fs, HSY.out, HX.out.fin ?_ (fun b e => by rw [e]; exact HX.out.old.1)⟩
  rw [says_len HSY.out, Oc.reads_len H.out.2, shN_len]
theorem read_bad (hs : s.size ≤ 1000) (hb : Oc.bytes xs) (hS : OSents w0 a) (hsh : w.cell? ⟨sh, 0, none⟩ = some (.string s)) (ae : Addr) (h : ∀ w2 i r e w', FieldsPost s xs a w0 w2 i r e w' → Fails w2 r (ev ae) e w') :
    ReadsBad 30 #[.pointer (some ⟨sh, 0, none⟩)] (fun _ => False) w0 w xs ae := by
  intro w2 i r hr hri hi hbel
  change Calls Tryd.prog 30 #[.pointer (some ⟨i, 0, none⟩), .pointer (some ⟨sh, 0, none⟩)] w2 _
  have p1 : w2.cell? ⟨sh, 0, none⟩ = some (.string s) := (hbel.cell (block_lt_of_cell hsh)).trans hsh
  have CF := (fields_any s i r xs a w0 w2 hi hs hb hS).mono (h w2 i r)
  clear h hi hb hS hsh
  go_enter Tryd.func30, Tryd.ntmps30
  go_wp2_with (go_at_call 31; refine CF.mono ?_; rintro e w3 ⟨rfl, hd, hg⟩)
  exact ⟨rfl, rfl, hd, Kpt.of_grown hg (Or.inl rfl)⟩
end
end Go.Proofs.YtedlfafbehhkdaaDoor
