/- What bytes are as an entry, said plainly; one number, one text, one id read. -/
import Derived.Test.YtjkneidoochfjaaGreatDoorMEnT4s
import Derived.Test.YtjkneidoochfjaaGreatDoorMEn18s
import Derived.Test.YtjkneidoochfjaaGreatDoorMOct12s
import Derived.Test.YtjkneidoochfjaaGreatDoorMShaMsgMaths
import Derived.OrdersHeld
namespace Go.Proofs.YtjkneidoochfjaaGreatDoor
open Go Go.RowKit
namespace En
inductive P (α : Type) where
  | bad (e : Nat)
  | ok (a : α) (r : List Nat)
def num (c : Nat) (ys : List Nat) : P Nat := match Oc.step c ys with | .bad e => .bad e | .ok n _ k => .ok n (ys.drop k)
def txt (ys : List Nat) : P (List Nat) := match Oc.step 116 ys with | .bad e => .bad e | .ok _ x k => .ok x (ys.drop k)
def oid (ys : List Nat) : P (List Nat) := match Oc.step 111 ys with | .bad e => .bad e | .ok _ x k => .ok x (ys.drop k)
def rdUp (ys : List Nat) : P Up := match txt ys with | .bad e => .bad e | .ok x r => match oid r with | .bad e => .bad e | .ok a r => match oid r with | .bad e => .bad e | .ok b r => .ok ⟨textOf x, a, b⟩ r
/-- so many, one behind the other -/
def many {α : Type} (f : List Nat → P α) : Nat → List α → List Nat → P (List α)
  | 0, l, ys => .ok l ys
  | n + 1, l, ys => match f ys with | .bad e => .bad e | .ok a r => many f n (l ++ [a]) r
theorem many_bad {α : Type} {f : List Nat → P α} {n : Nat} {l : List α} {ys : List Nat} {e : Nat} (h : f ys = .bad e) : many f (n + 1) l ys = .bad e := by unfold many; rw [h]
theorem many_next {α : Type} {f : List Nat → P α} {n : Nat} {l : List α} {ys r : List Nat} {a : α} (h : f ys = .ok a r) : many f (n + 1) l ys = many f n (l ++ [a]) r := by
  conv => lhs; unfold many
  rw [h]
/-- an entry's parts, and what is left -/
def parts (ys : List Nat) : P E := match num 98 ys with
  | .bad e => .bad e
  | .ok c r => match num 113 r with
    | .bad e => .bad e
    | .ok n r => match num 98 r with
      | .bad e => .bad e
      | .ok a r => match num 98 r with
        | .bad e => .bad e
        | .ok nu r => match many rdUp nu [] r with
          | .bad e => .bad e
          | .ok us r => match num 98 r with
            | .bad e => .bad e
            | .ok no r => match many txt no [] r with
              | .bad e => .bad e
              | .ok os r => .ok ⟨c, n, a, us, os⟩ r
inductive Pr where
  | bad (e : Nat)
  | ok (e : E)
/-- the entry that bytes are -/
noncomputable def parse (b : List Nat) : Pr := if 2800 < b.length then .bad 13 else match parts b with
  | .bad e => .bad e
  | .ok e r => if 0 < r.length then .bad 3 else if right e = true then .ok e else .bad 4
theorem num_bad {c e : Nat} {ys : List Nat} (h : Oc.step c ys = .bad e) : num c ys = .bad e := by unfold num; rw [h]
theorem num_ok {c n k : Nat} {x ys : List Nat} (h : Oc.step c ys = .ok n x k) : num c ys = .ok n (ys.drop k) := by unfold num; rw [h]
end En
/-- how a number is read -/
def NumR (w0 w : World) (i r c : Nat) (xs : List Nat) (a : Nat → Addr) (e : Ending) (w' : World) : Prop :=
  (∀ k, En.num c xs = .bad k → Fails w r (ev (a (k - 1))) e w') ∧ ∀ n zs, En.num c xs = .ok n zs → e = .returned (.int .i64 (n : Int)) ∧ InAt w0 w' i r zs ∧ w.grownBy w' (some r) ∧ Oc.bytes zs ∧ zs.length ≤ xs.length ∧ n ≤ 4611686018427387903 ∧ (c = 98 → n ≤ 255)
theorem in_ne {w0 w : World} {i r g : Nat} {xs : List Nat} {v : Value} (h : InAt w0 w i r xs) (hS : w0.cell? ⟨g, 0, none⟩ = some v) : r ≠ g ∧ w.cell? ⟨g, 0, none⟩ = some v := by
  obtain ⟨u, k, hr, hw, h1, h2⟩ := h
  have hl : g < w0.heap.size := block_lt_of_cell hS
  exact ⟨by omega, (hw.cell (p := ⟨g, 0, none⟩) hl).trans hS⟩
theorem enumE_any (i r c : Nat) (hc : c = 98 ∨ c = 113) (xs : List Nat) (a : Nat → Addr) (w0 w : World) (h : InAt w0 w i r xs) (hb : Oc.bytes xs) (hS : ESents w0 a) :
    Calls Tryz.prog 59 #[.pointer (some ⟨i, 0, none⟩), .int .u8 ((c : Nat) : Int)] w (NumR w0 w i r c xs a) := by
  obtain ⟨hs1, hs2⟩ := in_ne h hS.p.1
  obtain ⟨hr1, hr2⟩ := in_ne h hS.r
  obtain ⟨z, hz0, hz8, hnz, hzz, hmm, hm, h98⟩ : ∃ z : Nat, 0 < z ∧ z ≤ 8 ∧ Oc.nsize c = z ∧ Oc.zs c = z ∧ Oc.most c = Oc.mostN c ∧ Oc.mostN c ≤ 4611686018427387903 ∧ (c = 98 → Oc.mostN c = 255) := by
    rcases hc with rfl | rfl
    · exact ⟨1, by omega, by omega, rfl, rfl, rfl, by decide, fun _ => rfl⟩
    · exact ⟨8, by omega, by omega, rfl, rfl, rfl, by decide, fun h => by omega⟩
  have hn1 : c ≠ 111 := by omega
  have hn2 : c ≠ 116 := by omega
  have hst := step_num hn1 hn2 xs
  rw [hzz] at hst
  by_cases hl : xs.length < z
  · rw [if_pos hl] at hst
    refine (inum_short i r c z (a 1) xs w0 w h hnz hz0 hl hs2).mono fun e w' hf => ⟨fun k hk => ?_, fun n zs hk => ?_⟩
    · rw [En.num_bad hst] at hk; injection hk with hk; subst hk; exact hf
    · rw [En.num_bad hst] at hk; cases hk
  · rw [if_neg hl] at hst
    by_cases hr : Oc.mostN c < Oc.val (xs.take z)
    · rw [if_pos hr] at hst
      refine (inum_range i r c z (a 0) xs w0 w h hnz hz0 hz8 (by omega) hb hr hmm hr1 hr2).mono fun e w' hf => ⟨fun k hk => ?_, fun n zs hk => ?_⟩
      · rw [En.num_bad hst] at hk; injection hk with hk; subst hk; exact hf
      · rw [En.num_bad hst] at hk; cases hk
    · rw [if_neg hr] at hst
      refine (inum_ok i r c z xs w0 w h hnz hz0 hz8 (by omega) hb (by omega) hmm).mono fun e w' hf => ⟨fun k hk => ?_, fun n zs hk => ?_⟩
      · rw [En.num_ok hst] at hk; cases hk
      · rw [En.num_ok hst] at hk
        injection hk with h1 h2
        subst h1 h2
        exact ⟨hf.1, hf.2.1, hf.2.2, Oc.bytes_drop hb z, by rw [List.length_drop]; omega, by omega, fun h => by rw [h98 h] at hr; omega⟩
def TxtR (w0 w : World) (i r : Nat) (xs : List Nat) (a : Nat → Addr) (e : Ending) (w' : World) : Prop :=
  (∀ k, En.txt xs = .bad k → Fails w r (ev (a (k - 1))) e w') ∧ ∀ x zs, En.txt xs = .ok x zs → ∃ A c, e = .returned (.slice A x.length c) ∧ CpT w.heap.size w' (.slice A x.length c) x ∧ InAt w0 w' i r zs ∧ w.grownBy w' (some r) ∧ Oc.bytes zs ∧ zs.length ≤ xs.length ∧ Oc.bytes x ∧ x.length ≤ xs.length
theorem etxtE_any (i r : Nat) (xs : List Nat) (a : Nat → Addr) (w0 w : World) (h : InAt w0 w i r xs) (hb : Oc.bytes xs) (hS : ESents w0 a) (hrl : r < w.heap.size) :
    Calls Tryz.prog 60 #[.pointer (some ⟨i, 0, none⟩)] w (TxtR w0 w i r xs a) := by
  obtain ⟨hs1, hs2⟩ := in_ne h hS.p.1
  have hst := step_text xs
  by_cases hl : xs.length < 2
  · rw [if_pos hl] at hst
    refine (text_short i r (a 1) xs w0 w h hl hs2).mono fun e w' hf => ⟨fun k hk => ?_, fun n zs hk => ?_⟩
    · unfold En.txt at hk; rw [hst] at hk; injection hk with hk; subst hk; exact hf
    · unfold En.txt at hk; rw [hst] at hk; cases hk
  · rw [if_neg hl] at hst
    by_cases hr : xs.length < 2 + Oc.val (xs.take 2)
    · rw [if_pos hr] at hst
      refine (text_short2 i r (a 1) xs w0 w h (by omega) hr hb hs1 hs2).mono fun e w' hf => ⟨fun k hk => ?_, fun n zs hk => ?_⟩
      · unfold En.txt at hk; rw [hst] at hk; injection hk with hk; subst hk; exact hf
      · unfold En.txt at hk; rw [hst] at hk; cases hk
    · rw [if_neg hr] at hst
      refine (text_ok i r xs w0 w h (by omega) (by omega) hb hrl).mono fun e w' hf => ⟨fun k hk => ?_, fun x zs hk => ?_⟩
      · unfold En.txt at hk; rw [hst] at hk; cases hk
      · unfold En.txt at hk; rw [hst] at hk
        injection hk with h1 h2
        subst h1 h2
        obtain ⟨A, c, he, ⟨h1, h2, h3⟩, h4, h5⟩ := hf
        have hxl : ((xs.drop 2).take (Oc.val (xs.take 2))).length = Oc.val (xs.take 2) := h2
        refine ⟨A, c, by rw [hxl]; exact he, ⟨by rw [hxl]; exact h1, fun h0 => ?_⟩, h4, h5, Oc.bytes_drop hb _, by rw [List.length_drop]; omega, Oc.bytes_take (Oc.bytes_drop hb _) _, by rw [hxl]; omega⟩
        rw [hxl] at h0 ⊢
        obtain ⟨g, cs, e1, e2, e3⟩ := h3 h0
        exact ⟨g, cs, c, by rw [e1], e2, e3⟩
def OidR (w0 w : World) (i r : Nat) (xs : List Nat) (a : Nat → Addr) (e : Ending) (w' : World) : Prop :=
  (∀ k, En.oid xs = .bad k → Fails w r (ev (a (k - 1))) e w') ∧ ∀ x zs, En.oid xs = .ok x zs → e = .returned (.agg (u8s x)) ∧ Id32 x ∧ InAt w0 w' i r zs ∧ w.grownBy w' (some r) ∧ Oc.bytes zs ∧ zs.length ≤ xs.length
theorem eoidE_any (i r : Nat) (xs : List Nat) (a : Nat → Addr) (w0 w : World) (h : InAt w0 w i r xs) (hb : Oc.bytes xs) (hS : ESents w0 a) :
    Calls Tryz.prog 61 #[.pointer (some ⟨i, 0, none⟩)] w (OidR w0 w i r xs a) := by
  obtain ⟨hs1, hs2⟩ := in_ne h hS.p.1
  have hst := step_oid xs
  by_cases hl : xs.length < 32
  · rw [if_pos hl] at hst
    refine (oid_short i r (a 1) xs w0 w h hl hs2).mono fun e w' hf => ⟨fun k hk => ?_, fun n zs hk => ?_⟩
    · unfold En.oid at hk; rw [hst] at hk; injection hk with hk; subst hk; exact hf
    · unfold En.oid at hk; rw [hst] at hk; cases hk
  · rw [if_neg hl] at hst
    refine (oid_ok i r xs w0 w h (by omega)).mono fun e w' hf => ⟨fun k hk => ?_, fun x zs hk => ?_⟩
    · unfold En.oid at hk; rw [hst] at hk; cases hk
    · unfold En.oid at hk; rw [hst] at hk
      injection hk with h1 h2
      subst h1 h2
      exact ⟨hf.1, id_take hb (by omega), hf.2.1, hf.2.2, Oc.bytes_drop hb _, by rw [List.length_drop]; omega⟩
end Go.Proofs.YtjkneidoochfjaaGreatDoor
/- An entry while it is read: what stands. -/
namespace Go.Proofs.YtjkneidoochfjaaGreatDoor
open Go Go.RowKit
theorem CpT.lower {B B' : Nat} {w : World} {u : Value} {xs : List Nat} (h : CpT B w u xs) (hB : B' ≤ B) : CpT B' w u xs :=
  ⟨h.rd, fun h0 => by
    obtain ⟨g, cs, c, h1, h2, h3⟩ := h.off h0
    exact ⟨g, cs, c, h1, Nat.le_trans hB h2, h3⟩⟩
theorem CpT.kpt {m : Nat} {w w' : World} {u : Value} {xs : List Nat} (h : CpT m w u xs) (k : Kpt (fun b => b < m) w w') : CpT m w' u xs := by
  refine ⟨?_, fun h0 => ?_⟩
  · obtain ⟨A, c, hv, hc, hA⟩ := h.rd
    refine ⟨A, c, hv, hc, fun h0 => ?_⟩
    obtain ⟨b, o, ha, hl, hx⟩ := hA h0
    obtain ⟨g, cs, c2, hu, hB, hgb⟩ := h.off h0
    rw [hv, ha] at hu
    injection hu with e1 _ _
    injection e1 with e1
    injection e1 with e1 _ _
    subst e1
    exact ⟨b, o, ha, Nat.lt_of_lt_of_le hl k.size, fun i hi => k.cell (hx i hi) (by show ¬ b < m; omega)⟩
  · obtain ⟨g, cs, c, hu, hB, hgb⟩ := h.off h0
    exact ⟨g, cs, c, hu, hB, k.blk hgb (by omega)⟩
/-- an entry all of whose rows lie above m -/
structure EnO (m : Nat) (w : World) (e : En.E) (cs : Array Value) (U : Option Addr) (cu : Nat) (O : Option Addr) (co : Nat) (ts : List En.Bt) : Prop where
  cells : cs = #[.int .i64 e.client, .int .i64 e.number, .int .i64 e.answer, .slice U e.ups.length cu, .slice O e.objs.length co]
  ups : w.ownsRow m 56 65 (.slice U e.ups.length cu) e.ups.length (cellsU e.ups)
  fit : ∀ u ∈ e.ups, u.Fit
  objs : w.ownsRow m 32 1 (.slice O e.objs.length co) e.objs.length (ts.map (·.val))
  txt : ∀ t ∈ ts, CpT m w t.val t.text ∧ Oc.bytes t.text
  txe : ts.map (·.text) = e.objs
section
variable {m : Nat} {w w' : World} {e : En.E} {cs : Array Value} {U O : Option Addr} {cu co : Nat} {ts : List En.Bt}
theorem EnO.kpt (h : EnO m w e cs U cu O co ts) (k : Kpt (fun b => b < m) w w') : EnO m w' e cs U cu O co ts :=
  ⟨h.cells, own_kpt h.ups k, h.fit, own_kpt h.objs k, fun t ht => ⟨(h.txt t ht).1.kpt k, (h.txt t ht).2⟩, h.txe⟩
theorem EnO.lower {m' : Nat} (h : EnO m w e cs U cu O co ts) (hm : m' ≤ m) : EnO m' w e cs U cu O co ts :=
  ⟨h.cells, own_low h.ups hm, h.fit, own_low h.objs hm, fun t ht => ⟨(h.txt t ht).1.lower hm, (h.txt t ht).2⟩, h.txe⟩
theorem EnO.enc (h : EnO m w e cs U cu O co ts) : EnC w e cs U cu O co ts :=
  ⟨h.cells, rdk_own h.ups, h.fit, ⟨by rw [← h.txe, List.length_map], fun h0 => by
    rcases h.objs.2 with ⟨_, h'⟩ | ⟨g', cap', cur, h', _, hgg, hnc, hcm, hcs, htk⟩
    · omega
    · injection h' with e1 _ _
      refine ⟨g', 0, e1, (Array.getElem?_eq_some_iff.1 hgg).1, fun i t ht => ?_⟩
      have hB : Blk w g' 32 cur := hgg
      have h3 : (ts.map (·.val))[i]? = some t.val := by rw [List.getElem?_map, ht]; rfl
      rw [Nat.zero_add, hB.cell i]
      rw [← htk, List.getElem?_take] at h3
      split at h3
      · simpa using h3
      · exact absurd h3 (by simp), fun t ht => ⟨(h.txt t ht).1.rd, byte_of (h.txt t ht).2⟩⟩, h.txe⟩
theorem EnO.size (h : EnO m w e cs U cu O co ts) : cs.size = 5 := by rw [h.cells]; rfl
theorem EnO.one (h : EnO m w e cs U cu O co ts) : cs.all (·.oneCell') = true := by rw [h.cells]; simp [Value.oneCell']
end
/-- what stands while an entry is read -/
structure RdE (w0 w wr : World) (i r : Nat) (x y z : Int) (vU : Value) (us : List En.Up) (vO : Value) (ts : List En.Bt) (ys : List Nat) : Prop where
  at_ : InAt w0 wr i r ys
  bys : Oc.bytes ys
  box : Blk wr (w.heap.size + 1) 25 #[.int .i64 x, .int .i64 y, .int .i64 z, vU, vO]
  res : Blk wr w.heap.size 25 zE
  ups : wr.ownsRow (w.heap.size + 2) 56 65 vU us.length (cellsU us)
  objs : wr.ownsRow (w.heap.size + 2) 32 1 vO ts.length (ts.map (·.val))
  txt : ∀ t ∈ ts, CpT (w.heap.size + 2) wr t.val t.text ∧ Oc.bytes t.text
  fit : ∀ u ∈ us, u.Fit
  kpt : Kpt (fun b => b = r) w wr
  old : r < w.heap.size ∧ i < w.heap.size
section
variable {w0 w wr w' : World} {i r : Nat} {x y z : Int} {vU vO v2 : Value} {us : List En.Up} {ts : List En.Bt} {ys zs : List Nat}
theorem InAt.typ (h : InAt w0 wr i r ys) : ∀ g, some r = some g → ∃ cs T z, wr.heap[g]? = some (.cells cs T z) ∧ T ≠ 5 := fun g e => by
  injection e with e
  subst e
  obtain ⟨u, k, _⟩ := h
  exact ⟨_, _, _, k.r_, by decide⟩
theorem RdE.big (h : RdE w0 w wr i r x y z vU us vO ts ys) : w.heap.size + 2 ≤ wr.heap.size := by have := h.box.lt; omega
theorem RdE.read (h : RdE w0 w wr i r x y z vU us vO ts ys) (hg : wr.grownBy w' (some r)) (hi : InAt w0 w' i r zs) (hb : Oc.bytes zs) : RdE w0 w w' i r x y z vU us vO ts zs :=
  have ne : ∀ {g}, w.heap.size ≤ g → some g ≠ some r := fun hg e => by injection e with e; have := h.old.1; omega
  have no : ∀ {v : Value} {e zz n : Nat} {cs : List Value}, wr.ownsRow (w.heap.size + 2) e zz v n cs → v.ownBlock = none ∨ v.ownBlock ≠ some r := fun {v _ _ _ _} ho => by
    cases hv : v.ownBlock with
    | none => exact Or.inl rfl
    | some g => exact Or.inr (fun e => by have h5 := World.ownsRow.lt ho g hv; have h6 := h.old.1; injection e with e; omega)
  ⟨hi, hb, h.box.grown hg (ne (by omega)), h.res.grown hg (ne (Nat.le_refl _)), h.ups.kept hg (no h.ups), h.objs.kept hg (no h.objs), fun t ht => ⟨(h.txt t ht).1.grown hg h.at_.typ, (h.txt t ht).2⟩, h.fit, h.kpt.trans (Kpt.of_grown hg rfl), h.old⟩
theorem RdE.below (h : RdE w0 w wr i r x y z vU us vO ts ys) (hb : Below wr.heap.size wr w') : RdE w0 w w' i r x y z vU us vO ts ys :=
  have no : ∀ {v : Value} {e zz n : Nat} {cs : List Value}, wr.ownsRow (w.heap.size + 2) e zz v n cs → v.ownBlock = none ∨ v.ownBlock ≠ none := fun {v _ _ _ _} ho => by
    cases hv : v.ownBlock with
    | none => exact Or.inl rfl
    | some g => exact Or.inr (by simp)
  ⟨h.at_.below hb, h.bys, h.box.below hb h.box.lt, h.res.below hb h.res.lt, h.ups.kept (only_of_below hb none) (no h.ups), h.objs.kept (only_of_below hb none) (no h.objs), fun t ht => ⟨(h.txt t ht).1.below hb, (h.txt t ht).2⟩, h.fit, h.kpt.trans (Kpt.of_below hb), h.old⟩
/-- what a store into the box, or onto a row of one's own, leaves -/
theorem RdE.mid (h : RdE w0 w wr i r x y z vU us vO ts ys) {g : Nat} (hg : wr.grownBy w' (some g)) (hl : w.heap.size < g) (hT : ∃ cs T, Blk wr g T cs ∧ T ≠ 5) : InAt w0 w' i r ys ∧ Blk w' w.heap.size 25 zE ∧ (∀ t ∈ ts, CpT (w.heap.size + 2) w' t.val t.text ∧ Oc.bytes t.text) ∧ Kpt (fun b => b = r) w w' := by
  obtain ⟨cs, T, hb, ht⟩ := hT
  have hty : ∀ g', some g = some g' → ∃ cs T z, wr.heap[g']? = some (.cells cs T z) ∧ T ≠ 5 := fun g' e => by injection e with e; subst e; exact ⟨cs, T, _, hb, ht⟩
  refine ⟨?_, h.res.grown hg (fun e => by injection e with e; omega), fun t htm => ⟨(h.txt t htm).1.grown hg hty, (h.txt t htm).2⟩, ?_⟩
  · obtain ⟨v, k, hr, hw, h1, h2⟩ := h.at_
    have := h.old.1
    have := h.old.2
    exact ⟨v, ⟨k.i_.grown hg (fun e => by injection e with e; omega), k.r_.grown hg (fun e => by injection e with e; omega), k.ne⟩, hr, below_of_only hw hg (by omega), h1, h2⟩
  · exact ⟨hg.os.trans h.kpt.os, hg.tape.trans h.kpt.tape, hg.output.trans h.kpt.output, Nat.le_trans h.kpt.size hg.size, fun b hb hs => (hg.block b (Nat.lt_of_lt_of_le hb h.kpt.size) (fun e => by injection e with e; omega)).trans (h.kpt.block b hb hs)⟩
theorem own_off2 {B zz n g T : Nat} {t : TypeId} {v : Value} {xs : List Value} {cs : Array Value} (h : wr.ownsRow B t zz v n xs) (hg : wr.grownBy w' (some g)) (hb : Blk wr g T cs) (hT : t ≠ T) : w'.ownsRow B t zz v n xs :=
  h.kept hg (by
    cases hv : v.ownBlock with
    | none => exact Or.inl rfl
    | some g' =>
      obtain ⟨cs', hg'⟩ := own_blk h hv
      exact Or.inr (fun e => by injection e with e; exact blk_ne hg' hb hT e))
/-- a field of the box is stored -/
theorem RdE.set (h : RdE w0 w wr i r x y z vU us vO ts ys) (k : Nat) (u : Value) {x' y' z' : Int} {vU' vO' : Value} (e : (#[.int .i64 x, .int .i64 y, .int .i64 z, vU, vO] : Array Value).setIfInBounds k u = #[.int .i64 x', .int .i64 y', .int .i64 z', vU', vO'])
    {us' : List En.Up} {ts' : List En.Bt} (hu : wr.ownsRow (w.heap.size + 2) 56 65 vU' us'.length (cellsU us')) (ho : wr.ownsRow (w.heap.size + 2) 32 1 vO' ts'.length (ts'.map (·.val))) (hf : ∀ u ∈ us', u.Fit) (ht : ∀ t ∈ ts', CpT (w.heap.size + 2) wr t.val t.text ∧ Oc.bytes t.text) : RdE w0 w (wr.setCell ⟨w.heap.size + 1, k, none⟩ u) i r x' y' z' vU' us' vO' ts' ys := by
  have hg : wr.grownBy (wr.setCell ⟨w.heap.size + 1, k, none⟩ u) (some (w.heap.size + 1)) := only_setCell (World.grownBy.refl wr _) (Or.inl rfl) u
  obtain ⟨h1, h2, _, h4⟩ := h.mid hg (by omega) ⟨_, _, h.box, by decide⟩
  exact ⟨h1, h.bys, e ▸ h.box.set_ k u, h2, own_off2 hu hg h.box (by decide), own_off2 ho hg h.box (by decide), fun t htm => ⟨(ht t htm).1.grown hg (fun g' e => by injection e with e; subst e; exact ⟨_, _, _, h.box, by decide⟩), (ht t htm).2⟩, hf, h4, h.old⟩
/-- behind an append onto one of the rows -/
structure RdG (w0 w wr : World) (i r : Nat) (x y z : Int) (vU : Value) (us : List En.Up) (vO : Value) (ts : List En.Bt) (ys : List Nat) (vU' : Value) (us' : List En.Up) (vO' : Value) (ts' : List En.Bt) : Prop where
  at_ : InAt w0 wr i r ys
  bys : Oc.bytes ys
  box : Blk wr (w.heap.size + 1) 25 #[.int .i64 x, .int .i64 y, .int .i64 z, vU, vO]
  res : Blk wr w.heap.size 25 zE
  ups : wr.ownsRow (w.heap.size + 2) 56 65 vU' us'.length (cellsU us')
  objs : wr.ownsRow (w.heap.size + 2) 32 1 vO' ts'.length (ts'.map (·.val))
  txt : ∀ t ∈ ts', CpT (w.heap.size + 2) wr t.val t.text ∧ Oc.bytes t.text
  fit : ∀ u ∈ us', u.Fit
  kpt : Kpt (fun b => b = r) w wr
  old : r < w.heap.size ∧ i < w.heap.size
theorem RdG.done {vU' vO' : Value} {us' : List En.Up} {ts' : List En.Bt} (h : RdG w0 w wr i r x y z vU us vO ts ys vU' us' vO' ts') (k : Nat) (u : Value) {x' y' z' : Int} (e : (#[.int .i64 x, .int .i64 y, .int .i64 z, vU, vO] : Array Value).setIfInBounds k u = #[.int .i64 x', .int .i64 y', .int .i64 z', vU', vO']) : RdE w0 w (wr.setCell ⟨w.heap.size + 1, k, none⟩ u) i r x' y' z' vU' us' vO' ts' ys := by
  have hg : wr.grownBy (wr.setCell ⟨w.heap.size + 1, k, none⟩ u) (some (w.heap.size + 1)) := only_setCell (World.grownBy.refl wr _) (Or.inl rfl) u
  have hty : ∀ g', some (w.heap.size + 1) = some g' → ∃ cs T z, wr.heap[g']? = some (.cells cs T z) ∧ T ≠ 5 := fun g' e => by injection e with e; subst e; exact ⟨_, _, _, h.box, by decide⟩
  refine ⟨?_, h.bys, e ▸ h.box.set_ k u, h.res.grown hg (fun e => by injection e with e; omega), own_off2 h.ups hg h.box (by decide), own_off2 h.objs hg h.box (by decide), fun t htm => ⟨(h.txt t htm).1.grown hg hty, (h.txt t htm).2⟩, h.fit, ?_, h.old⟩
  · obtain ⟨v, k, hr, hw, h1, h2⟩ := h.at_
    have := h.old.1
    have := h.old.2
    exact ⟨v, ⟨k.i_.grown hg (fun e => by injection e with e; omega), k.r_.grown hg (fun e => by injection e with e; omega), k.ne⟩, hr, below_of_only hw hg (by omega), h1, h2⟩
  · exact ⟨hg.os.trans h.kpt.os, hg.tape.trans h.kpt.tape, hg.output.trans h.kpt.output, Nat.le_trans h.kpt.size hg.size, fun b hb hs => (hg.block b (Nat.lt_of_lt_of_le hb h.kpt.size) (fun e => by injection e with e; omega)).trans (h.kpt.block b hb hs)⟩
theorem own_opt {B zz n : Nat} {t : TypeId} {v : Value} {xs : List Value} (h : wr.ownsRow B t zz v n xs) : v.ownBlock = none ∨ ∃ g cs, v.ownBlock = some g ∧ B ≤ g ∧ Blk wr g t cs := by
  cases hv : v.ownBlock with
  | none => exact Or.inl rfl
  | some g =>
    obtain ⟨cs, hb⟩ := own_blk h hv
    exact Or.inr ⟨g, cs, rfl, (h.lt g hv).1, hb⟩
theorem RdE.app {row : Option Nat} (h : RdE w0 w wr i r x y z vU us vO ts ys) (hg : wr.grownBy w' row) (hr : row = none ∨ ∃ g cs T, row = some g ∧ w.heap.size + 2 ≤ g ∧ Blk wr g T cs ∧ T ≠ 5 ∧ T ≠ 25) : InAt w0 w' i r ys ∧ Blk w' (w.heap.size + 1) 25 #[.int .i64 x, .int .i64 y, .int .i64 z, vU, vO] ∧ Blk w' w.heap.size 25 zE ∧ (∀ (u : Value) (l : List Nat), CpT (w.heap.size + 2) wr u l → CpT (w.heap.size + 2) w' u l) ∧ Kpt (fun b => b = r) w w' := by
  rcases hr with rfl | ⟨g, cs, T, rfl, hl, hb, hT, hE⟩
  · have hbl : Below wr.heap.size wr w' := ⟨hg.os, hg.tape, hg.output, hg.size, fun b hb => hg.block b hb (by simp)⟩
    have h1 := h.below hbl
    exact ⟨h1.at_, h1.box, h1.res, fun u l hu => hu.below hbl, h1.kpt⟩
  · obtain ⟨h1, h2, _, h4⟩ := h.mid hg (by omega) ⟨cs, T, hb, hT⟩
    exact ⟨h1, h.box.grown hg (fun e => by injection e with e; omega), h2, fun u l hu => hu.grown hg (fun g' e => by injection e with e; subst e; exact ⟨_, _, _, hb, hT⟩), h4⟩
theorem RdE.appU (h : RdE w0 w wr i r x y z vU us vO ts ys) {u : En.Up} (hu : u.Fit) (ho : w'.ownsRow (w.heap.size + 2) 56 65 v2 (us.length + 1) (cellsU us ++ cellsU1 u)) (hg : wr.grownBy w' vU.ownBlock) : RdG w0 w w' i r x y z vU us vO ts ys v2 (us ++ [u]) vO ts := by
  have hr := own_opt h.ups
  obtain ⟨h1, h2, h3, h4, h5⟩ := h.app hg (by
    rcases hr with hr | ⟨g, cs, hr, hl, hb⟩
    · exact Or.inl hr
    · exact Or.inr ⟨g, cs, _, hr, hl, hb, by decide, by decide⟩)
  refine ⟨h1, h.bys, h2, h3, by rw [List.length_append, List.length_singleton, show cellsU (us ++ [u]) = cellsU us ++ cellsU1 u by simp [cellsU]]; exact ho, ?_, fun t ht => ⟨h4 _ _ (h.txt t ht).1, (h.txt t ht).2⟩, fun v hv => ?_, h5, h.old⟩
  · refine h.objs.kept hg ?_
    rcases hr with hr | ⟨g, cs, hr, hl, hb⟩
    · rw [hr]
      cases hv : vO.ownBlock with
      | none => exact Or.inl rfl
      | some g => exact Or.inr (by simp)
    · rw [hr]
      rcases own_opt h.objs with hv | ⟨g', cs', hv, _, hb'⟩
      · exact Or.inl hv
      · exact Or.inr (fun e => by rw [hv] at e; injection e with e; exact blk_ne hb' hb (by decide) e)
  · rcases List.mem_append.1 hv with hv | hv
    · exact h.fit v hv
    · rw [List.mem_singleton.1 hv]; exact hu
theorem RdE.appT (h : RdE w0 w wr i r x y z vU us vO ts ys) {t : En.Bt} (ht : CpT (w.heap.size + 2) wr t.val t.text ∧ Oc.bytes t.text) (ho : w'.ownsRow (w.heap.size + 2) 32 1 v2 (ts.length + 1) (ts.map (·.val) ++ [t.val])) (hg : wr.grownBy w' vO.ownBlock) : RdG w0 w w' i r x y z vU us vO ts ys vU us v2 (ts ++ [t]) := by
  have hr := own_opt h.objs
  obtain ⟨h1, h2, h3, h4, h5⟩ := h.app hg (by
    rcases hr with hr | ⟨g, cs, hr, hl, hb⟩
    · exact Or.inl hr
    · exact Or.inr ⟨g, cs, _, hr, hl, hb, by decide, by decide⟩)
  refine ⟨h1, h.bys, h2, h3, ?_, by rw [List.length_append, List.length_singleton, List.map_append]; exact ho, fun t' ht' => ?_, h.fit, h5, h.old⟩
  · refine h.ups.kept hg ?_
    rcases hr with hr | ⟨g, cs, hr, hl, hb⟩
    · rw [hr]
      cases hv : vU.ownBlock with
      | none => exact Or.inl rfl
      | some g => exact Or.inr (by simp)
    · rw [hr]
      rcases own_opt h.ups with hv | ⟨g', cs', hv, _, hb'⟩
      · exact Or.inl hv
      · exact Or.inr (fun e => by rw [hv] at e; injection e with e; exact blk_ne hb' hb (by decide) e)
  · rcases List.mem_append.1 ht' with ht' | ht'
    · exact ⟨h4 _ _ (h.txt t' ht').1, (h.txt t' ht').2⟩
    · rw [List.mem_singleton.1 ht']; exact ⟨h4 _ _ ht.1, ht.2⟩
end
end Go.Proofs.YtjkneidoochfjaaGreatDoor
/- A region whose operations come up in many orders, walked by its states: what stands at each, and what each operation that may come up makes of it. -/
namespace Go.Proofs.YtjkneidoochfjaaGreatDoor
open Go Go.RowKit
theorem wpOp_of {P : Program} {ops : Array Oper} {Q : Exit → Act → World → Prop} {i : Nat} {oi : Oper} {K : Act → World → Prop} {a : Act} {w : World} (hi : ops[i]? = some oi) (wi : Region.wanted oi (yielded ops a.tmps) = true) (h : oi.wp P a w K Q) : wpOp P ops Q i K a w := by
  unfold wpOp
  simp only [hi, wi, if_true]
  exact Or.inl h
theorem wpAnyH_states {P : Program} {md : Region.Mode} {ops : Array Oper} {Q : Exit → Act → World → Prop} {σ : Type} (ls : σ → Array Bool) (left : σ → Nat) (I : σ → Act → World → Prop) (m : Nat)
    (hs : ∀ s a w, I s a w → left s ≠ 0 → Region.ready md ops (ls s) ≠ [] ∧ ∀ i ∈ Region.ready md ops (ls s), ∃ t, (ls s).setIfInBounds i true = ls t ∧ left t + 1 = left s ∧ wpOp P ops Q i (I t) a w)
    (h0 : ∀ s a w, I s a w → left s = 0 → wpAnyH P md ops Q (fun _ => True) m (ls s) a w) :
    ∀ k s a w, I s a w → left s = k → wpAnyH P md ops Q (fun _ => True) (m + k) (ls s) a w
  | 0, s, a, w, h, hk => h0 s a w h hk
  | k + 1, s, a, w, h, hk => by
    obtain ⟨h1, h2⟩ := hs s a w h (by omega)
    refine ⟨fun he => absurd he h1, fun i hi => ?_⟩
    obtain ⟨t, h3, h4, h5⟩ := h2 i hi
    refine wpOp_mono (fun a' w' h6 => ⟨trivial, ?_⟩) h5
    rw [h3]
    exact wpAnyH_states ls left I m hs h0 k t a' w' h6 (by omega)
theorem wpAnyH_states2 {P : Program} {md : Region.Mode} {ops : Array Oper} {Q : Exit → Act → World → Prop} {σ : Type} (ls : σ → Array Bool) (left : σ → Nat) (nx : σ → List Nat) (V : σ → Prop) (I : σ → Act → World → Prop) (m : Nat)
    (hr : ∀ s, V s → left s ≠ 0 → Region.ready md ops (ls s) = nx s) (hv : ∀ s a w, I s a w → V s) (hn : ∀ s, V s → left s ≠ 0 → nx s ≠ [])
    (hs : ∀ s a w, I s a w → ∀ i ∈ nx s, ∃ t, (ls s).setIfInBounds i true = ls t ∧ left t + 1 = left s ∧ wpOp P ops Q i (I t) a w)
    (h0 : ∀ s a w, I s a w → left s = 0 → wpAnyH P md ops Q (fun _ => True) m (ls s) a w) :
    ∀ k s a w, I s a w → left s = k → wpAnyH P md ops Q (fun _ => True) (m + k) (ls s) a w :=
  wpAnyH_states ls left I m (fun s a w h hl => by rw [hr s (hv s a w h) hl]; exact ⟨hn s (hv s a w h) hl, hs s a w h⟩) h0
/-- a frame is given a name -/
theorem frame_intro {p : Act → Prop} (a : Act) (h : ∀ x, x = a → p x) : p a := h a rfl
end Go.Proofs.YtjkneidoochfjaaGreatDoor
