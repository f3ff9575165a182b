/- What stands while the law's Row makes objects that name each other. -/
import Derived.Test.YtlodalppnglclaaDoorMOb29
import Derived.Test.YtlodalppnglclaaDoorMOb20ns
import Derived.Test.YtlodalppnglclaaDoorMCl4
import Derived.Test.YtlodalppnglclaaDoorMMapRs
import Derived.Test.YtlodalppnglclaaDoorMSortMaths
import Derived.Test.YtlodalppnglclaaDoorMLawOpenBs
import Derived.Laws.IdiomCopy
import Derived.Deep.MidRow
namespace Go.Proofs.YtlodalppnglclaaDoor
open Go Go.RowKit
namespace Cl
/-- a link, and where its row lies -/
structure Lk where
  kind : Int
  A : Option Addr
  n : Nat
  c : Nat
  to : List Int
  text : Nat
end Cl
def lkC (l : Cl.Lk) : List Value := [.int .i64 l.kind, .slice l.A l.n l.c, .int .u8 (l.text : Int)]
structure LkT (w : World) (A : Option Addr) (n : Nat) (ls : List Cl.Lk) : Prop where
  len : n = ls.length
  row : 0 < n → ∃ b o, A = some ⟨b, o, none⟩ ∧ b < w.heap.size ∧ ∀ i l, ls[i]? = some l → w.rangeAt b (o + i * 3) (lkC l)
  rd : ∀ l ∈ ls, l.n = l.to.length ∧ l.text < 256 ∧ l.n ≤ 9223372036854775807 ∧ (0 < l.n → ∃ b o, l.A = some ⟨b, o, none⟩ ∧ b < w.heap.size ∧ ∀ j z, l.to[j]? = some z → w.cell? ⟨b, o + j, none⟩ = some (.int .i64 z))
theorem LkT.below {w w' : World} {A : Option Addr} {n : Nat} {ls : List Cl.Lk} (h : LkT w A n ls) (hb : Below w.heap.size w w') : LkT w' A n ls :=
  ⟨h.len, fun h0 => by
    obtain ⟨b, o, ha, hl, hx⟩ := h.row h0
    exact ⟨b, o, ha, Nat.lt_of_lt_of_le hl hb.size, fun i l hi j u hu => (hb.cell (p := ⟨b, _, none⟩) hl).trans (hx i l hi j u hu)⟩, fun l hl => by
    obtain ⟨h1, h2, h4, h3⟩ := h.rd l hl
    refine ⟨h1, h2, h4, fun h0 => ?_⟩
    obtain ⟨b, o, ha, hl, hx⟩ := h3 h0
    exact ⟨b, o, ha, Nat.lt_of_lt_of_le hl hb.size, fun j z hj => (hb.cell (p := ⟨b, _, none⟩) hl).trans (hx j z hj)⟩⟩
/-- rows of different types lie apart -/
theorem own_apart {w : World} {B1 B2 z1 z2 n1 n2 : Nat} {t1 t2 : TypeId} {v1 v2 : Value} {x1 x2 : List Value} (h1 : w.ownsRow B1 t1 z1 v1 n1 x1) (h2 : w.ownsRow B2 t2 z2 v2 n2 x2) (ht : t1 ≠ t2) : ∀ b, v1.ownBlock = some b → v2.ownBlock ≠ some b := fun b e1 e2 => by
  rcases h1.2 with ⟨hv, _⟩ | ⟨g, cap, cur, hv, hb, hh, _⟩
  · rw [hv] at e1; simp [Value.ownBlock] at e1
  · rcases h2.2 with ⟨hv2, _⟩ | ⟨g2, cap2, cur2, hv2, hb2, hh2, _⟩
    · rw [hv2] at e2; simp [Value.ownBlock] at e2
    · rw [hv] at e1
      rw [hv2] at e2
      have e1 : g = b := by simpa [Value.ownBlock] using e1
      have e2 : g2 = b := by simpa [Value.ownBlock] using e2
      rw [e1] at hh
      rw [e2, hh] at hh2
      injection hh2 with hh2
      injection hh2 with _ h3 _
      exact ht h3
/-- the texts made so far, those in the row of texts, and the ids in the row of ids -/
structure RowSt (w0 wr : World) (vo va : Value) (ps os : List Cl.T) (ids : List (List Nat)) : Prop where
  oo : wr.ownsRow w0.heap.size 40 1 vo os.length (os.map (·.val))
  oa : wr.ownsRow w0.heap.size 37 32 va ids.length (cellsP ids)
  tx : ∀ p ∈ ps, wr.ownsRow w0.heap.size 5 1 p.val p.text.length (cellsB p.text) ∧ Sha.Byte p.text ∧ p.text.length ≤ 300
  bel : Below w0.heap.size w0 wr
section
variable {w0 wr w' : World} {vo va v2 : Value} {ps os : List Cl.T} {ids : List (List Nat)}
theorem RowSt.below (h : RowSt w0 wr vo va ps os ids) (hb : Below wr.heap.size wr w') : RowSt w0 w' vo va ps os ids :=
  ⟨own_below h.oo hb, own_below h.oa hb, fun p hp => ⟨own_below (h.tx p hp).1 hb, (h.tx p hp).2⟩, below_next h.bel hb⟩
theorem RowSt.text (h : RowSt w0 wr vo va ps os ids) {p : Cl.T} (hp : wr.ownsRow w0.heap.size 5 1 p.val p.text.length (cellsB p.text)) (hb : Sha.Byte p.text) (hl : p.text.length ≤ 300) : RowSt w0 wr vo va (ps ++ [p]) os ids :=
  ⟨h.oo, h.oa, fun q hq => by
    rcases List.mem_append.1 hq with hq | hq
    · exact h.tx q hq
    · rw [List.mem_singleton.1 hq]; exact ⟨hp, hb, hl⟩, h.bel⟩
theorem RowSt.putO (h : RowSt w0 wr vo va ps os ids) {p : Cl.T} (ho : w'.ownsRow w0.heap.size 40 1 v2 (os.length + 1) (os.map (·.val) ++ [p.val])) (hg : wr.grownBy w' vo.ownBlock) : RowSt w0 w' v2 va ps (os ++ [p]) ids :=
  ⟨by rw [List.length_append, List.length_singleton, List.map_append]; exact ho, own_grow h.oa hg (own_apart h.oa h.oo (by decide)), fun q hq => ⟨own_grow (h.tx q hq).1 hg (own_apart (h.tx q hq).1 h.oo (by decide)), (h.tx q hq).2⟩, cl_grow h.bel hg (fun y hy => (own_in h.oo hy).1)⟩
theorem RowSt.putA (h : RowSt w0 wr vo va ps os ids) {x : List Nat} (ho : w'.ownsRow w0.heap.size 37 32 v2 (ids.length + 1) (cellsP ids ++ cellsB x)) (hg : wr.grownBy w' va.ownBlock) : RowSt w0 w' vo v2 ps os (ids ++ [x]) :=
  ⟨own_grow h.oo hg (own_apart h.oo h.oa (by decide)), by rw [List.length_append, List.length_singleton, cellsP_snoc]; exact ho, fun q hq => ⟨own_grow (h.tx q hq).1 hg (own_apart (h.tx q hq).1 h.oa (by decide)), (h.tx q hq).2⟩, cl_grow h.bel hg (fun y hy => (own_in h.oa hy).1)⟩
end
theorem own_new {w : World} {t z : Nat} {B : Nat} (h : B ≤ w.heap.size) : (w.alloc (.cells #[] t)).ownsRow B t z (.slice (some ⟨w.heap.size, 0, none⟩) 0 0) 0 [] :=
  ⟨by simp, .inr ⟨w.heap.size, 0, #[], rfl, h, heap_alloc_new w _, Nat.le_refl _, by unfold maxLen; omega, by simp, by simp⟩⟩
/-- the row of what a link names -/
structure ToSt (w1 wx : World) (v : Value) (tl : List (List Nat)) : Prop where
  own : wx.ownsRow w1.heap.size 37 32 v tl.length (cellsP tl)
  ids : ∀ x ∈ tl, Id32 x
  few : tl.length ≤ 4
  bel : Below w1.heap.size w1 wx
section
variable {w1 wx w' : World} {v v2 : Value} {tl : List (List Nat)} {x : List Nat}
theorem ToSt.below (h : ToSt w1 wx v tl) (hb : Below wx.heap.size wx w') : ToSt w1 w' v tl := ⟨own_below h.own hb, h.ids, h.few, below_next h.bel hb⟩
theorem ToSt.put (h : ToSt w1 wx v tl) (hx : Id32 x) (hl : tl.length < 4) (ho : w'.ownsRow w1.heap.size 37 32 v2 (tl.length + 1) (cellsP tl ++ cellsB x)) (hg : wx.grownBy w' v.ownBlock) : ToSt w1 w' v2 (tl ++ [x]) :=
  ⟨by rw [List.length_append, List.length_singleton, cellsP_snoc]; exact ho, fun y hy => by
    rcases List.mem_append.1 hy with hy | hy
    · exact h.ids y hy
    · rw [List.mem_singleton.1 hy]; exact hx, by rw [List.length_append, List.length_singleton]; omega, cl_grow h.bel hg (fun y hy => (own_in h.own hy).1)⟩
end
theorem lk_rem (x : Int) (m : Nat) (h0 : 0 < m) (hm : m ≤ 1000) (p : Nat) (hp : p ≤ 1000) : ∃ r : Nat, r < m ∧ (IntKind.u64.wrap x).tmod (m : Int) = (r : Int) ∧ wrap64 (r : Int) = (r : Int) ∧ wrap64 ((p : Int) + (r : Int)) = ((p + r : Nat) : Int) := by
  have h1 : 0 ≤ x % 18446744073709551616 := Int.emod_nonneg _ (by omega)
  have h2 : (IntKind.u64.wrap x).tmod (m : Int) = (x % 18446744073709551616) % (m : Int) := by
    rw [wrap_u64, Int.tmod_eq_emod_of_nonneg h1]
  have h3 : 0 ≤ (x % 18446744073709551616) % (m : Int) := Int.emod_nonneg _ (by omega)
  have h4 : (x % 18446744073709551616) % (m : Int) < (m : Int) := Int.emod_lt_of_pos _ (by omega)
  refine ⟨((x % 18446744073709551616) % (m : Int)).toNat, by omega, by rw [h2]; omega, IntWalk.wrap64_in _ (by omega), ?_⟩
  rw [IntWalk.wrap64_in _ (by omega)]
  omega
/-- how Row ends -/
def RowPost (w : World) (e : Ending) (w' : World) : Prop :=
  ∃ vo va, Below w.heap.size w w' ∧ (e = .returned (.tuple #[vo, va, .bool false]) ∨ (e = .returned (.tuple #[vo, va, .bool true]) ∧ ∃ its, RowSt w w' vo va its its (its.map fun p => Sha.sum p.text) ∧ its.length ≤ 20))
end Go.Proofs.YtlodalppnglclaaDoor
/- The object that the law's Row fills. -/
namespace Go.Proofs.YtlodalppnglclaaDoor
open Go Go.RowKit
theorem own_put {w w' : World} {go z n : Nat} {t : TypeId} {v : Value} {xs : List Value} {B : Nat} (h : w.ownsRow B t z v n xs) (hg : w.grownBy w' (some go)) (hB : go < B) : w'.ownsRow B t z v n xs := h.kept hg (own_far h hB)
/-- an object in block go while it is filled -/
structure BW (w0 wr : World) (go : Nat) (o : Ob) (T E : Option Addr) (tc ec : Nat) : Prop where
  box : Blk wr go 50 (cellsOb o.kind (.slice T o.text.length tc) (.slice E o.ents.length ec) nilV o.target).toArray
  text : wr.ownsRow (go + 1) 5 1 (.slice T o.text.length tc) o.text.length (cellsB o.text)
  ents : wr.ownsRow (go + 1) 78 33 (.slice E o.ents.length ec) o.ents.length (cellsE o.ents)
  bel : Below w0.heap.size w0 wr
  old : w0.heap.size ≤ go
section
variable {w0 wr w' : World} {go tc ec : Nat} {o : Ob} {T E : Option Addr}
theorem BW.below (h : BW w0 wr go o T E tc ec) (hb : Below wr.heap.size wr w') : BW w0 w' go o T E tc ec :=
  ⟨h.box.below hb h.box.lt, own_below h.text hb, own_below h.ents hb, below_next h.bel hb, h.old⟩
theorem BW.obc (h : BW w0 wr go o T E tc ec) (hp : o.pars = []) : ObC wr o (cellsOb o.kind (.slice T o.text.length tc) (.slice E o.ents.length ec) nilV o.target).toArray T tc E ec none 0 :=
  ⟨by rw [hp]; rfl, rd_own h.text, rdk_own h.ents, by rw [hp]; exact RdK.nil _ _⟩
theorem own_single (w : World) (t : TypeId) (v : Value) {B : Nat} (h : B ≤ w.heap.size) : (w.alloc (.cells #[v] t)).ownsRow B t 1 (.slice (some ⟨w.heap.size, 0, none⟩) 1 1) 1 [v] :=
  ⟨rfl, .inr ⟨w.heap.size, 1, #[v], rfl, h, heap_alloc_new w _, Nat.le_refl _, by unfold maxLen; omega, rfl, rfl⟩⟩
theorem BW.put1 {k : Int} {es : List Ent} {x : List Nat} {z : Nat} (h : BW w0 wr go ⟨k, [], es, x, []⟩ none E 0 ec) : BW w0 ((wr.alloc (.cells #[.int .u8 (z : Int)] 5)).setCell ⟨go, 1, none⟩ (.slice (some ⟨wr.heap.size, 0, none⟩) 1 1)) go ⟨k, [z], es, x, []⟩ (some ⟨wr.heap.size, 0, none⟩) E 1 ec := by
  have hb : Below wr.heap.size wr (wr.alloc (.cells #[.int .u8 (z : Int)] 5)) := (Below.refl _ _).alloc (Nat.le_refl _) _
  have h2 := h.below hb
  have hg := grown_cell (wr.alloc (.cells #[.int .u8 (z : Int)] 5)) go 1 (.slice (some ⟨wr.heap.size, 0, none⟩) 1 1)
  refine ⟨?_, own_put (own_single wr _ _ (by have := h.box.lt; omega)) hg (Nat.lt_succ_self go), own_put h2.ents hg (Nat.lt_succ_self go), cl_grow h2.bel hg (fun y hy => by injection hy with hy; have := h.old; omega), h.old⟩
  have h3 := h2.box.set_ 1 (.slice (some ⟨wr.heap.size, 0, none⟩) 1 1)
  rw [cellsOb_k1] at h3
  exact h3
theorem BW.put3 {k : Int} {tx : List Nat} {es : List Ent} {x tg : List Nat} {ps : List (List Nat)} (h : BW w0 wr go ⟨k, tx, es, x, ps⟩ T E tc ec) (hx : x.length = 32) (ht : tg.length = 32) : BW w0 (wr.setCells go 3 (cellsB tg)) go ⟨k, tx, es, tg, ps⟩ T E tc ec := by
  have hg := grown_cells go (cellsB tg) 3 wr wr (World.grownBy.refl _ _)
  refine ⟨?_, own_put h.text hg (Nat.lt_succ_self go), own_put h.ents hg (Nat.lt_succ_self go), cl_grow h.bel hg (fun y hy => by injection hy with hy; have := h.old; omega), h.old⟩
  exact blk_cells (t := 50) [nilV] (cellsB tg) (cellsB x) [.int .i64 k, .slice T tx.length tc, .slice E es.length ec] 3 wr (by rw [cellsB_len, cellsB_len, hx, ht]) rfl h.box
theorem BW.put2 {k : Int} {tx : List Nat} {es fs : List Ent} {x : List Nat} {ps : List (List Nat)} {F : Option Addr} {fc : Nat} (h : BW w0 wr go ⟨k, tx, es, x, ps⟩ T E tc ec) (ho : w'.ownsRow (go + 1) 78 33 (.slice F fs.length fc) fs.length (cellsE fs)) (hg : wr.grownBy w' (Value.slice E es.length ec).ownBlock) : BW w0 (w'.setCell ⟨go, 2, none⟩ (.slice F fs.length fc)) go ⟨k, tx, fs, x, ps⟩ T F tc fc := by
  have hne : ∀ y, (Value.slice E es.length ec).ownBlock = some y → go < y := fun y hy => by have := (own_in h.ents hy).1; omega
  have hbx : Blk w' go 50 (cellsOb k (.slice T tx.length tc) (.slice E es.length ec) nilV x).toArray := h.box.stands (hg.block go h.box.lt (fun e => by have := hne go e.symm; omega))
  have htx : w'.ownsRow (go + 1) 5 1 (.slice T tx.length tc) tx.length (cellsB tx) := own_grow h.text hg (own_apart h.text h.ents (by decide))
  have hg2 := grown_cell w' go 2 (.slice F fs.length fc)
  have hbl := cl_grow h.bel hg (fun y hy => by have := hne y hy; have := h.old; omega)
  refine ⟨?_, own_put htx hg2 (Nat.lt_succ_self go), own_put ho hg2 (Nat.lt_succ_self go), cl_grow hbl hg2 (fun y hy => by injection hy with hy; have := h.old; omega), h.old⟩
  have h3 := hbx.set_ 2 (.slice F fs.length fc)
  rw [cellsOb_k2] at h3
  exact h3
end
theorem BW.grown_box {w0 wr w' : World} {go tc ec : Nat} {o : Ob} {T E : Option Addr} (h : BW w0 wr go o T E tc ec) (hg : wr.grownBy w' (Value.slice E o.ents.length ec).ownBlock) : Blk w' go 50 (cellsOb o.kind (.slice T o.text.length tc) (.slice E o.ents.length ec) nilV o.target).toArray :=
  h.box.stands (hg.block go h.box.lt (fun e => by have := (own_in h.ents e.symm).1; omega))
theorem lk_small (j : Nat) (h : j < 4) : IntKind.u8.wrap (97 + (j : Int)) = ((97 + j : Nat) : Int) := by
  show (97 + (j : Int)) % 256 = _
  omega
theorem lk_small2 (j : Nat) (h : j < 4) : wrap64 (97 + (j : Int)) = 97 + (j : Int) := IntWalk.wrap64_in _ (by omega)
/-- all but the first of a row's ids -/
theorem rdk_rest {w : World} {g n c B : Nat} {x : List Nat} {tl : List (List Nat)} (h : w.ownsRow B 37 32 (.slice (some ⟨g, 0, none⟩) (n + 1) c) (n + 1) (cellsP (x :: tl))) (hx : x.length = 32) : RdK w (.slice (some ⟨g, 32, none⟩) n (c - 1)) n (cellsP tl) := by
  obtain ⟨A, c', hv, hc, hA⟩ := rdk_own h
  injection hv with e1 e2 e3
  obtain ⟨b, o, ha, hl, hj⟩ := hA (by omega)
  rw [← e1] at ha
  injection ha with ha
  injection ha with ha1 ha2
  refine ⟨_, c - 1, rfl, by omega, fun _ => ⟨g, 32, rfl, by omega, fun j u hu => ?_⟩⟩
  have h1 := hj (32 + j) u (by
    show (cellsB x ++ cellsP tl)[32 + j]? = some u
    rw [List.getElem?_append_right (by rw [cellsB_len, hx]; omega), cellsB_len, hx, show 32 + j - 32 = j by omega]
    exact hu)
  rw [← ha1, ← ha2] at h1
  rw [show 0 + (32 + j) = 32 + j by omega] at h1
  exact h1
/-- what the law's Row has filled -/
def ObjAt (w0 wx : World) (go : Nat) : Prop := ∃ (o : Ob) (cs : Array Value) (T E P : Option Addr) (tc ec pc : Nat), Blk wx go 50 cs ∧ ObC wx o cs T tc E ec P pc ∧ o.Fit ∧ o.Held ∧ cs.size = 36 ∧ Below w0.heap.size w0 wx
theorem BW.at_ {w0 wr : World} {go tc ec : Nat} {o : Ob} {T E : Option Addr} (h : BW w0 wr go o T E tc ec) (hp : o.pars = []) (hf : o.Fit) (hh : o.Held) : ObjAt w0 wr go :=
  ⟨o, _, T, E, none, tc, ec, 0, h.box, h.obc hp, hf, hh, cellsOb_size _ _ _ _ _ hf.target.1, h.bel⟩
end Go.Proofs.YtlodalppnglclaaDoor
/- Words for slices of digests in memory: rows of 32 cells each; copy and clear of such slices. -/
namespace Go.Proofs.YtlodalppnglclaaDoor
open Go Go.RowKit
def cellsN (x : List Nat) : List Value := x.map fun (n : Nat) => Value.int .u8 (n : Int)
theorem cellsN_len (x : List Nat) : (cellsN x).length = x.length := by simp [cellsN]
theorem cellsN_arr (x : List Nat) : (cellsN x).toArray = u8s x := rfl
theorem cellsN_one (x : List Nat) : ∀ v ∈ cellsN x, v.oneCell' = true := by
  intro v hv
  obtain ⟨n, _, rfl⟩ := List.mem_map.1 hv
  rfl
/-- Block b holds these digests from its beginning on, and may be written there. -/
structure OidRow (w : World) (b : Nat) (l : List (List Nat)) : Prop where
  at_ : ∀ i, i < l.length → w.rangeAt b (32 * i) (cellsN (l.getD i []))
  room : w.there b 0 (32 * l.length)
theorem OidRow.drewN {w : World} {b : Nat} {l : List (List Nat)} (h : OidRow w b l) (n : Nat) : OidRow (w.drewN n) b l := ⟨h.at_, h.room⟩
theorem OidRow.lt {w : World} {b : Nat} {l : List (List Nat)} (h : OidRow w b l) (h0 : 0 < l.length) : b < w.heap.size := by
  obtain ⟨u, hu⟩ := Option.isSome_iff_exists.1 (h.room 0 (by omega)).1
  exact block_lt_of_cell hu
theorem OidRow.there {w : World} {b : Nat} {l : List (List Nat)} (h : OidRow w b l) {k : Nat} (hk : k < l.length) : w.there b (32 * k) 32 := fun j hj => by
  have := h.room (32 * k + j) (by omega)
  rwa [Nat.zero_add] at this
theorem OidRow.set {w : World} {b : Nat} {l : List (List Nat)} (h : OidRow w b l) (hl : Sha.Oids l) {k : Nat} (hk : k < l.length) {x : List Nat} (hx : x.length = 32) :
    OidRow (w.setCells b (32 * k) (cellsN x)) b (l.set k x) := by
  refine ⟨fun i hi => ?_, ?_⟩
  · rw [List.length_set] at hi
    by_cases e : i = k
    · subst e
      have e1 : (l.set i x).getD i [] = x := by simp [List.getD, hi]
      rw [e1]
      exact World.rangeAt_setCells_same w b (32 * i) _ (by rw [cellsN_len, hx]; exact h.there hi)
    · have e1 : (l.set k x).getD i [] = l.getD i [] := by simp [List.getD, Ne.symm e]
      rw [e1]
      refine World.rangeAt_setCells_apart (h.at_ i hi) b (32 * k) _ (Or.inr ?_)
      rw [cellsN_len, cellsN_len, hx, (hl.getD hi).1]
      omega
  · rw [List.length_set]
    exact World.there_setCells h.room b _ _
theorem below_setCells {B b : Nat} {w0 : World} (hB : B ≤ b) : ∀ (vs : List Value) (o : Nat) (w : World), Below B w0 w → Below B w0 (w.setCells b o vs)
  | [], _, _, h => h
  | v :: r, o, _w, h => below_setCells hB r (o + 1) _ (h.setCell (p := ⟨b, o, none⟩) hB v)
/-- copy of n elements of k cells each into cells that may be written -/
theorem run_copy_k {P : Program} (w : World) (dT sT ty elem : TypeId) (k n : Nat) (b o dCap : Nat) (a : Addr) (sCap : Nat) (cs : List Value)
    (hu : P.underlying dT = some (.slice elem)) (hs : (P.info? elem).map (·.size) = some k) (hn : cs.length = n * k)
    (hsrc : ∀ j v, cs[j]? = some v → w.cell? (a.add j) = some v) (ht : w.there b o cs.length) (h1 : ∀ v ∈ cs, v.oneCell' = true) :
    (Builtin.copy_ #[dT, sT] ty #[.slice (some ⟨b, o, none⟩) n dCap, .slice (some a) n sCap]).run P w = .ok (goInt n) (w.setCells b o cs) := by
  have hl := run_loadCells_list (P := P) w a cs hsrc
  have hst := run_storeCells_cells (P := P) b o cs 0 w (by simpa using fun j hj => (ht j hj).1) (by simpa using fun j hj => (ht j hj).2) h1
  cases hq : P.info? elem with
  | none => simp [hq] at hs
  | some i =>
    have hi : i.size = k := by simpa [hq] using hs
    rw [hn] at hl
    simp only [Nat.add_zero] at hst
    have hm : n.min n = n := Nat.min_self n
    simp [Builtin.copy_, run_underlying hu, Builtin.lenOf, Builtin.firstCells, sizeOf, typeInfo, hq, hi, hm, hl, hst]
/-- clear of n elements of k cells each -/
theorem run_clear_k {P : Program} (w : World) (t e ty : TypeId) (z : Value) (n : Nat) (b o c : Nat) (ht : P.underlying t = some (.slice e)) (hv : ∀ w, (zeroValue e).run P w = .ok z w) (h1 : ∀ v ∈ (Builtin.zeroCells z.cells n).toList, v.oneCell' = true)
    (hr : w.there b o (Builtin.zeroCells z.cells n).toList.length) (hn : 0 < n) :
    (Builtin.clear_ #[t] ty #[.slice (some ⟨b, o, none⟩) n c]).run P w = .ok (.tuple #[]) (w.setCells b o (Builtin.zeroCells z.cells n).toList) := by
  have hst := run_storeCells_cells (P := P) b o (Builtin.zeroCells z.cells n).toList 0 w (by simpa using fun j hj => (hr j (by simpa using hj)).1) (by simpa using fun j hj => (hr j (by simpa using hj)).2) h1
  simp only [Nat.add_zero] at hst
  obtain ⟨m, rfl⟩ : ∃ m, n = m + 1 := ⟨n - 1, by omega⟩
  simp [Builtin.clear_, run_underlying ht, hv, hst]
theorem run_sliceLo_k {P : Program} {t e : TypeId} {k : Nat} (ht : P.underlying t = some (.slice e)) (hi : (P.info? e).map (·.size) = some k) (b o len cap l : Nat) (h1 : l ≤ len) (h2 : l < cap)
    {lo : Int} (el : lo = l) (w : World) :
    (Instr.slice t (.slice (some ⟨b, o, none⟩) len cap) (some (.int .i64 lo)) none none).run P w = .ok (.slice (some ⟨b, o + k * l, none⟩) (len - l) (cap - l)) w := by
  subst el
  cases hq : P.info? e with
  | none => simp [hq] at hi
  | some i =>
    have hs : i.size = k := by simpa [hq] using hi
    have hn : ((l : Nat) : Int) ≤ len := by omega
    have hc : ¬ cap = l := by omega
    simp [Instr.slice, run_underlying ht, Instr.sliceBounds, run_sliceBound, sizeOf, typeInfo, hq, hs, hn, hc, Addr.add_mid, Nat.mul_comm]
theorem run_sliceHi_k {P : Program} {t e : TypeId} {k : Nat} (ht : P.underlying t = some (.slice e)) (hi : (P.info? e).map (·.size) = some k) (b o len cap h : Nat) (h1 : h ≤ cap) (h2 : 0 < cap)
    {hh : Int} (el : hh = h) (w : World) :
    (Instr.slice t (.slice (some ⟨b, o, none⟩) len cap) none (some (.int .i64 hh)) none).run P w = .ok (.slice (some ⟨b, o, none⟩) h cap) w := by
  subst el
  cases hq : P.info? e with
  | none => simp [hq] at hi
  | some i =>
    have hs : i.size = k := by simpa [hq] using hi
    have hn : ((h : Nat) : Int) ≤ cap := by omega
    have hc : ¬ cap = 0 := by omega
    simp [Instr.slice, run_underlying ht, Instr.sliceBounds, run_sliceBound, sizeOf, typeInfo, hq, hn, Addr.add]
/-- the address of an element of k cells -/
theorem run_index_k {P : Program} {t e : TypeId} {k : Nat} (ht : P.underlying t = some (.slice e)) (hi : (P.info? e).map (·.size) = some k) (b o n c i : Nat) (h : i < n) {ii : Int} (ei : ii = i) (w : World) :
    (Instr.indexAt t (.slice (some ⟨b, o, none⟩) n c) (.int .i64 ii)).run P w = .ok (.pointer (some ⟨b, o + k * i, none⟩)) w := by
  subst ei
  cases hq : P.info? e with
  | none => simp [hq] at hi
  | some d =>
    have hs : d.size = k := by simpa [hq] using hi
    have ha : (⟨b, o, none⟩ : Addr).add (i * k) = ⟨b, o + k * i, none⟩ := by
      rw [Addr.add_mid, Nat.mul_comm]
    simp [Instr.indexAt, asIntOf, run_underlying ht, h, sizeOf, typeInfo, hq, hs, ha]
end Go.Proofs.YtlodalppnglclaaDoor
