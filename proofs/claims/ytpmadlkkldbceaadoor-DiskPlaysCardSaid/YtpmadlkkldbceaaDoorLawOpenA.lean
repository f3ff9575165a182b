/- Arguments of laws, opened: slices of bools, slices of acts (two numbers, bytes, bools). -/
import Derived.Test.YtpmadlkkldbceaaDoorLawOpenB
import Derived.Test.YtpmadlkkldbceaaDoorDisk12
import Derived.Deep.Grids
import Derived.Lib.SmallJoins
namespace Go.Proofs.YtpmadlkkldbceaaDoor
open Go Go.RowKit Go.WideShapes Go.ChangeShapes Go.Deep
/-- an act: two numbers, bytes, bools -/
structure ActD where
  kind : Int
  n : Int
  A : Option Addr
  l : Nat
  c : Nat
  bs : List Nat
  K : Option Addr
  kl : Nat
  kc : Nat
  ts : List Bool
def ActD.cells (x : ActD) : List Value := [.int .i64 x.kind, .int .i64 x.n, .slice x.A x.l x.c, .slice x.K x.kl x.kc]
structure ActD.Ok (w : World) (x : ActD) : Prop where
  rd : Rd w (.slice x.A x.l x.c) x.bs
  len : x.bs.length = x.l
  byte : Sha.Byte x.bs
  ts : RdT w x.K x.ts
  tlen : x.ts.length = x.kl
  nwf : (Lit.int .i64 x.n).wf = true
/-- A row of acts. -/
structure ARow (w : World) (b o : Nat) (xs : List ActD) : Prop where
  row : ∀ i x, xs[i]? = some x → w.rangeAt b (o + 4 * i) x.cells
  ok : ∀ x ∈ xs, x.Ok w
  lt : b < w.heap.size
theorem rdT_below {w w' : World} {A : Option Addr} {ts : List Bool} (h : RdT w A ts) {B : Nat} (hb : Below B w w') (hB : w.heap.size ≤ B) : RdT w' A ts := fun h0 => by
  obtain ⟨b, o, ha, hl, hx⟩ := h h0
  have := hb.size
  exact ⟨b, o, ha, by omega, fun j t ht => (hb.cell (p := ⟨b, o + j, none⟩) (by show b < B; omega)).trans (hx j t ht)⟩
theorem ARow.below {w w' : World} {B b o : Nat} {xs : List ActD} (h : ARow w b o xs) (hb : Below B w w') (hB : w.heap.size ≤ B) : ARow w' b o xs where
  row := fun i x hx => rangeAt_block (h.row i x hx) (hb.block b (Nat.lt_of_lt_of_le h.lt hB))
  ok := fun x hx => ⟨(h.ok x hx).rd.below hb hB, (h.ok x hx).len, (h.ok x hx).byte, rdT_below (h.ok x hx).ts hb hB, (h.ok x hx).tlen, (h.ok x hx).nwf⟩
  lt := Nat.lt_of_lt_of_le h.lt hb.size
section
variable {H : Type} {enc : TypeId × Value → H} {P : Program} {W : World} {held : Bool} {ts t tI tS tK q qb : TypeId} {f0 f1 f2 f3 : Field}
theorem mapM_cellsA {w : World} {a : Addr} : ∀ (L : List Nat) (cs : List Value), L.mapM (fun i => w.cell? (a.add i)) = some cs → ∀ j, j < L.length → ∃ v, cs[j]? = some v ∧ w.cell? (a.add (L.getD j 0)) = some v
  | [], _, _, j, hj => by simp at hj
  | i :: L, cs, h, j, hj => by
    rw [List.mapM_cons] at h
    simp only [bind, Option.bind_eq_some_iff, pure, Option.some.injEq] at h
    obtain ⟨y, hy, ys, hys, rfl⟩ := h
    cases j with
    | zero => exact ⟨y, rfl, by simpa using hy⟩
    | succ j =>
      obtain ⟨v, h1, h2⟩ := mapM_cellsA L ys hys j (by simpa using hj)
      exact ⟨v, by simpa using h1, by simpa using h2⟩
theorem rdT_of_bools {fuel : Nat} {v : Value} {x : DataW H × List MemPlace} (ht : P.underlying t = some (.slice qb)) (he : P.underlying qb = some .bool) (hc : P.cellsOf qb = 1)
    (h : DataW.trod enc P W 0 (fun _ => true) held fuel t [v] = some x) : ∃ (A : Option Addr) (ts : List Bool) (c : Nat), v = .slice A ts.length c ∧ RdT W A ts ∧ ts.length ≤ maxLen := by
  rcases open_bools ht he hc h with ⟨h0, _⟩ | ⟨a, len, cap, Bf, h0, _, hl, hm, _, hx⟩
  · obtain rfl : v = .slice none 0 0 := by simpa using h0
    exact ⟨none, [], 0, rfl, fun h => absurd h (by simp), Nat.zero_le _⟩
  · obtain rfl : v = .slice (some a) len cap := by simpa using h0
    refine ⟨some a, (List.range len).map Bf, cap, by simp, fun h1 => ?_, by simp; omega⟩
    obtain ⟨b, o, s⟩ := a
    have hlen : 0 < len := by simpa using h1
    have hc0 := hx 0 (by omega)
    rw [show (⟨b, o, s⟩ : Addr).add 0 = ⟨b, o, s⟩ from by simp [Addr.add]] at hc0
    obtain rfl := spot_free hc0
    refine ⟨b, o, rfl, block_lt_of_cell hc0, fun j t ht => ?_⟩
    have hj : j < len := by have := (List.getElem?_eq_some_iff.1 ht).1; simpa using this
    have e1 := hx j (by omega)
    rw [show (⟨b, o, none⟩ : Addr).add j = ⟨b, o + j, none⟩ from by simp [Addr.add]] at e1
    have e2 : t = Bf j := by simp [hj] at ht; exact ht.symm
    rw [e1, e2]
theorem open_boolsA (ht : P.underlying t = some (.slice qb)) (he : P.underlying qb = some .bool) (hc : P.cellsOf qb = 1) {r : Reach} {b0 : Nat} {v : Value} {d : DataW H} {ps : List MemPlace}
    (hval : Value.okWide P W r b0 t v) (hd : DataW.Trod enc P W 0 (fun _ => true) held t v d ps) : ∃ (A : Option Addr) (ts : List Bool) (c : Nat), v = .slice A ts.length c ∧ RdT W A ts ∧ ts.length ≤ maxLen := by
  obtain ⟨fuel, hf⟩ := hd
  rw [slice_cells ht hval] at hf
  exact rdT_of_bools ht he hc hf
theorem open_acts (hs : P.underlying ts = some (.slice t)) (ht : P.underlying t = some (.struct #[f0, f1, f2, f3])) (g0 : f0.type = tI ∧ f0.offset = 0) (g1 : f1.type = tI ∧ f1.offset = 1) (g2 : f2.type = tS ∧ f2.offset = 2) (g3 : f3.type = tK ∧ f3.offset = 3)
    (hI : P.underlying tI = some (.int .i64)) (hS : P.underlying tS = some (.slice q)) (hq : P.underlying q = some (.int .u8)) (hK : P.underlying tK = some (.slice qb)) (hqb : P.underlying qb = some .bool)
    (cI : P.cellsOf tI = 1) (cS : P.cellsOf tS = 1) (cK : P.cellsOf tK = 1) (cq : P.cellsOf q = 1) (cqb : P.cellsOf qb = 1) (ct : P.cellsOf t = 4) {r : Reach} {b0 : Nat} {v : Value} {d : DataW H} {ps : List MemPlace} (h0 : 0 < W.heap.size)
    (hval : Value.okWide P W r b0 ts v) (hd : DataW.Trod enc P W 0 (fun _ => true) held ts v d ps) : ∃ (A : Option Addr) (b o cap : Nat) (xs : List ActD), v = .slice A xs.length cap ∧ (0 < xs.length → A = some ⟨b, o, none⟩) ∧ ARow W b o xs := by
  obtain ⟨fuel, hf⟩ := hd
  rw [slice_cells hs hval] at hf
  rcases DataW.trod_slice hs hf with ⟨hc, _⟩ | ⟨a, len, cap, elems, rest, m, _, hc, _, hba, hlc, hcm, hlen, hel, _⟩
  · obtain rfl : v = .slice none 0 0 := by simpa using hc
    exact ⟨none, 0, 0, 0, [], rfl, fun h => absurd h (by simp), ⟨fun i x hx => by simp at hx, fun f hf => (by cases hf), h0⟩⟩
  · obtain rfl : v = .slice (some a) len cap := by simpa using hc
    rw [ct] at hel
    have hx : ∀ i, i < len → ∃ x : ActD, W.cell? (a.add (i * 4)) = some (.int .i64 x.kind) ∧ W.cell? ((a.add (i * 4)).add 1) = some (.int .i64 x.n) ∧ W.cell? ((a.add (i * 4)).add 2) = some (.slice x.A x.l x.c) ∧ W.cell? ((a.add (i * 4)).add 3) = some (.slice x.K x.kl x.kc) ∧ x.Ok W := fun i hi => by
      have h := hel i hi
      rw [List.getElem?_eq_getElem (by omega)] at h
      simp only [Option.bind_eq_some_iff] at h
      obtain ⟨cs, hcs, hy⟩ := h
      obtain ⟨y0, y1, y2, y3, m', _, hcl, e0, e1, e2, e3⟩ := Joins.trod_struct4 ht hy
      rw [ct] at hcl
      rw [g0.1, g0.2, cI] at e0
      rw [g1.1, g1.2, cI] at e1
      rw [g2.1, g2.2, cS] at e2
      rw [g3.1, g3.2, cK] at e3
      match cs, hcl with
      | [c0, c1, c2, c3], _ =>
        have e0' : DataW.trod enc P W 0 (fun _ => true) held m' tI [c0] = some y0 := e0
        have e1' : DataW.trod enc P W 0 (fun _ => true) held m' tI [c1] = some y1 := e1
        have e2' : DataW.trod enc P W 0 (fun _ => true) held m' tS [c2] = some y2 := e2
        have e3' : DataW.trod enc P W 0 (fun _ => true) held m' tK [c3] = some y3 := e3
        obtain ⟨z0, ez0, _, _⟩ := DataW.trod_int hI e0'
        obtain ⟨z1, ez1, _, hw1⟩ := DataW.trod_int hI e1'
        obtain ⟨xs, hr, hbx, _⟩ := rd_of_ints hS hq cq e2'
        obtain ⟨K, bsK, kc, rfl, hrt, _⟩ := rdT_of_bools hK hqb cqb e3'
        injection ez0 with ez0 _
        injection ez1 with ez1 _
        subst ez0 ez1
        have hr2 := hr
        obtain ⟨A, c, rfl, _, _⟩ := hr2
        unfold World.cells? at hcs
        split at hcs
        · obtain ⟨u0, k1, k2⟩ := mapM_cellsA _ _ hcs 0 (by simp)
          obtain ⟨u1, k3, k4⟩ := mapM_cellsA _ _ hcs 1 (by simp)
          obtain ⟨u2, k5, k6⟩ := mapM_cellsA _ _ hcs 2 (by simp)
          obtain ⟨u3, k7, k8⟩ := mapM_cellsA _ _ hcs 3 (by simp)
          obtain rfl := Option.some.inj k1
          obtain rfl := Option.some.inj k3
          obtain rfl := Option.some.inj k5
          obtain rfl := Option.some.inj k7
          have n0 : (a.add (i * 4)).add ((List.range 4).getD 0 0) = a.add (i * 4) := by simp [Addr.add]
          rw [n0] at k2
          exact ⟨⟨z0, z1, A, xs.length, c, xs, K, bsK.length, kc, bsK⟩, k2, k4, k6, k8, ⟨hr, rfl, hbx, hrt, rfl, hw1⟩⟩
        · cases hcs
    let g : Nat → ActD := fun i => if h : i < len then Classical.choose (hx i h) else ⟨0, 0, none, 0, 0, [], none, 0, 0, []⟩
    have hg : ∀ i, i < len → W.cell? (a.add (i * 4)) = some (.int .i64 (g i).kind) ∧ W.cell? ((a.add (i * 4)).add 1) = some (.int .i64 (g i).n) ∧ W.cell? ((a.add (i * 4)).add 2) = some (.slice (g i).A (g i).l (g i).c) ∧ W.cell? ((a.add (i * 4)).add 3) = some (.slice (g i).K (g i).kl (g i).kc) ∧ (g i).Ok W := fun i hi => by
      have : g i = Classical.choose (hx i hi) := by simp only [g, hi, dif_pos]
      rw [this]; exact Classical.choose_spec (hx i hi)
    have hlen2 : ((List.range len).map g).length = len := by simp
    rcases Nat.eq_zero_or_pos len with rfl | hpos
    · exact ⟨some a, 0, 0, cap, [], rfl, fun h => absurd h (by simp), ⟨fun i x hx => by simp at hx, fun f hf => (by cases hf), h0⟩⟩
    obtain ⟨b, o, s⟩ := a
    have hc0 := (hg 0 hpos).1
    rw [show (⟨b, o, s⟩ : Addr).add (0 * 4) = ⟨b, o, s⟩ from by simp [Addr.add]] at hc0
    obtain rfl := spot_free hc0
    refine ⟨some ⟨b, o, none⟩, b, o, cap, (List.range len).map g, by rw [hlen2], fun _ => rfl, ⟨fun i x hx => ?_, fun f hf => ?_, block_lt_of_cell hc0⟩⟩
    · have hi : i < len := by have := (List.getElem?_eq_some_iff.1 hx).1; simpa using this
      have e : x = g i := by simp [hi] at hx; exact hx.symm
      subst e
      have k := hg i hi
      simp only [Addr.add_mid] at k
      intro j u hj
      have hj4 : j < 4 := by have := (List.getElem?_eq_some_iff.1 hj).1; simpa [ActD.cells] using this
      rw [Nat.mul_comm 4 i]
      rcases j with _ | _ | _ | _ | j
      · obtain rfl := Option.some.inj hj; exact k.1
      · obtain rfl := Option.some.inj hj; exact k.2.1
      · obtain rfl := Option.some.inj hj; exact k.2.2.1
      · obtain rfl := Option.some.inj hj; exact k.2.2.2.1
      · omega
    · obtain ⟨i, hi, rfl⟩ := List.mem_map.1 hf
      have hi := List.mem_range.1 hi
      exact (hg i hi).2.2.2.2
end
end Go.Proofs.YtpmadlkkldbceaaDoor
