/- Entries of a journal compared (entry.Same). -/
import Derived.Test.YtldfjpafpfakcaaDoorMLawOpenObs
import Derived.Test.YtldfjpafpfakcaaDoorMLawOpenBs
import Derived.Shelf.Strings.Builder1
import Derived.Shelf.Strings.Builder2
import Derived.Shelf.Small.Strs
import Derived.Shelf.Strings.BuilderF
import Derived.Shelf.Strings.Search1
import Derived.Shelf.Strings.Search2
import Derived.Shelf.Strings.Search3
import Derived.Shelf.Strings.Count
import Derived.Shelf.LaysM
import Derived.Shelf.Strings.Shaped
import Derived.Shelf.Strings.Prefix
import Derived.Shelf.Strings.Split
import Derived.Shelf.Strings.SplitShaped
import Derived.Shelf.Bits.Mul64
import Derived.Shelf.Strings.Repeat
import Derived.Shelf.Unicode.DecodeSlow
import Derived.Shelf.Bytes.SlSearch0
import Derived.Ground.SlbCloneProg
import Derived.Shelf.Bytes.SlClone
import Derived.Shelf.Bytes.SlEqualAll
import Derived.Shelf.Bytes.Small
import Derived.Test.YtldfjpafpfakcaaDoorProg
import Derived.Lib.SplitLaws
import Derived.Lib.Bytealg
import Derived.Test.YtldfjpafpfakcaaDoorMBases
namespace Go.Proofs.YtldfjpafpfakcaaDoor
open Go Go.RowKit
namespace En
/-- an entry of a journal -/
structure E where
  client : Int
  number : Int
  answer : Int
  ups : List Up
  objs : List (List Nat)
end En
/-- an entry, and where its parts lie -/
structure EnC (w : World) (e : En.E) (cs : Array Value) (U : Option Addr) (cu : Nat) (O : Option Addr) (co : Nat) (ts : List En.Bt) : Prop where
  cells : cs = #[.int .i64 e.client, .int .i64 e.number, .int .i64 e.answer, .slice U e.ups.length cu, .slice O e.objs.length co]
  ups : RdK w (.slice U e.ups.length cu) e.ups.length (cellsU e.ups)
  fit : ∀ u ∈ e.ups, u.Fit
  objs : BtT w O e.objs.length ts
  txt : ts.map (·.text) = e.objs
theorem EnC.below {w w' : World} {e : En.E} {cs : Array Value} {U O : Option Addr} {cu co : Nat} {ts : List En.Bt} (h : EnC w e cs U cu O co ts) (hb : Below w.heap.size w w') : EnC w' e cs U cu O co ts :=
  ⟨h.cells, h.ups.below hb (Nat.le_refl _), h.fit, h.objs.below hb, h.txt⟩
set_option maxRecDepth 100000 in
set_option maxHeartbeats 2000000 in
theorem esame_any (a b : En.E) (ca cb : Array Value) (U1 O1 U2 O2 : Option Addr) (cu1 co1 cu2 co2 : Nat) (ts us : List En.Bt) (w : World) (ha : EnC w a ca U1 cu1 O1 co1 ts) (hb : EnC w b cb U2 cu2 O2 co2 us) (lu : a.ups.length ≤ 1000) (lo : a.objs.length ≤ 100000) :
    Calls Tryd.prog 8 #[.agg ca, .agg cb] w fun e w' => e = .returned (.bool (eqv a b)) ∧ Below w.heap.size w w' := by
  obtain ⟨w2, hw2⟩ : ∃ w2, w2 = (w.alloc (.cells ca 25)).alloc (.cells cb 25) := ⟨_, rfl⟩
  have b2 : Below w.heap.size w w2 := hw2 ▸ boxed ca cb _
  have B1 : Blk w2 w.heap.size 25 ca := hw2 ▸ (Blk.new w _ _).alloc _
  have B2 : Blk w2 (w.heap.size + 1) 25 cb := hw2 ▸ boxed2 ca cb _
  have HA := Lib.hid (ha.below b2)
  have HB := Lib.hid (hb.below b2)
  have HB2 := Lib.hid b2
  have HE : Hid (eqv a b = (eqv a.client b.client && (eqv a.number b.number && (eqv a.answer b.answer && (eqv a.ups b.ups && eqv (ts.map (·.text)) (us.map (·.text))))))) := Lib.hid (by
    rw [ha.txt, hb.txt]
    obtain ⟨a1, a2, a3, a4, a5⟩ := a
    obtain ⟨b1, b2, b3, b4, b5⟩ := b
    rw [Bool.eq_iff_iff]
    simp only [Bool.and_eq_true, eqv_iff, En.E.mk.injEq])
  have CU : ∀ n, Calls Tryd.prog 17 #[.slice U1 a.ups.length cu1, .slice U2 b.ups.length cu2] (w2.drewN n) _ := fun n => eqU_any U1 U2 cu1 cu2 a.ups b.ups (w2.drewN n) (HA.out.ups.below (below_drewN (Below.refl _ _) n) (Nat.le_refl _)) (HB.out.ups.below (below_drewN (Below.refl _ _) n) (Nat.le_refl _)) HA.out.fit HB.out.fit lu
  have CO : ∀ n, Calls Tryd.prog 18 #[.slice O1 a.objs.length co1, .slice O2 b.objs.length co2, .func (.func 19) #[] #[]] (w2.drewN n) _ := fun n => eqT_any O1 O2 _ _ co1 co2 ts us (w2.drewN n) (HA.out.objs.below (below_drewN (Below.refl _ _) n)) (HB.out.objs.below (below_drewN (Below.refl _ _) n)) lo
  have p0 : w2.cell? ⟨w.heap.size, 0, none⟩ = some (.int .i64 a.client) := (B1.cell 0).trans (by rw [ha.cells]; rfl)
  have p1 : w2.cell? ⟨w.heap.size, 1, none⟩ = some (.int .i64 a.number) := (B1.cell 1).trans (by rw [ha.cells]; rfl)
  have p2 : w2.cell? ⟨w.heap.size, 2, none⟩ = some (.int .i64 a.answer) := (B1.cell 2).trans (by rw [ha.cells]; rfl)
  have p3 : w2.cell? ⟨w.heap.size, 3, none⟩ = some (.slice U1 a.ups.length cu1) := (B1.cell 3).trans (by rw [ha.cells]; rfl)
  have p4 : w2.cell? ⟨w.heap.size, 4, none⟩ = some (.slice O1 a.objs.length co1) := (B1.cell 4).trans (by rw [ha.cells]; rfl)
  have q0 : w2.cell? ⟨w.heap.size + 1, 0, none⟩ = some (.int .i64 b.client) := (B2.cell 0).trans (by rw [hb.cells]; rfl)
  have q1 : w2.cell? ⟨w.heap.size + 1, 1, none⟩ = some (.int .i64 b.number) := (B2.cell 1).trans (by rw [hb.cells]; rfl)
  have q2 : w2.cell? ⟨w.heap.size + 1, 2, none⟩ = some (.int .i64 b.answer) := (B2.cell 2).trans (by rw [hb.cells]; rfl)
  have q3 : w2.cell? ⟨w.heap.size + 1, 3, none⟩ = some (.slice U2 b.ups.length cu2) := (B2.cell 3).trans (by rw [hb.cells]; rfl)
  have q4 : w2.cell? ⟨w.heap.size + 1, 4, none⟩ = some (.slice O2 b.objs.length co2) := (B2.cell 4).trans (by rw [hb.cells]; rfl)
  have e1 : (a.client == b.client) = eqv a.client b.client := by rw [Bool.eq_iff_iff, beq_iff_eq, eqv_iff]
  have e2 : (a.number == b.number) = eqv a.number b.number := by rw [Bool.eq_iff_iff, beq_iff_eq, eqv_iff]
  have e3 : (a.answer == b.answer) = eqv a.answer b.answer := by rw [Bool.eq_iff_iff, beq_iff_eq, eqv_iff]
  have ew := hw2.symm
  generalize eqv a b = R at HE ⊢
  generalize eqv a.client b.client = r1 at HE e1
  generalize eqv a.number b.number = r2 at HE e2
  generalize eqv a.answer b.answer = r3 at HE e3
  generalize eqv a.ups b.ups = r4 at HE CU
  generalize eqv (ts.map (·.text)) (us.map (·.text)) = r5 at HE CO
  generalize a.client = x1 at p0 e1
  generalize a.number = x2 at p1 e2
  generalize a.answer = x3 at p2 e3
  generalize b.client = y1 at q0 e1
  generalize b.number = y2 at q1 e2
  generalize b.answer = y3 at q2 e3
  generalize a.ups.length = n1 at p3 CU
  generalize b.ups.length = n2 at q3 CU
  generalize a.objs.length = m1 at p4 CO
  generalize b.objs.length = m2 at q4 CO
  clear ha hb b2 B1 B2 hw2 lu lo HA HB
  go_enter Tryd.func8, Tryd.ntmps8
  cases r1 <;> cases r2 <;> cases r3
  all_goals
    go_wp2_with (first
      | (go_at_call 17; refine (CU 0).mono ?_; rintro e w3 ⟨rfl, m, rfl⟩; cases r4)
      | (go_at_call 18; refine (CO _).mono ?_; rintro e w4 ⟨rfl, rfl⟩))
  all_goals
    go_ret
    first
      | exact ⟨by rw [HE.out]; rfl, HB2.out⟩
      | exact ⟨by rw [HE.out]; rfl, below_drewN HB2.out _⟩
      | exact ⟨by rw [HE.out]; simp, below_drewN HB2.out _⟩
end Go.Proofs.YtldfjpafpfakcaaDoor
/- Arguments of laws, opened: entries. -/
namespace Go.Proofs.YtldfjpafpfakcaaDoor
open Go Go.RowKit Go.WideShapes Go.ChangeShapes
theorem eupd_under : Tryd.prog.underlying 38 = some (.struct (Tryd.prog.fieldsOf 38)) := by kernel_rfl
theorem eupd_fields : (Tryd.prog.fieldsOf 38).toList.map (fun f => (f.type, f.offset)) = [(9, 0), (36, 1), (36, 33)] := by kernel_rfl
theorem eent_under : Tryd.prog.underlying 25 = some (.struct (Tryd.prog.fieldsOf 25)) := by kernel_rfl
theorem eent_fields : (Tryd.prog.fieldsOf 25).toList.map (fun f => (f.type, f.offset)) = [(3, 0), (3, 1), (3, 2), (22, 3), (23, 4)] := by kernel_rfl
theorem cells65 (L : List Value) (hcl : L.length = 65) (a : Value) (X Y : List Value) (h0 : L[0] = a) (h1 : (L.drop 1).take 32 = X) (h2 : (L.drop 33).take 32 = Y) : L = a :: (X ++ Y) := by
  match L, hcl with
  | c0 :: L', hcl =>
    have hL' : L'.length = 64 := by simp at hcl; omega
    have e0 : c0 = a := h0
    have e1 : L'.take 32 = X := by simpa using h1
    have e2 : L'.drop 32 = Y := by
      have h3 : (L'.drop 32).take 32 = Y := by simpa using h2
      rwa [List.take_of_length_le (by rw [List.length_drop]; omega)] at h3
    rw [e0, ← e1, ← e2, List.take_append_drop]
theorem open_up1 {H : Type} {enc : TypeId × Value → H} {W : World} {held : Bool} {fuel : Nat} {cs : List Value} {y : DataW H × List MemPlace}
    (hf : DataW.trod enc Tryd.prog W 0 (fun _ => true) held fuel 38 cs = some y) : ∃ u : En.Up, u.Fit ∧ cs = cellsU1 u := by
  obtain ⟨xs, n, _, _, hl, hlen, hx⟩ := DataW.trod_struct eupd_under hf
  have hc65 : Tryd.prog.cellsOf 38 = 65 := by kernel_rfl
  rw [hc65] at hl
  have hF := eupd_fields
  have hsz : (Tryd.prog.fieldsOf 38).toList.length = 3 := by have := congrArg List.length hF; simpa using this
  have fld : ∀ i (h : i < 3) t o, [(9, 0), (36, 1), (36, 33)][i]? = some (t, o) → ∃ y, DataW.trod enc Tryd.prog W 0 (fun _ => true) held n t ((cs.drop o).take (Tryd.prog.cellsOf t)) = some y := fun i h t o hq => by
    rw [← hF, List.getElem?_map] at hq
    simp only [Option.map_eq_some_iff] at hq
    obtain ⟨f, hfi, hft⟩ := hq
    have hfi' : (Tryd.prog.fieldsOf 38)[i]? = some f := by simpa using hfi
    have h2 := hx i f hfi'
    injection hft with e1 e2
    rw [e1, e2] at h2
    have h3 : i < xs.length := by rw [hlen, ← Array.length_toList, hsz]; exact h
    exact ⟨xs[i], by rw [h2, List.getElem?_eq_getElem h3]⟩
  obtain ⟨y0, k0⟩ := fld 0 (by omega) _ _ rfl
  obtain ⟨y1, k1⟩ := fld 1 (by omega) _ _ rfl
  obtain ⟨y2, k2⟩ := fld 2 (by omega) _ _ rfl
  rw [show Tryd.prog.cellsOf 9 = 1 by kernel_rfl, one_of (by omega)] at k0
  rw [show Tryd.prog.cellsOf 36 = 32 by kernel_rfl] at k1 k2
  obtain ⟨s, hs, _, _⟩ := DataW.trod_string Tryd.underlying9 k0
  obtain ⟨xo, ho, lo, bo⟩ := trod_id Tryd.underlying36 Tryd.underlying5 (by kernel_rfl) (by kernel_rfl) k1
  obtain ⟨xn, hn, ln, bn⟩ := trod_id Tryd.underlying36 Tryd.underlying5 (by kernel_rfl) (by kernel_rfl) k2
  refine ⟨⟨s, xo, xn⟩, ⟨⟨lo, bo⟩, ⟨ln, bn⟩⟩, ?_⟩
  exact cells65 cs hl _ _ _ (by simpa using hs) ho hn
theorem open_ups {H : Type} {enc : TypeId × Value → H} {W : World} {held : Bool} {fuel : Nat} {v : Value} {y : DataW H × List MemPlace}
    (hf : DataW.trod enc Tryd.prog W 0 (fun _ => true) held fuel 22 [v] = some y) : ∃ (l : List En.Up) (A : Option Addr) (c : Nat), v = .slice A l.length c ∧ RdK W v l.length (cellsU l) ∧ ∀ x ∈ l, x.Fit := by
  rcases DataW.trod_slice Tryd.underlying22 hf with ⟨hc, _⟩ | ⟨a, len, cap, elems, rest, m, _, hc, _, hba, hlc, hcm, hlen, hel, _⟩
  · obtain rfl : v = .slice none 0 0 := by simpa using hc
    exact ⟨[], none, 0, rfl, RdK.nil _ _, fun x h => by cases h⟩
  · obtain rfl : v = .slice (some a) len cap := by simpa using hc
    rw [show Tryd.prog.cellsOf 38 = 65 by kernel_rfl] at hel
    obtain ⟨xs, hl, hg, hr⟩ := rdk_of (W := W) cellsU1 65 En.Up.Fit (fun x h => cellsU1_len h) (by omega) a len cap hlc (fun i hi => by
      have h := hel i hi
      rw [List.getElem?_eq_getElem (by omega)] at h
      simp only [Option.bind_eq_some_iff] at h
      obtain ⟨cs, hcs, hy⟩ := h
      obtain ⟨u, hu, rfl⟩ := open_up1 hy
      exact ⟨u, hu, fun j x hx => cells_at hcs j x hx (by have := (List.getElem?_eq_some_iff.1 hx).1; rwa [cellsU1_len hu] at this)⟩)
    exact ⟨xs, some a, cap, by rw [hl], by rw [hl]; exact hr, hg⟩
theorem bts_of {W : World} {v : Value} {vs : List Value} {ps : List (List Nat)} (h : RdL W v vs) (hl : ps.length = vs.length) (hr : ∀ i u, vs[i]? = some u → Rd W u (ps.getD i [])) (hb : ∀ x ∈ ps, Sha.Byte x) : ∃ A c ts, v = .slice A ps.length c ∧ BtT W A ps.length ts ∧ ts.map (·.text) = ps := by
  obtain ⟨A, c, hv, _, hA⟩ := h
  obtain ⟨ts, hts⟩ : ∃ ts, ts = List.zipWith (fun u x => (⟨x, u⟩ : En.Bt)) vs ps := ⟨_, rfl⟩
  have hlt : ts.length = ps.length := by rw [hts, List.length_zipWith]; omega
  have hg : ∀ i (t : En.Bt), ts[i]? = some t → vs[i]? = some t.val ∧ ps[i]? = some t.text := fun i t ht => by
    rw [hts, List.getElem?_zipWith] at ht
    cases hu : vs[i]? with
    | none => rw [hu] at ht; simp at ht
    | some u =>
      cases hx : ps[i]? with
      | none => rw [hu, hx] at ht; simp at ht
      | some x =>
        rw [hu, hx] at ht
        obtain rfl : (⟨x, u⟩ : En.Bt) = t := by simpa using ht
        exact ⟨rfl, rfl⟩
  refine ⟨A, c, ts, by rw [hv, hl], ⟨hlt.symm, fun h0 => ?_, fun t ht => ?_⟩, ?_⟩
  · obtain ⟨b, o, ha, hbl, hx⟩ := hA (by omega)
    exact ⟨b, o, ha, hbl, fun i t ht => hx i _ (hg i t ht).1⟩
  · obtain ⟨i, hi⟩ := List.mem_iff_getElem?.1 ht
    obtain ⟨h1, h2⟩ := hg i t hi
    have h3 := hr i _ h1
    rw [List.getD_eq_getElem?_getD, h2] at h3
    exact ⟨h3, hb _ (List.mem_of_getElem? h2)⟩
  · apply List.ext_getElem?
    intro i
    rw [List.getElem?_map]
    cases ht : ts[i]? with
    | some t => rw [(hg i t ht).2]; rfl
    | none =>
      have h1 := List.getElem?_eq_none_iff.1 ht
      rw [List.getElem?_eq_none (by omega)]; rfl
theorem cells5 (L : List Value) (hcl : L.length = 5) (a b c d e : Value) (h0 : L[0] = a) (h1 : L[1] = b) (h2 : L[2] = c) (h3 : L[3] = d) (h4 : L[4] = e) : L = [a, b, c, d, e] := by
  match L, hcl with
  | [c0, c1, c2, c3, c4], _ =>
    have e0 : c0 = a := h0
    have e1 : c1 = b := h1
    have e2 : c2 = c := h2
    have e3 : c3 = d := h3
    have e4 : c4 = e := h4
    rw [e0, e1, e2, e3, e4]
theorem open_entT {H : Type} {enc : TypeId × Value → H} {W : World} {held : Bool} {fuel : Nat} {cs : List Value} {y : DataW H × List MemPlace}
    (hf : DataW.trod enc Tryd.prog W 0 (fun _ => true) held fuel 25 cs = some y) :
    ∃ (e : En.E) (U : Option Addr) (cu : Nat) (O : Option Addr) (co : Nat) (ts : List En.Bt), cs.length = 5 ∧ EnC W e cs.toArray U cu O co ts := by
  obtain ⟨xs, n, _, _, hl, hlen, hx⟩ := DataW.trod_struct eent_under hf
  have hc5 : Tryd.prog.cellsOf 25 = 5 := by kernel_rfl
  rw [hc5] at hl
  have hF := eent_fields
  have hsz : (Tryd.prog.fieldsOf 25).toList.length = 5 := by have := congrArg List.length hF; simpa using this
  have fld : ∀ i (h : i < 5) t o, [(3, 0), (3, 1), (3, 2), (22, 3), (23, 4)][i]? = some (t, o) → ∃ y, DataW.trod enc Tryd.prog W 0 (fun _ => true) held n t ((cs.drop o).take (Tryd.prog.cellsOf t)) = some y := fun i h t o hq => by
    rw [← hF, List.getElem?_map] at hq
    simp only [Option.map_eq_some_iff] at hq
    obtain ⟨f, hfi, hft⟩ := hq
    have hfi' : (Tryd.prog.fieldsOf 25)[i]? = some f := by simpa using hfi
    have h2 := hx i f hfi'
    injection hft with e1 e2
    rw [e1, e2] at h2
    have h3 : i < xs.length := by rw [hlen, ← Array.length_toList, hsz]; exact h
    exact ⟨xs[i], by rw [h2, List.getElem?_eq_getElem h3]⟩
  obtain ⟨y0, k0⟩ := fld 0 (by omega) _ _ rfl
  obtain ⟨y1, k1⟩ := fld 1 (by omega) _ _ rfl
  obtain ⟨y2, k2⟩ := fld 2 (by omega) _ _ rfl
  obtain ⟨y3, k3⟩ := fld 3 (by omega) _ _ rfl
  obtain ⟨y4, k4⟩ := fld 4 (by omega) _ _ rfl
  rw [show Tryd.prog.cellsOf 3 = 1 by kernel_rfl, one_of (by omega)] at k0 k1 k2
  rw [show Tryd.prog.cellsOf 22 = 1 by kernel_rfl, one_of (by omega)] at k3
  rw [show Tryd.prog.cellsOf 23 = 1 by kernel_rfl, one_of (by omega)] at k4
  obtain ⟨x, q0, _, _⟩ := DataW.trod_int Tryd.underlying3 k0
  obtain ⟨yy, q1, _, _⟩ := DataW.trod_int Tryd.underlying3 k1
  obtain ⟨z, q2, _, _⟩ := DataW.trod_int Tryd.underlying3 k2
  obtain ⟨us, UA, uc, vU, rU, gU⟩ := open_ups k3
  obtain ⟨vs, pss, hRL, hpl, hr, hb, _, _⟩ := open_partsT Tryd.underlying23 Tryd.underlying39 Tryd.underlying5 (by kernel_rfl) (by kernel_rfl) k4
  obtain ⟨OA, oc, ts, vO, hT, htx⟩ := bts_of hRL hpl hr hb
  refine ⟨⟨x, yy, z, us, pss⟩, UA, uc, OA, oc, ts, hl, ⟨?_, by rw [← vU]; exact rU, gU, hT, htx⟩⟩
  have h0 : cs[0] = .int .i64 x := by simpa using q0
  have h1 : cs[1] = .int .i64 yy := by simpa using q1
  have h2 : cs[2] = .int .i64 z := by simpa using q2
  rw [cells5 cs hl _ _ _ _ _ h0 h1 h2 vU vO]
theorem open_ent {H : Type} {enc : TypeId × Value → H} {W : World} {held : Bool} {v : Value} {d : DataW H} {ps : List MemPlace}
    (hd : DataW.Trod enc Tryd.prog W 0 (fun _ => true) held 25 v d ps) :
    ∃ (e : En.E) (cs : Array Value) (U : Option Addr) (cu : Nat) (O : Option Addr) (co : Nat) (ts : List En.Bt), v = .agg cs ∧ EnC W e cs U cu O co ts := by
  obtain ⟨fuel, hf⟩ := hd
  obtain ⟨e, U, cu, O, co, ts, hl, hE⟩ := open_entT hf
  have hv : ∃ cs, v = .agg cs := by
    cases v <;> first | exact ⟨_, rfl⟩ | (exfalso; simp [Value.cells] at hl)
  obtain ⟨cs, rfl⟩ := hv
  exact ⟨e, cs, U, cu, O, co, ts, rfl, by simpa [Value.cells] using hE⟩
end Go.Proofs.YtldfjpafpfakcaaDoor
/- The library's contracts at this program's numbers: each by one application. -/
namespace Go.Proofs
open Go.Shelf
def Tryd.lays137_ren : Go.Shelf.Ren := ⟨fun | 137 => 34 | 217 => 52 | 266 => 70 | n => n, fun | 9 => 9 | 5 => 5 | 3 => 3 | n => n, fun | n => n⟩
theorem Tryd.lays137 : Go.Proofs.Lays.n137 Tryd.prog Tryd.lays137_ren := {
  mixed := by kernel_rfl
  f137 := Tryd.func34.trans (congrArg some (by kernel_rfl))
  f217 := Tryd.func52.trans (congrArg some (by kernel_rfl))
  f266 := Tryd.func70.trans (congrArg some (by kernel_rfl))
  t3 := Tryd.underlying3
  a3 := Tryd.isAgg3
  z3 := Tryd.sizeOf3
  v3 := Tryd.zeroValue3
  t5 := Tryd.underlying5
  a5 := Tryd.isAgg5
  z5 := Tryd.sizeOf5
  v5 := Tryd.zeroValue5
  t9 := Tryd.underlying9
  a9 := Tryd.isAgg9
  z9 := Tryd.sizeOf9
  v9 := Tryd.zeroValue9 }
open Go.RowKit in
theorem Tryd.strings_IndexByte (s : ByteArray) (c : Int) (w : World) :
    Calls Tryd.prog 34 #[.string s, .int .u8 c] w fun e w' => e = .returned (.int .i64 (Lib.indexByte s.data.toList c.toNat.toUInt8)) ∧ w' = w := Any.strings_IndexByte Tryd.lays137 s c w
def Tryd.laysM219_ren : Go.Shelf.Ren := ⟨fun | 219 => 96 | 217 => 52 | 225 => 98 | 224 => 99 | 267 => 100 | 266 => 70 | 314 => 101 | n => n, fun | 9 => 9 | 3 => 3 | 4 => 4 | 5 => 5 | 46 => 114 | 146 => 130 | 51 => 129 | n => n, fun | 1 => 6 | n => n⟩
theorem Tryd.laysM219 : Go.Proofs.LaysM.n219 Tryd.prog Tryd.laysM219_ren := {
  mixed := by kernel_rfl
  f217 := Tryd.func52.trans (congrArg some (by kernel_rfl))
  f219 := Tryd.func96.trans (congrArg some (by kernel_rfl))
  f224 := Tryd.func99.trans (congrArg some (by kernel_rfl))
  f225 := Tryd.func98.trans (congrArg some (by kernel_rfl))
  f266 := Tryd.func70.trans (congrArg some (by kernel_rfl))
  f267 := Tryd.func100.trans (congrArg some (by kernel_rfl))
  f314 := Tryd.func101.trans (congrArg some (by kernel_rfl))
  t3 := Tryd.underlying3
  a3 := Tryd.isAgg3
  z3 := Tryd.sizeOf3
  v3 := Tryd.zeroValue3
  t4 := Tryd.underlying4
  a4 := Tryd.isAgg4
  z4 := Tryd.sizeOf4
  v4 := Tryd.zeroValue4
  t5 := Tryd.underlying5
  a5 := Tryd.isAgg5
  z5 := Tryd.sizeOf5
  v5 := Tryd.zeroValue5
  t9 := Tryd.underlying9
  a9 := Tryd.isAgg9
  z9 := Tryd.sizeOf9
  v9 := Tryd.zeroValue9
  t46 := Tryd.underlying114
  a46 := Tryd.isAgg114
  z46 := Tryd.sizeOf114
  v46 := Tryd.zeroValue114
  t51 := Tryd.underlying129
  a51 := Tryd.isAgg129
  z51 := Tryd.sizeOf129
  v51 := Tryd.zeroValue129
  t146 := Tryd.underlying130
  a146 := Tryd.isAgg130
  z146 := Tryd.sizeOf130
  v146 := Tryd.zeroValue130
  g1 := by kernel_rfl
  i3 := by kernel_rfl
  i4 := by kernel_rfl
  i5 := by kernel_rfl
  i9 := by kernel_rfl
  i46 := by kernel_rfl
  i51 := by kernel_rfl
  i146 := by kernel_rfl
  m1 := by kernel_rfl
  s1_3 := fun w h => Go.Proofs.cell_of_shapedOpen_int (zero := #[.int .i64 0]) (t := 3) h (of_decide_eq_true (by kernel_rfl)) (by kernel_rfl) rfl (by kernel_rfl) (by kernel_rfl) Tryd.underlying3 }
def Tryd.lays146_ren : Go.Shelf.Ren := ⟨fun | 146 => 73 | 221 => 86 | 268 => 90 | 138 => 91 | 143 => 92 | 195 => 93 | 197 => 94 | 218 => 95 | 219 => 96 | 260 => 97 | 217 => 52 | 225 => 98 | 224 => 99 | 267 => 100 | 266 => 70 | 314 => 101 | n => n, fun | 9 => 9 | 31 => 107 | 3 => 3 | 4 => 4 | 0 => 0 | 105 => 141 | 21 => 21 | 5 => 5 | 46 => 114 | 119 => 144 | 139 => 147 | 138 => 146 | 146 => 130 | 51 => 129 | n => n, fun | 1 => 6 | 3 => 7 | 4 => 8 | n => n⟩
theorem Tryd.lays146 : Go.Proofs.Lays.n146 Tryd.prog Tryd.lays146_ren := {
  mixed := by kernel_rfl
  f138 := Tryd.func91.trans (congrArg some (by kernel_rfl))
  f143 := Tryd.func92.trans (congrArg some (by kernel_rfl))
  f146 := Tryd.func73.trans (congrArg some (by kernel_rfl))
  f195 := Tryd.func93.trans (congrArg some (by kernel_rfl))
  f197 := Tryd.func94.trans (congrArg some (by kernel_rfl))
  f217 := Tryd.func52.trans (congrArg some (by kernel_rfl))
  f218 := Tryd.func95.trans (congrArg some (by kernel_rfl))
  f219 := Tryd.func96.trans (congrArg some (by kernel_rfl))
  f221 := Tryd.func86.trans (congrArg some (by kernel_rfl))
  f224 := Tryd.func99.trans (congrArg some (by kernel_rfl))
  f225 := Tryd.func98.trans (congrArg some (by kernel_rfl))
  f260 := Tryd.func97.trans (congrArg some (by kernel_rfl))
  f266 := Tryd.func70.trans (congrArg some (by kernel_rfl))
  f267 := Tryd.func100.trans (congrArg some (by kernel_rfl))
  f268 := Tryd.func90.trans (congrArg some (by kernel_rfl))
  f314 := Tryd.func101.trans (congrArg some (by kernel_rfl))
  t0 := Tryd.underlying0
  a0 := Tryd.isAgg0
  z0 := Tryd.sizeOf0
  v0 := Tryd.zeroValue0
  t3 := Tryd.underlying3
  a3 := Tryd.isAgg3
  z3 := Tryd.sizeOf3
  v3 := Tryd.zeroValue3
  t4 := Tryd.underlying4
  a4 := Tryd.isAgg4
  z4 := Tryd.sizeOf4
  v4 := Tryd.zeroValue4
  t5 := Tryd.underlying5
  a5 := Tryd.isAgg5
  z5 := Tryd.sizeOf5
  v5 := Tryd.zeroValue5
  t9 := Tryd.underlying9
  a9 := Tryd.isAgg9
  z9 := Tryd.sizeOf9
  v9 := Tryd.zeroValue9
  t21 := Tryd.underlying21
  a21 := Tryd.isAgg21
  z21 := Tryd.sizeOf21
  v21 := Tryd.zeroValue21
  t31 := Tryd.underlying107
  a31 := Tryd.isAgg107
  z31 := Tryd.sizeOf107
  v31 := Tryd.zeroValue107
  t46 := Tryd.underlying114
  a46 := Tryd.isAgg114
  z46 := Tryd.sizeOf114
  v46 := Tryd.zeroValue114
  t51 := Tryd.underlying129
  a51 := Tryd.isAgg129
  z51 := Tryd.sizeOf129
  v51 := Tryd.zeroValue129
  t105 := Tryd.underlying141
  a105 := Tryd.isAgg141
  z105 := Tryd.sizeOf141
  v105 := Tryd.zeroValue141
  t119 := Tryd.underlying144
  a119 := Tryd.isAgg144
  z119 := Tryd.sizeOf144
  t138 := Tryd.underlying146
  a138 := Tryd.isAgg146
  z138 := Tryd.sizeOf146
  v138 := Tryd.zeroValue146
  t139 := Tryd.underlying147
  a139 := Tryd.isAgg147
  z139 := Tryd.sizeOf147
  v139 := Tryd.zeroValue147
  t146 := Tryd.underlying130
  a146 := Tryd.isAgg130
  z146 := Tryd.sizeOf130
  v146 := Tryd.zeroValue130
  g1 := by kernel_rfl
  g3 := by kernel_rfl
  g4 := by kernel_rfl }
open Go.RowKit Go.Lib in
theorem Tryd.strings_Split (s sep : ByteArray) (m : Int) (w : World) (hs : s.size < 4294967281) (hm : w.cell? ⟨6, 0, none⟩ = some (.int .i64 m)) (h1 : 1 ≤ sep.size) :
    Calls Tryd.prog 73 #[.string s, .string sep] w fun e w' =>
      e = .returned (.slice (some ⟨w.heap.size, 0, none⟩) (Lib.countB s sep + 1) (Lib.countB s sep + 1)) ∧ w' = w.alloc (.cells ((Lib.splitB sep 0 (Lib.countB s sep) s).map Value.string).toArray 9) := Any.strings_Split Tryd.lays146 (by kernel_rfl) s sep m w hs hm h1
def Tryd.lays105_ren : Go.Shelf.Ren := ⟨fun | 105 => 49 | 212 => 64 | 99 => 65 | 165 => 66 | 166 => 67 | 170 => 68 | 169 => 69 | 263 => 81 | 264 => 82 | 206 => 83 | 240 => 84 | 241 => 85 | 276 => 88 | 277 => 89 | n => n, fun | 9 => 9 | 3 => 3 | 4 => 4 | 20 => 20 | 0 => 0 | 46 => 114 | 109 => 115 | 5 => 5 | 72 => 120 | 76 => 122 | 51 => 129 | 146 => 130 | 53 => 101 | 148 => 132 | 70 => 118 | 37 => 39 | 75 => 43 | 127 => 134 | 164 => 136 | 80 => 124 | n => n, fun | n => n⟩
theorem Tryd.lays105 : Go.Proofs.Lays.n105 Tryd.prog Tryd.lays105_ren := {
  mixed := by kernel_rfl
  f99 := Tryd.func65.trans (congrArg some (by kernel_rfl))
  f105 := Tryd.func49.trans (congrArg some (by kernel_rfl))
  f165 := Tryd.func66.trans (congrArg some (by kernel_rfl))
  f166 := Tryd.func67.trans (congrArg some (by kernel_rfl))
  f169 := Tryd.func69.trans (congrArg some (by kernel_rfl))
  f170 := Tryd.func68.trans (congrArg some (by kernel_rfl))
  f206 := Tryd.func83.trans (congrArg some (by kernel_rfl))
  f212 := Tryd.func64.trans (congrArg some (by kernel_rfl))
  f240 := Tryd.func84.trans (congrArg some (by kernel_rfl))
  f241 := Tryd.func85.trans (congrArg some (by kernel_rfl))
  f263 := Tryd.func81.trans (congrArg some (by kernel_rfl))
  f264 := Tryd.func82.trans (congrArg some (by kernel_rfl))
  f276 := Tryd.func88.trans (congrArg some (by kernel_rfl))
  f277 := Tryd.func89.trans (congrArg some (by kernel_rfl))
  t0 := Tryd.underlying0
  a0 := Tryd.isAgg0
  z0 := Tryd.sizeOf0
  v0 := Tryd.zeroValue0
  t3 := Tryd.underlying3
  a3 := Tryd.isAgg3
  z3 := Tryd.sizeOf3
  v3 := Tryd.zeroValue3
  t4 := Tryd.underlying4
  a4 := Tryd.isAgg4
  z4 := Tryd.sizeOf4
  v4 := Tryd.zeroValue4
  t5 := Tryd.underlying5
  a5 := Tryd.isAgg5
  z5 := Tryd.sizeOf5
  v5 := Tryd.zeroValue5
  t9 := Tryd.underlying9
  a9 := Tryd.isAgg9
  z9 := Tryd.sizeOf9
  v9 := Tryd.zeroValue9
  t20 := Tryd.underlying20
  a20 := Tryd.isAgg20
  z20 := Tryd.sizeOf20
  v20 := Tryd.zeroValue20
  t37 := Tryd.underlying39
  a37 := Tryd.isAgg39
  z37 := Tryd.sizeOf39
  v37 := Tryd.zeroValue39
  t46 := Tryd.underlying114
  a46 := Tryd.isAgg114
  z46 := Tryd.sizeOf114
  v46 := Tryd.zeroValue114
  t51 := Tryd.underlying129
  a51 := Tryd.isAgg129
  z51 := Tryd.sizeOf129
  v51 := Tryd.zeroValue129
  t53 := Tryd.underlying101
  a53 := Tryd.isAgg101
  z53 := Tryd.sizeOf101
  v53 := Tryd.zeroValue101
  t70 := Tryd.underlying118
  a70 := Tryd.isAgg118
  z70 := Tryd.sizeOf118
  v70 := Tryd.zeroValue118
  t72 := Tryd.underlying120
  a72 := Tryd.isAgg120
  z72 := Tryd.sizeOf120
  v72 := Tryd.zeroValue120
  t75 := Tryd.underlying43
  a75 := Tryd.isAgg43
  z75 := Tryd.sizeOf43
  v75 := Tryd.zeroValue43
  t76 := Tryd.underlying122
  a76 := Tryd.isAgg122
  z76 := Tryd.sizeOf122
  v76 := Tryd.zeroValue122
  t109 := Tryd.underlying115
  a109 := Tryd.isAgg115
  z109 := Tryd.sizeOf115
  v109 := Tryd.zeroValue115
  t127 := Tryd.underlying134
  a127 := Tryd.isAgg134
  z127 := Tryd.sizeOf134
  v127 := Tryd.zeroValue134
  t146 := Tryd.underlying130
  a146 := Tryd.isAgg130
  z146 := Tryd.sizeOf130
  v146 := Tryd.zeroValue130
  t148 := Tryd.underlying132
  a148 := Tryd.isAgg132
  z148 := Tryd.sizeOf132
  v148 := Tryd.zeroValue132
  t164 := Tryd.underlying136
  a164 := Tryd.isAgg136
  z164 := Tryd.sizeOf136
  v164 := Tryd.zeroValue136 }
theorem Tryd.Builder_Extra_105 : Builder.Extra Tryd.prog Tryd.lays105_ren := {
  sizeBuilder := by kernel_rfl
  liesBuilder := by kernel_rfl
  t5 := Tryd.underlying5
  a5 := Tryd.isAgg5
  z5 := Tryd.sizeOf5
  v5 := Tryd.zeroValue5
  infoByte := by kernel_rfl
  cellsByte := by kernel_rfl
  sizeByte := by kernel_rfl
  neB5 := by decide }
open Go.RowKit Go.Lib in
theorem Tryd.strings_Repeat (s : ByteArray) (c : Nat) (w : World) (hc : c ≤ 9223372036854775807) (hlen : s.size * c ≤ 140737488355328) :
    Calls Tryd.prog 49 #[.string s, .int .i64 c] w fun e w' => e = .returned (.string ⟨(Lib.repeatL s.data.toList c).toArray⟩) ∧ Below w.heap.size w w' := Any.strings_Repeat Tryd.lays105 Tryd.Builder_Extra_105 s c w hc hlen
end Go.Proofs
/- The mathematics of layer 3: parts of a text, which bytes and texts are names, which texts are below which, short texts. -/
namespace Go.Proofs.YtldfjpafpfakcaaDoor.Nm
open Go Go.Lib
/-- one byte more: the parts so far -/
def grow (acc : List (List UInt8)) (c : UInt8) : List (List UInt8) := if c = 47 then acc ++ [[]] else acc.dropLast ++ [acc.getLastD [] ++ [c]]
def parts (l : List UInt8) : List (List UInt8) := l.foldl grow [[]]
def partsR : List UInt8 → List (List UInt8)
  | [] => [[]]
  | c :: l => if c = 47 then [] :: partsR l else (c :: (partsR l).headD []) :: (partsR l).tail
theorem partsR_ne (l : List UInt8) : partsR l ≠ [] := by
  cases l with
  | nil => simp [partsR]
  | cons c l => unfold partsR; split <;> simp
theorem foldl_grow : ∀ (l : List UInt8) (acc : List (List UInt8)) (p : List UInt8), l.foldl grow (acc ++ [p]) = acc ++ ((p ++ (partsR l).headD []) :: (partsR l).tail)
  | [], acc, p => by simp [partsR]
  | c :: l, acc, p => by
    rw [List.foldl_cons]
    by_cases h : c = 47
    · rw [show grow (acc ++ [p]) c = (acc ++ [p]) ++ [[]] by simp [grow, h], foldl_grow l (acc ++ [p]) []]
      obtain ⟨x, r, e⟩ := List.exists_cons_of_ne_nil (partsR_ne l)
      simp [partsR, h, e]
    · rw [show grow (acc ++ [p]) c = acc ++ [p ++ [c]] by simp [grow, h], foldl_grow l acc (p ++ [c])]
      simp [partsR, h]
theorem parts_eq (l : List UInt8) : parts l = partsR l := by
  have h := foldl_grow l [] []
  obtain ⟨x, r, e⟩ := List.exists_cons_of_ne_nil (partsR_ne l)
  simp [e] at h
  rw [parts, h, e]
theorem index_cons (c : UInt8) (l : List UInt8) : index (c :: l) [47] = if c = 47 then 0 else if index l [47] == -1 then -1 else index l [47] + 1 := by
  rw [index]
  by_cases h : c = 47
  · simp [h, List.isPrefixOf]
  · rw [if_neg h, if_neg]
    simp [List.isPrefixOf]
    exact fun e => h e.symm
theorem split_parts : ∀ (l : List UInt8) (k : Nat), l.count 47 ≤ k → splitK [47] 0 k l = partsR l
  | [], k, _ => by cases k <;> simp [splitK, partsR, index]
  | c :: l, k, hk => by
    have ix := index_cons c l
    by_cases h : c = 47
    · rw [if_pos h] at ix
      rw [h, List.count_cons_self] at hk
      obtain ⟨k', rfl⟩ : ∃ k', k = k' + 1 := ⟨k - 1, by omega⟩
      rw [splitK, ix]
      simp [partsR, h, split_parts l k' (by omega)]
    · rw [if_neg h] at ix
      rw [List.count_cons_of_ne (by simpa using h)] at hk
      have ih := split_parts l k hk
      by_cases hm : (index l [47] == -1) = true
      · rw [if_pos hm] at ix
        have e1 : splitK [47] 0 k l = [l] := by cases k with | zero => rfl | succ k => rw [splitK, if_pos hm]
        have e2 : splitK [47] 0 k (c :: l) = [c :: l] := by cases k with | zero => rfl | succ k => rw [splitK, if_pos (by rw [ix]; rfl)]
        rw [e2, partsR, if_neg h, ← ih, e1]; rfl
      · rw [if_neg hm] at ix
        have hge := index_ge l [47]
        have hne : index l [47] ≠ -1 := fun e => hm (by simp [e])
        obtain ⟨i, hi⟩ : ∃ i : Nat, index l [47] = i := ⟨(index l [47]).toNat, by omega⟩
        have hc : 1 ≤ l.count 47 := by
          have := count_hit (s := l) (sub := [47]) (by simp) hi
          rw [count_one] at this; omega
        obtain ⟨k', rfl⟩ : ∃ k', k = k' + 1 := ⟨k - 1, by omega⟩
        rw [splitK, if_neg hm, hi] at ih
        have hm2 : ¬ (index (c :: l) [47] == -1) = true := by rw [ix, hi]; simp; omega
        rw [splitK, if_neg hm2, ix, hi, partsR, if_neg h, ← ih]
        have e : ((i : Int) + 1).toNat = i + 1 := by omega
        simp [e]
theorem splitB_parts (s : ByteArray) : (splitB ⟨#[47]⟩ 0 (countB s ⟨#[47]⟩) s).map (·.data.toList) = parts s.data.toList := by
  rw [splitB_data, parts_eq]
  exact split_parts _ _ (by show _ ≤ count _ [47]; rw [count_one]; exact Nat.le_refl _)
/-- the pieces, as the library's function lays them -/
def cut (s : ByteArray) : List ByteArray := splitB ⟨#[47]⟩ 0 (countB s ⟨#[47]⟩) s
theorem cut_parts (s : ByteArray) : (cut s).map (·.data.toList) = parts s.data.toList := splitB_parts s
theorem cut_len (s : ByteArray) : (cut s).length = countB s ⟨#[47]⟩ + 1 := splitB_all _ (Nat.le_refl _) 0 _ s rfl
theorem parts_len (s : ByteArray) : (parts s.data.toList).length = countB s ⟨#[47]⟩ + 1 := by rw [← cut_parts, List.length_map, cut_len]
theorem any_cut (p : List UInt8 → Bool) (s : ByteArray) : (cut s).any (fun x => p x.data.toList) = (parts s.data.toList).any p := by rw [← cut_parts, List.any_map]; rfl
theorem splitB_size (sep : ByteArray) (save : Nat) : ∀ (k : Nat) (s : ByteArray), ∀ x ∈ splitB sep save k s, x.size ≤ s.size
  | 0, s, x, hx => by simp [splitB] at hx; subst hx; exact Nat.le_refl _
  | k + 1, s, x, hx => by
    unfold splitB at hx
    split at hx
    · simp at hx; subst hx; exact Nat.le_refl _
    · rcases List.mem_cons.1 hx with rfl | hx
      · rw [ByteArray.size_extract]; omega
      · have := splitB_size sep save k _ x hx
        rw [ByteArray.size_extract] at this; omega
theorem cut_size (s : ByteArray) (x : ByteArray) (hx : x ∈ cut s) : x.size ≤ s.size := splitB_size _ _ _ _ x hx
/-! which bytes -/
def lettr (c : UInt8) : Bool := decide (97 ≤ (c.toNat : Int)) && decide ((c.toNat : Int) ≤ 122)
def figr (c : UInt8) : Bool := decide (48 ≤ (c.toNat : Int)) && decide ((c.toNat : Int) ≤ 57)
def among (more : List UInt8) (c : UInt8) : Bool := decide (0 ≤ indexByte more c)
def plain (more : List UInt8) (c : UInt8) : Bool := lettr c || figr c || among more c
def allL (p : UInt8 → Bool) (l : List UInt8) : Bool := l.all p
def bad (p : List UInt8) : Bool := !(allL (plain [45, 46]) p) || allL (among [46]) p
def ref (l : List UInt8) : Bool := decide (l.length ≤ 24) && decide (2 ≤ (parts l).length) && !((parts l).any bad)
/-! below, and short -/
/-! the same, byte by byte -/
end Go.Proofs.YtldfjpafpfakcaaDoor.Nm
/- The library's contracts that layer 3 leans on, laid at this program's numbers. -/
namespace Go.Proofs.YtldfjpafpfakcaaDoor
open Go Go.RowKit
/-! strings.IndexByte -/
section
open Go.Shelf
def ixb_ren : Go.Shelf.Ren := ⟨fun | 137 => 34 | 217 => 52 | 266 => 70 | n => n, fun | 9 => 9 | 5 => 5 | 3 => 3 | n => n, fun | n => n⟩
theorem ixb_lays : Go.Proofs.Lays.n137 Tryd.prog ixb_ren := {
  mixed := by kernel_rfl
  f137 := Tryd.func34.trans (congrArg some (by kernel_rfl))
  f217 := Tryd.func52.trans (congrArg some (by kernel_rfl))
  f266 := Tryd.func70.trans (congrArg some (by kernel_rfl))
  t3 := Tryd.underlying3
  a3 := Tryd.isAgg3
  z3 := Tryd.sizeOf3
  v3 := Tryd.zeroValue3
  t5 := Tryd.underlying5
  a5 := Tryd.isAgg5
  z5 := Tryd.sizeOf5
  v5 := Tryd.zeroValue5
  t9 := Tryd.underlying9
  a9 := Tryd.isAgg9
  z9 := Tryd.sizeOf9
  v9 := Tryd.zeroValue9 }
end
end Go.Proofs.YtldfjpafpfakcaaDoor
