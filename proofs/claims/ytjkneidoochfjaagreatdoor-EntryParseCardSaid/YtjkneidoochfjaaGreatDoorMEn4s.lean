/- Entries of a journal compared (entry.Same). -/
import Derived.Test.YtjkneidoochfjaaGreatDoorMOb1s
import Derived.Test.YtjkneidoochfjaaGreatDoorMShaMsgMaths
import Derived.Shelf.Strings.Builder1
import Derived.Shelf.Strings.Builder2
import Derived.Shelf.Small.Strs
import Derived.Shelf.Strings.BuilderF
import Derived.Shelf.Strings.Search1
import Derived.Shelf.Strings.Search2
import Derived.Shelf.Strings.Search3
import Derived.Shelf.Strings.Count
import Derived.Shelf.LaysM
import Derived.Shelf.Strings.Shaped
import Derived.Shelf.Strings.Prefix
import Derived.Shelf.Strings.Split
import Derived.Shelf.Strings.SplitShaped
import Derived.Shelf.Bits.Mul64
import Derived.Shelf.Strings.Repeat
import Derived.Shelf.Unicode.DecodeSlow
import Derived.Shelf.Bytes.SlSearch0
import Derived.Ground.SlbCloneProg
import Derived.Shelf.Bytes.SlClone
import Derived.Ground.SlgfProg
import Derived.Shelf.SlicesE.IndexFunc
import Derived.Shelf.Bytes.SlEqualAll
import Derived.Shelf.Bytes.Small
import Derived.Test.YtjkneidoochfjaaGreatDoorProg
import Derived.Test.YtjkneidoochfjaaGreatDoorMBases
namespace Go.Proofs.YtjkneidoochfjaaGreatDoor
open Go Go.RowKit
namespace En
/-- an entry of a journal -/
structure E where
  client : Int
  number : Int
  answer : Int
  ups : List Up
  objs : List (List Nat)
end En
/-- an entry, and where its parts lie -/
structure EnC (w : World) (e : En.E) (cs : Array Value) (U : Option Addr) (cu : Nat) (O : Option Addr) (co : Nat) (ts : List En.Bt) : Prop where
  cells : cs = #[.int .i64 e.client, .int .i64 e.number, .int .i64 e.answer, .slice U e.ups.length cu, .slice O e.objs.length co]
  ups : RdK w (.slice U e.ups.length cu) e.ups.length (cellsU e.ups)
  fit : ∀ u ∈ e.ups, u.Fit
  objs : BtT w O e.objs.length ts
  txt : ts.map (·.text) = e.objs
theorem EnC.below {w w' : World} {e : En.E} {cs : Array Value} {U O : Option Addr} {cu co : Nat} {ts : List En.Bt} (h : EnC w e cs U cu O co ts) (hb : Below w.heap.size w w') : EnC w' e cs U cu O co ts :=
  ⟨h.cells, h.ups.below hb (Nat.le_refl _), h.fit, h.objs.below hb, h.txt⟩
set_option maxRecDepth 100000 in
set_option maxHeartbeats 2000000 in
theorem esame_any (a b : En.E) (ca cb : Array Value) (U1 O1 U2 O2 : Option Addr) (cu1 co1 cu2 co2 : Nat) (ts us : List En.Bt) (w : World) (ha : EnC w a ca U1 cu1 O1 co1 ts) (hb : EnC w b cb U2 cu2 O2 co2 us) (lu : a.ups.length ≤ 1000) (lo : a.objs.length ≤ 100000) :
    Calls Tryz.prog 16 #[.agg ca, .agg cb] w fun e w' => e = .returned (.bool (eqv a b)) ∧ Below w.heap.size w w' := by
  obtain ⟨w2, hw2⟩ : ∃ w2, w2 = (w.alloc (.cells ca 25)).alloc (.cells cb 25) := ⟨_, rfl⟩
  have b2 : Below w.heap.size w w2 := hw2 ▸ boxed ca cb _
  have B1 : Blk w2 w.heap.size 25 ca := hw2 ▸ (Blk.new w _ _).alloc _
  have B2 : Blk w2 (w.heap.size + 1) 25 cb := hw2 ▸ boxed2 ca cb _
  have HA := Lib.hid (ha.below b2)
  have HB := Lib.hid (hb.below b2)
  have HB2 := Lib.hid b2
  have HE : Hid (eqv a b = (eqv a.client b.client && (eqv a.number b.number && (eqv a.answer b.answer && (eqv a.ups b.ups && eqv (ts.map (·.text)) (us.map (·.text))))))) := Lib.hid (by
    rw [ha.txt, hb.txt]
    obtain ⟨a1, a2, a3, a4, a5⟩ := a
    obtain ⟨b1, b2, b3, b4, b5⟩ := b
    rw [Bool.eq_iff_iff]
    simp only [Bool.and_eq_true, eqv_iff, En.E.mk.injEq])
  have CU : ∀ n, Calls Tryz.prog 34 #[.slice U1 a.ups.length cu1, .slice U2 b.ups.length cu2] (w2.drewN n) _ := fun n => eqU_any U1 U2 cu1 cu2 a.ups b.ups (w2.drewN n) (HA.out.ups.below (below_drewN (Below.refl _ _) n) (Nat.le_refl _)) (HB.out.ups.below (below_drewN (Below.refl _ _) n) (Nat.le_refl _)) HA.out.fit HB.out.fit lu
  have CO : ∀ n, Calls Tryz.prog 35 #[.slice O1 a.objs.length co1, .slice O2 b.objs.length co2, .func (.func 36) #[] #[]] (w2.drewN n) _ := fun n => eqT_any O1 O2 _ _ co1 co2 ts us (w2.drewN n) (HA.out.objs.below (below_drewN (Below.refl _ _) n)) (HB.out.objs.below (below_drewN (Below.refl _ _) n)) lo
  have p0 : w2.cell? ⟨w.heap.size, 0, none⟩ = some (.int .i64 a.client) := (B1.cell 0).trans (by rw [ha.cells]; rfl)
  have p1 : w2.cell? ⟨w.heap.size, 1, none⟩ = some (.int .i64 a.number) := (B1.cell 1).trans (by rw [ha.cells]; rfl)
  have p2 : w2.cell? ⟨w.heap.size, 2, none⟩ = some (.int .i64 a.answer) := (B1.cell 2).trans (by rw [ha.cells]; rfl)
  have p3 : w2.cell? ⟨w.heap.size, 3, none⟩ = some (.slice U1 a.ups.length cu1) := (B1.cell 3).trans (by rw [ha.cells]; rfl)
  have p4 : w2.cell? ⟨w.heap.size, 4, none⟩ = some (.slice O1 a.objs.length co1) := (B1.cell 4).trans (by rw [ha.cells]; rfl)
  have q0 : w2.cell? ⟨w.heap.size + 1, 0, none⟩ = some (.int .i64 b.client) := (B2.cell 0).trans (by rw [hb.cells]; rfl)
  have q1 : w2.cell? ⟨w.heap.size + 1, 1, none⟩ = some (.int .i64 b.number) := (B2.cell 1).trans (by rw [hb.cells]; rfl)
  have q2 : w2.cell? ⟨w.heap.size + 1, 2, none⟩ = some (.int .i64 b.answer) := (B2.cell 2).trans (by rw [hb.cells]; rfl)
  have q3 : w2.cell? ⟨w.heap.size + 1, 3, none⟩ = some (.slice U2 b.ups.length cu2) := (B2.cell 3).trans (by rw [hb.cells]; rfl)
  have q4 : w2.cell? ⟨w.heap.size + 1, 4, none⟩ = some (.slice O2 b.objs.length co2) := (B2.cell 4).trans (by rw [hb.cells]; rfl)
  have e1 : (a.client == b.client) = eqv a.client b.client := by rw [Bool.eq_iff_iff, beq_iff_eq, eqv_iff]
  have e2 : (a.number == b.number) = eqv a.number b.number := by rw [Bool.eq_iff_iff, beq_iff_eq, eqv_iff]
  have e3 : (a.answer == b.answer) = eqv a.answer b.answer := by rw [Bool.eq_iff_iff, beq_iff_eq, eqv_iff]
  have ew := hw2.symm
  generalize eqv a b = R at HE ⊢
  generalize eqv a.client b.client = r1 at HE e1
  generalize eqv a.number b.number = r2 at HE e2
  generalize eqv a.answer b.answer = r3 at HE e3
  generalize eqv a.ups b.ups = r4 at HE CU
  generalize eqv (ts.map (·.text)) (us.map (·.text)) = r5 at HE CO
  generalize a.client = x1 at p0 e1
  generalize a.number = x2 at p1 e2
  generalize a.answer = x3 at p2 e3
  generalize b.client = y1 at q0 e1
  generalize b.number = y2 at q1 e2
  generalize b.answer = y3 at q2 e3
  generalize a.ups.length = n1 at p3 CU
  generalize b.ups.length = n2 at q3 CU
  generalize a.objs.length = m1 at p4 CO
  generalize b.objs.length = m2 at q4 CO
  clear ha hb b2 B1 B2 hw2 lu lo HA HB
  go_enter Tryz.func16, Tryz.ntmps16
  cases r1 <;> cases r2 <;> cases r3
  all_goals
    go_wp2_with (first
      | (go_at_call 34; refine (CU 0).mono ?_; rintro e w3 ⟨rfl, m, rfl⟩; cases r4)
      | (go_at_call 35; refine (CO _).mono ?_; rintro e w4 ⟨rfl, rfl⟩))
  all_goals
    go_ret
    first
      | exact ⟨by rw [HE.out]; rfl, HB2.out⟩
      | exact ⟨by rw [HE.out]; rfl, below_drewN HB2.out _⟩
      | exact ⟨by rw [HE.out]; simp, below_drewN HB2.out _⟩
end Go.Proofs.YtjkneidoochfjaaGreatDoor
/- Arguments of laws, opened: entries. -/
namespace Go.Proofs.YtjkneidoochfjaaGreatDoor
open Go Go.RowKit Go.WideShapes Go.ChangeShapes
theorem eupd_under : Tryz.prog.underlying 56 = some (.struct (Tryz.prog.fieldsOf 56)) := by kernel_rfl
theorem eupd_fields : (Tryz.prog.fieldsOf 56).toList.map (fun f => (f.type, f.offset)) = [(9, 0), (54, 1), (54, 33)] := by kernel_rfl
theorem eent_under : Tryz.prog.underlying 25 = some (.struct (Tryz.prog.fieldsOf 25)) := by kernel_rfl
theorem eent_fields : (Tryz.prog.fieldsOf 25).toList.map (fun f => (f.type, f.offset)) = [(3, 0), (3, 1), (3, 2), (22, 3), (23, 4)] := by kernel_rfl
theorem cells65 (L : List Value) (hcl : L.length = 65) (a : Value) (X Y : List Value) (h0 : L[0] = a) (h1 : (L.drop 1).take 32 = X) (h2 : (L.drop 33).take 32 = Y) : L = a :: (X ++ Y) := by
  match L, hcl with
  | c0 :: L', hcl =>
    have hL' : L'.length = 64 := by simp at hcl; omega
    have e0 : c0 = a := h0
    have e1 : L'.take 32 = X := by simpa using h1
    have e2 : L'.drop 32 = Y := by
      have h3 : (L'.drop 32).take 32 = Y := by simpa using h2
      rwa [List.take_of_length_le (by rw [List.length_drop]; omega)] at h3
    rw [e0, ← e1, ← e2, List.take_append_drop]
theorem open_up1 {H : Type} {enc : TypeId × Value → H} {W : World} {held : Bool} {fuel : Nat} {cs : List Value} {y : DataW H × List MemPlace}
    (hf : DataW.trod enc Tryz.prog W 0 (fun _ => true) held fuel 56 cs = some y) : ∃ u : En.Up, u.Fit ∧ cs = cellsU1 u := by
  obtain ⟨xs, n, _, _, hl, hlen, hx⟩ := DataW.trod_struct eupd_under hf
  have hc65 : Tryz.prog.cellsOf 56 = 65 := by kernel_rfl
  rw [hc65] at hl
  have hF := eupd_fields
  have hsz : (Tryz.prog.fieldsOf 56).toList.length = 3 := by have := congrArg List.length hF; simpa using this
  have fld : ∀ i (h : i < 3) t o, [(9, 0), (54, 1), (54, 33)][i]? = some (t, o) → ∃ y, DataW.trod enc Tryz.prog W 0 (fun _ => true) held n t ((cs.drop o).take (Tryz.prog.cellsOf t)) = some y := fun i h t o hq => by
    rw [← hF, List.getElem?_map] at hq
    simp only [Option.map_eq_some_iff] at hq
    obtain ⟨f, hfi, hft⟩ := hq
    have hfi' : (Tryz.prog.fieldsOf 56)[i]? = some f := by simpa using hfi
    have h2 := hx i f hfi'
    injection hft with e1 e2
    rw [e1, e2] at h2
    have h3 : i < xs.length := by rw [hlen, ← Array.length_toList, hsz]; exact h
    exact ⟨xs[i], by rw [h2, List.getElem?_eq_getElem h3]⟩
  obtain ⟨y0, k0⟩ := fld 0 (by omega) _ _ rfl
  obtain ⟨y1, k1⟩ := fld 1 (by omega) _ _ rfl
  obtain ⟨y2, k2⟩ := fld 2 (by omega) _ _ rfl
  rw [show Tryz.prog.cellsOf 9 = 1 by kernel_rfl, one_of (by omega)] at k0
  rw [show Tryz.prog.cellsOf 54 = 32 by kernel_rfl] at k1 k2
  obtain ⟨s, hs, _, _⟩ := DataW.trod_string Tryz.underlying9 k0
  obtain ⟨xo, ho, lo, bo⟩ := trod_id Tryz.underlying54 Tryz.underlying5 (by kernel_rfl) (by kernel_rfl) k1
  obtain ⟨xn, hn, ln, bn⟩ := trod_id Tryz.underlying54 Tryz.underlying5 (by kernel_rfl) (by kernel_rfl) k2
  refine ⟨⟨s, xo, xn⟩, ⟨⟨lo, bo⟩, ⟨ln, bn⟩⟩, ?_⟩
  exact cells65 cs hl _ _ _ (by simpa using hs) ho hn
theorem open_ups {H : Type} {enc : TypeId × Value → H} {W : World} {held : Bool} {fuel : Nat} {v : Value} {y : DataW H × List MemPlace}
    (hf : DataW.trod enc Tryz.prog W 0 (fun _ => true) held fuel 22 [v] = some y) : ∃ (l : List En.Up) (A : Option Addr) (c : Nat), v = .slice A l.length c ∧ RdK W v l.length (cellsU l) ∧ ∀ x ∈ l, x.Fit := by
  rcases DataW.trod_slice Tryz.underlying22 hf with ⟨hc, _⟩ | ⟨a, len, cap, elems, rest, m, _, hc, _, hba, hlc, hcm, hlen, hel, _⟩
  · obtain rfl : v = .slice none 0 0 := by simpa using hc
    exact ⟨[], none, 0, rfl, RdK.nil _ _, fun x h => by cases h⟩
  · obtain rfl : v = .slice (some a) len cap := by simpa using hc
    rw [show Tryz.prog.cellsOf 56 = 65 by kernel_rfl] at hel
    obtain ⟨xs, hl, hg, hr⟩ := rdk_of (W := W) cellsU1 65 En.Up.Fit (fun x h => cellsU1_len h) (by omega) a len cap hlc (fun i hi => by
      have h := hel i hi
      rw [List.getElem?_eq_getElem (by omega)] at h
      simp only [Option.bind_eq_some_iff] at h
      obtain ⟨cs, hcs, hy⟩ := h
      obtain ⟨u, hu, rfl⟩ := open_up1 hy
      exact ⟨u, hu, fun j x hx => cells_at hcs j x hx (by have := (List.getElem?_eq_some_iff.1 hx).1; rwa [cellsU1_len hu] at this)⟩)
    exact ⟨xs, some a, cap, by rw [hl], by rw [hl]; exact hr, hg⟩
theorem bts_of {W : World} {v : Value} {vs : List Value} {ps : List (List Nat)} (h : RdL W v vs) (hl : ps.length = vs.length) (hr : ∀ i u, vs[i]? = some u → Rd W u (ps.getD i [])) (hb : ∀ x ∈ ps, Sha.Byte x) : ∃ A c ts, v = .slice A ps.length c ∧ BtT W A ps.length ts ∧ ts.map (·.text) = ps ∧ ps.length ≤ c := by
  obtain ⟨A, c, hv, hcp, hA⟩ := h
  obtain ⟨ts, hts⟩ : ∃ ts, ts = List.zipWith (fun u x => (⟨x, u⟩ : En.Bt)) vs ps := ⟨_, rfl⟩
  have hlt : ts.length = ps.length := by rw [hts, List.length_zipWith]; omega
  have hg : ∀ i (t : En.Bt), ts[i]? = some t → vs[i]? = some t.val ∧ ps[i]? = some t.text := fun i t ht => by
    rw [hts, List.getElem?_zipWith] at ht
    cases hu : vs[i]? with
    | none => rw [hu] at ht; simp at ht
    | some u =>
      cases hx : ps[i]? with
      | none => rw [hu, hx] at ht; simp at ht
      | some x =>
        rw [hu, hx] at ht
        obtain rfl : (⟨x, u⟩ : En.Bt) = t := by simpa using ht
        exact ⟨rfl, rfl⟩
  refine ⟨A, c, ts, by rw [hv, hl], ⟨hlt.symm, fun h0 => ?_, fun t ht => ?_⟩, ?_, by omega⟩
  · obtain ⟨b, o, ha, hbl, hx⟩ := hA (by omega)
    exact ⟨b, o, ha, hbl, fun i t ht => hx i _ (hg i t ht).1⟩
  · obtain ⟨i, hi⟩ := List.mem_iff_getElem?.1 ht
    obtain ⟨h1, h2⟩ := hg i t hi
    have h3 := hr i _ h1
    rw [List.getD_eq_getElem?_getD, h2] at h3
    exact ⟨h3, hb _ (List.mem_of_getElem? h2)⟩
  · apply List.ext_getElem?
    intro i
    rw [List.getElem?_map]
    cases ht : ts[i]? with
    | some t => rw [(hg i t ht).2]; rfl
    | none =>
      have h1 := List.getElem?_eq_none_iff.1 ht
      rw [List.getElem?_eq_none (by omega)]; rfl
theorem cells5 (L : List Value) (hcl : L.length = 5) (a b c d e : Value) (h0 : L[0] = a) (h1 : L[1] = b) (h2 : L[2] = c) (h3 : L[3] = d) (h4 : L[4] = e) : L = [a, b, c, d, e] := by
  match L, hcl with
  | [c0, c1, c2, c3, c4], _ =>
    have e0 : c0 = a := h0
    have e1 : c1 = b := h1
    have e2 : c2 = c := h2
    have e3 : c3 = d := h3
    have e4 : c4 = e := h4
    rw [e0, e1, e2, e3, e4]
theorem open_entT {H : Type} {enc : TypeId × Value → H} {W : World} {held : Bool} {fuel : Nat} {cs : List Value} {y : DataW H × List MemPlace}
    (hf : DataW.trod enc Tryz.prog W 0 (fun _ => true) held fuel 25 cs = some y) :
    ∃ (e : En.E) (U : Option Addr) (cu : Nat) (O : Option Addr) (co : Nat) (ts : List En.Bt), cs.length = 5 ∧ EnC W e cs.toArray U cu O co ts ∧ e.objs.length ≤ co := by
  obtain ⟨xs, n, _, _, hl, hlen, hx⟩ := DataW.trod_struct eent_under hf
  have hc5 : Tryz.prog.cellsOf 25 = 5 := by kernel_rfl
  rw [hc5] at hl
  have hF := eent_fields
  have hsz : (Tryz.prog.fieldsOf 25).toList.length = 5 := by have := congrArg List.length hF; simpa using this
  have fld : ∀ i (h : i < 5) t o, [(3, 0), (3, 1), (3, 2), (22, 3), (23, 4)][i]? = some (t, o) → ∃ y, DataW.trod enc Tryz.prog W 0 (fun _ => true) held n t ((cs.drop o).take (Tryz.prog.cellsOf t)) = some y := fun i h t o hq => by
    rw [← hF, List.getElem?_map] at hq
    simp only [Option.map_eq_some_iff] at hq
    obtain ⟨f, hfi, hft⟩ := hq
    have hfi' : (Tryz.prog.fieldsOf 25)[i]? = some f := by simpa using hfi
    have h2 := hx i f hfi'
    injection hft with e1 e2
    rw [e1, e2] at h2
    have h3 : i < xs.length := by rw [hlen, ← Array.length_toList, hsz]; exact h
    exact ⟨xs[i], by rw [h2, List.getElem?_eq_getElem h3]⟩
  obtain ⟨y0, k0⟩ := fld 0 (by omega) _ _ rfl
  obtain ⟨y1, k1⟩ := fld 1 (by omega) _ _ rfl
  obtain ⟨y2, k2⟩ := fld 2 (by omega) _ _ rfl
  obtain ⟨y3, k3⟩ := fld 3 (by omega) _ _ rfl
  obtain ⟨y4, k4⟩ := fld 4 (by omega) _ _ rfl
  rw [show Tryz.prog.cellsOf 3 = 1 by kernel_rfl, one_of (by omega)] at k0 k1 k2
  rw [show Tryz.prog.cellsOf 22 = 1 by kernel_rfl, one_of (by omega)] at k3
  rw [show Tryz.prog.cellsOf 23 = 1 by kernel_rfl, one_of (by omega)] at k4
  obtain ⟨x, q0, _, _⟩ := DataW.trod_int Tryz.underlying3 k0
  obtain ⟨yy, q1, _, _⟩ := DataW.trod_int Tryz.underlying3 k1
  obtain ⟨z, q2, _, _⟩ := DataW.trod_int Tryz.underlying3 k2
  obtain ⟨us, UA, uc, vU, rU, gU⟩ := open_ups k3
  obtain ⟨vs, pss, hRL, hpl, hr, hb, _, _⟩ := open_partsT Tryz.underlying23 Tryz.underlying32 Tryz.underlying5 (by kernel_rfl) (by kernel_rfl) k4
  obtain ⟨OA, oc, ts, vO, hT, htx, hoc⟩ := bts_of hRL hpl hr hb
  refine ⟨⟨x, yy, z, us, pss⟩, UA, uc, OA, oc, ts, hl, ⟨?_, by rw [← vU]; exact rU, gU, hT, htx⟩, hoc⟩
  have h0 : cs[0] = .int .i64 x := by simpa using q0
  have h1 : cs[1] = .int .i64 yy := by simpa using q1
  have h2 : cs[2] = .int .i64 z := by simpa using q2
  rw [cells5 cs hl _ _ _ _ _ h0 h1 h2 vU vO]
theorem open_ent {H : Type} {enc : TypeId × Value → H} {W : World} {held : Bool} {v : Value} {d : DataW H} {ps : List MemPlace}
    (hd : DataW.Trod enc Tryz.prog W 0 (fun _ => true) held 25 v d ps) :
    ∃ (e : En.E) (cs : Array Value) (U : Option Addr) (cu : Nat) (O : Option Addr) (co : Nat) (ts : List En.Bt), v = .agg cs ∧ EnC W e cs U cu O co ts ∧ e.objs.length ≤ co := by
  obtain ⟨fuel, hf⟩ := hd
  obtain ⟨e, U, cu, O, co, ts, hl, hE, hoc⟩ := open_entT hf
  have hv : ∃ cs, v = .agg cs := by
    cases v <;> first | exact ⟨_, rfl⟩ | (exfalso; simp [Value.cells] at hl)
  obtain ⟨cs, rfl⟩ := hv
  exact ⟨e, cs, U, cu, O, co, ts, rfl, by simpa [Value.cells] using hE, hoc⟩
end Go.Proofs.YtjkneidoochfjaaGreatDoor
/- The library's contracts at this program's numbers: each by one application. -/
namespace Go.Proofs
open Go.Shelf
def Tryz.lays137_ren : Go.Shelf.Ren := ⟨fun | 137 => 91 | 217 => 106 | 266 => 119 | n => n, fun | 9 => 9 | 5 => 5 | 3 => 3 | n => n, fun | n => n⟩
theorem Tryz.lays137 : Go.Proofs.Lays.n137 Tryz.prog Tryz.lays137_ren := {
  mixed := by kernel_rfl
  f137 := Tryz.func91.trans (congrArg some (by kernel_rfl))
  f217 := Tryz.func106.trans (congrArg some (by kernel_rfl))
  f266 := Tryz.func119.trans (congrArg some (by kernel_rfl))
  t3 := Tryz.underlying3
  a3 := Tryz.isAgg3
  z3 := Tryz.sizeOf3
  v3 := Tryz.zeroValue3
  t5 := Tryz.underlying5
  a5 := Tryz.isAgg5
  z5 := Tryz.sizeOf5
  v5 := Tryz.zeroValue5
  t9 := Tryz.underlying9
  a9 := Tryz.isAgg9
  z9 := Tryz.sizeOf9
  v9 := Tryz.zeroValue9 }
open Go.RowKit in
theorem Tryz.strings_IndexByte (s : ByteArray) (c : Int) (w : World) :
    Calls Tryz.prog 91 #[.string s, .int .u8 c] w fun e w' => e = .returned (.int .i64 (Lib.indexByte s.data.toList c.toNat.toUInt8)) ∧ w' = w := Any.strings_IndexByte Tryz.lays137 s c w
def Tryz.laysM219_ren : Go.Shelf.Ren := ⟨fun | 219 => 125 | 217 => 106 | 225 => 129 | 224 => 130 | 267 => 131 | 266 => 119 | 314 => 132 | n => n, fun | 9 => 9 | 3 => 3 | 4 => 4 | 5 => 5 | 46 => 154 | 146 => 173 | 51 => 172 | n => n, fun | 1 => 22 | n => n⟩
theorem Tryz.laysM219 : Go.Proofs.LaysM.n219 Tryz.prog Tryz.laysM219_ren := {
  mixed := by kernel_rfl
  f217 := Tryz.func106.trans (congrArg some (by kernel_rfl))
  f219 := Tryz.func125.trans (congrArg some (by kernel_rfl))
  f224 := Tryz.func130.trans (congrArg some (by kernel_rfl))
  f225 := Tryz.func129.trans (congrArg some (by kernel_rfl))
  f266 := Tryz.func119.trans (congrArg some (by kernel_rfl))
  f267 := Tryz.func131.trans (congrArg some (by kernel_rfl))
  f314 := Tryz.func132.trans (congrArg some (by kernel_rfl))
  t3 := Tryz.underlying3
  a3 := Tryz.isAgg3
  z3 := Tryz.sizeOf3
  v3 := Tryz.zeroValue3
  t4 := Tryz.underlying4
  a4 := Tryz.isAgg4
  z4 := Tryz.sizeOf4
  v4 := Tryz.zeroValue4
  t5 := Tryz.underlying5
  a5 := Tryz.isAgg5
  z5 := Tryz.sizeOf5
  v5 := Tryz.zeroValue5
  t9 := Tryz.underlying9
  a9 := Tryz.isAgg9
  z9 := Tryz.sizeOf9
  v9 := Tryz.zeroValue9
  t46 := Tryz.underlying154
  a46 := Tryz.isAgg154
  z46 := Tryz.sizeOf154
  v46 := Tryz.zeroValue154
  t51 := Tryz.underlying172
  a51 := Tryz.isAgg172
  z51 := Tryz.sizeOf172
  v51 := Tryz.zeroValue172
  t146 := Tryz.underlying173
  a146 := Tryz.isAgg173
  z146 := Tryz.sizeOf173
  v146 := Tryz.zeroValue173
  g1 := by kernel_rfl
  i3 := by kernel_rfl
  i4 := by kernel_rfl
  i5 := by kernel_rfl
  i9 := by kernel_rfl
  i46 := by kernel_rfl
  i51 := by kernel_rfl
  i146 := by kernel_rfl
  m1 := by kernel_rfl
  s1_3 := fun w h => Go.Proofs.cell_of_shapedOpen_int (zero := #[.int .i64 0]) (t := 3) h (of_decide_eq_true (by kernel_rfl)) (by kernel_rfl) rfl (by kernel_rfl) (by kernel_rfl) Tryz.underlying3 }
def Tryz.lays146_ren : Go.Shelf.Ren := ⟨fun | 146 => 73 | 221 => 99 | 268 => 112 | 138 => 113 | 143 => 114 | 195 => 122 | 197 => 123 | 218 => 124 | 219 => 125 | 260 => 128 | 217 => 106 | 225 => 129 | 224 => 130 | 267 => 131 | 266 => 119 | 314 => 132 | n => n, fun | 9 => 9 | 31 => 94 | 3 => 3 | 4 => 4 | 0 => 0 | 105 => 185 | 21 => 21 | 5 => 5 | 46 => 154 | 119 => 188 | 139 => 191 | 138 => 190 | 146 => 173 | 51 => 172 | n => n, fun | 1 => 22 | 3 => 23 | 4 => 24 | n => n⟩
theorem Tryz.lays146 : Go.Proofs.Lays.n146 Tryz.prog Tryz.lays146_ren := {
  mixed := by kernel_rfl
  f138 := Tryz.func113.trans (congrArg some (by kernel_rfl))
  f143 := Tryz.func114.trans (congrArg some (by kernel_rfl))
  f146 := Tryz.func73.trans (congrArg some (by kernel_rfl))
  f195 := Tryz.func122.trans (congrArg some (by kernel_rfl))
  f197 := Tryz.func123.trans (congrArg some (by kernel_rfl))
  f217 := Tryz.func106.trans (congrArg some (by kernel_rfl))
  f218 := Tryz.func124.trans (congrArg some (by kernel_rfl))
  f219 := Tryz.func125.trans (congrArg some (by kernel_rfl))
  f221 := Tryz.func99.trans (congrArg some (by kernel_rfl))
  f224 := Tryz.func130.trans (congrArg some (by kernel_rfl))
  f225 := Tryz.func129.trans (congrArg some (by kernel_rfl))
  f260 := Tryz.func128.trans (congrArg some (by kernel_rfl))
  f266 := Tryz.func119.trans (congrArg some (by kernel_rfl))
  f267 := Tryz.func131.trans (congrArg some (by kernel_rfl))
  f268 := Tryz.func112.trans (congrArg some (by kernel_rfl))
  f314 := Tryz.func132.trans (congrArg some (by kernel_rfl))
  t0 := Tryz.underlying0
  a0 := Tryz.isAgg0
  z0 := Tryz.sizeOf0
  v0 := Tryz.zeroValue0
  t3 := Tryz.underlying3
  a3 := Tryz.isAgg3
  z3 := Tryz.sizeOf3
  v3 := Tryz.zeroValue3
  t4 := Tryz.underlying4
  a4 := Tryz.isAgg4
  z4 := Tryz.sizeOf4
  v4 := Tryz.zeroValue4
  t5 := Tryz.underlying5
  a5 := Tryz.isAgg5
  z5 := Tryz.sizeOf5
  v5 := Tryz.zeroValue5
  t9 := Tryz.underlying9
  a9 := Tryz.isAgg9
  z9 := Tryz.sizeOf9
  v9 := Tryz.zeroValue9
  t21 := Tryz.underlying21
  a21 := Tryz.isAgg21
  z21 := Tryz.sizeOf21
  v21 := Tryz.zeroValue21
  t31 := Tryz.underlying94
  a31 := Tryz.isAgg94
  z31 := Tryz.sizeOf94
  v31 := Tryz.zeroValue94
  t46 := Tryz.underlying154
  a46 := Tryz.isAgg154
  z46 := Tryz.sizeOf154
  v46 := Tryz.zeroValue154
  t51 := Tryz.underlying172
  a51 := Tryz.isAgg172
  z51 := Tryz.sizeOf172
  v51 := Tryz.zeroValue172
  t105 := Tryz.underlying185
  a105 := Tryz.isAgg185
  z105 := Tryz.sizeOf185
  v105 := Tryz.zeroValue185
  t119 := Tryz.underlying188
  a119 := Tryz.isAgg188
  z119 := Tryz.sizeOf188
  t138 := Tryz.underlying190
  a138 := Tryz.isAgg190
  z138 := Tryz.sizeOf190
  v138 := Tryz.zeroValue190
  t139 := Tryz.underlying191
  a139 := Tryz.isAgg191
  z139 := Tryz.sizeOf191
  v139 := Tryz.zeroValue191
  t146 := Tryz.underlying173
  a146 := Tryz.isAgg173
  z146 := Tryz.sizeOf173
  v146 := Tryz.zeroValue173
  g1 := by kernel_rfl
  g3 := by kernel_rfl
  g4 := by kernel_rfl }
open Go.RowKit Go.Lib in
theorem Tryz.strings_Split (s sep : ByteArray) (m : Int) (w : World) (hs : s.size < 4294967281) (hm : w.cell? ⟨22, 0, none⟩ = some (.int .i64 m)) (h1 : 1 ≤ sep.size) :
    Calls Tryz.prog 73 #[.string s, .string sep] w fun e w' =>
      e = .returned (.slice (some ⟨w.heap.size, 0, none⟩) (Lib.countB s sep + 1) (Lib.countB s sep + 1)) ∧ w' = w.alloc (.cells ((Lib.splitB sep 0 (Lib.countB s sep) s).map Value.string).toArray 9) := Any.strings_Split Tryz.lays146 (by kernel_rfl) s sep m w hs hm h1
def Tryz.lays105_ren : Go.Shelf.Ren := ⟨fun | 105 => 72 | 212 => 93 | 99 => 94 | 165 => 95 | 166 => 96 | 170 => 97 | 169 => 98 | 263 => 107 | 264 => 108 | 206 => 109 | 240 => 110 | 241 => 111 | 276 => 120 | 277 => 121 | n => n, fun | 9 => 9 | 3 => 3 | 4 => 4 | 20 => 20 | 0 => 0 | 46 => 154 | 109 => 155 | 5 => 5 | 72 => 160 | 76 => 162 | 51 => 172 | 146 => 173 | 53 => 147 | 148 => 175 | 70 => 158 | 37 => 32 | 75 => 34 | 127 => 177 | 164 => 182 | 80 => 165 | n => n, fun | n => n⟩
theorem Tryz.lays105 : Go.Proofs.Lays.n105 Tryz.prog Tryz.lays105_ren := {
  mixed := by kernel_rfl
  f99 := Tryz.func94.trans (congrArg some (by kernel_rfl))
  f105 := Tryz.func72.trans (congrArg some (by kernel_rfl))
  f165 := Tryz.func95.trans (congrArg some (by kernel_rfl))
  f166 := Tryz.func96.trans (congrArg some (by kernel_rfl))
  f169 := Tryz.func98.trans (congrArg some (by kernel_rfl))
  f170 := Tryz.func97.trans (congrArg some (by kernel_rfl))
  f206 := Tryz.func109.trans (congrArg some (by kernel_rfl))
  f212 := Tryz.func93.trans (congrArg some (by kernel_rfl))
  f240 := Tryz.func110.trans (congrArg some (by kernel_rfl))
  f241 := Tryz.func111.trans (congrArg some (by kernel_rfl))
  f263 := Tryz.func107.trans (congrArg some (by kernel_rfl))
  f264 := Tryz.func108.trans (congrArg some (by kernel_rfl))
  f276 := Tryz.func120.trans (congrArg some (by kernel_rfl))
  f277 := Tryz.func121.trans (congrArg some (by kernel_rfl))
  t0 := Tryz.underlying0
  a0 := Tryz.isAgg0
  z0 := Tryz.sizeOf0
  v0 := Tryz.zeroValue0
  t3 := Tryz.underlying3
  a3 := Tryz.isAgg3
  z3 := Tryz.sizeOf3
  v3 := Tryz.zeroValue3
  t4 := Tryz.underlying4
  a4 := Tryz.isAgg4
  z4 := Tryz.sizeOf4
  v4 := Tryz.zeroValue4
  t5 := Tryz.underlying5
  a5 := Tryz.isAgg5
  z5 := Tryz.sizeOf5
  v5 := Tryz.zeroValue5
  t9 := Tryz.underlying9
  a9 := Tryz.isAgg9
  z9 := Tryz.sizeOf9
  v9 := Tryz.zeroValue9
  t20 := Tryz.underlying20
  a20 := Tryz.isAgg20
  z20 := Tryz.sizeOf20
  v20 := Tryz.zeroValue20
  t37 := Tryz.underlying32
  a37 := Tryz.isAgg32
  z37 := Tryz.sizeOf32
  v37 := Tryz.zeroValue32
  t46 := Tryz.underlying154
  a46 := Tryz.isAgg154
  z46 := Tryz.sizeOf154
  v46 := Tryz.zeroValue154
  t51 := Tryz.underlying172
  a51 := Tryz.isAgg172
  z51 := Tryz.sizeOf172
  v51 := Tryz.zeroValue172
  t53 := Tryz.underlying147
  a53 := Tryz.isAgg147
  z53 := Tryz.sizeOf147
  v53 := Tryz.zeroValue147
  t70 := Tryz.underlying158
  a70 := Tryz.isAgg158
  z70 := Tryz.sizeOf158
  v70 := Tryz.zeroValue158
  t72 := Tryz.underlying160
  a72 := Tryz.isAgg160
  z72 := Tryz.sizeOf160
  v72 := Tryz.zeroValue160
  t75 := Tryz.underlying34
  a75 := Tryz.isAgg34
  z75 := Tryz.sizeOf34
  v75 := Tryz.zeroValue34
  t76 := Tryz.underlying162
  a76 := Tryz.isAgg162
  z76 := Tryz.sizeOf162
  v76 := Tryz.zeroValue162
  t109 := Tryz.underlying155
  a109 := Tryz.isAgg155
  z109 := Tryz.sizeOf155
  v109 := Tryz.zeroValue155
  t127 := Tryz.underlying177
  a127 := Tryz.isAgg177
  z127 := Tryz.sizeOf177
  v127 := Tryz.zeroValue177
  t146 := Tryz.underlying173
  a146 := Tryz.isAgg173
  z146 := Tryz.sizeOf173
  v146 := Tryz.zeroValue173
  t148 := Tryz.underlying175
  a148 := Tryz.isAgg175
  z148 := Tryz.sizeOf175
  v148 := Tryz.zeroValue175
  t164 := Tryz.underlying182
  a164 := Tryz.isAgg182
  z164 := Tryz.sizeOf182
  v164 := Tryz.zeroValue182 }
theorem Tryz.Builder_Extra_105 : Builder.Extra Tryz.prog Tryz.lays105_ren := {
  sizeBuilder := by kernel_rfl
  liesBuilder := by kernel_rfl
  t5 := Tryz.underlying5
  a5 := Tryz.isAgg5
  z5 := Tryz.sizeOf5
  v5 := Tryz.zeroValue5
  infoByte := by kernel_rfl
  cellsByte := by kernel_rfl
  sizeByte := by kernel_rfl
  neB5 := by decide }
open Go.RowKit Go.Lib in
theorem Tryz.strings_Repeat (s : ByteArray) (c : Nat) (w : World) (hc : c ≤ 9223372036854775807) (hlen : s.size * c ≤ 140737488355328) :
    Calls Tryz.prog 72 #[.string s, .int .i64 c] w fun e w' => e = .returned (.string ⟨(Lib.repeatL s.data.toList c).toArray⟩) ∧ Below w.heap.size w w' := Any.strings_Repeat Tryz.lays105 Tryz.Builder_Extra_105 s c w hc hlen
end Go.Proofs
/- The library's contracts that layer 3 leans on, laid at this program's numbers. -/
namespace Go.Proofs.YtjkneidoochfjaaGreatDoor
open Go Go.RowKit
/-! strings.IndexByte -/
section
open Go.Shelf
def ixb_ren : Go.Shelf.Ren := ⟨fun | 137 => 91 | 217 => 106 | 266 => 119 | n => n, fun | 9 => 9 | 5 => 5 | 3 => 3 | n => n, fun | n => n⟩
theorem ixb_lays : Go.Proofs.Lays.n137 Tryz.prog ixb_ren := {
  mixed := by kernel_rfl
  f137 := Tryz.func91.trans (congrArg some (by kernel_rfl))
  f217 := Tryz.func106.trans (congrArg some (by kernel_rfl))
  f266 := Tryz.func119.trans (congrArg some (by kernel_rfl))
  t3 := Tryz.underlying3
  a3 := Tryz.isAgg3
  z3 := Tryz.sizeOf3
  v3 := Tryz.zeroValue3
  t5 := Tryz.underlying5
  a5 := Tryz.isAgg5
  z5 := Tryz.sizeOf5
  v5 := Tryz.zeroValue5
  t9 := Tryz.underlying9
  a9 := Tryz.isAgg9
  z9 := Tryz.sizeOf9
  v9 := Tryz.zeroValue9 }
end
end Go.Proofs.YtjkneidoochfjaaGreatDoor
/- Layer 2's letters: which there are, how long their numbers are, the greatest of them; a number as bytes. -/
namespace Go.Proofs.YtjkneidoochfjaaGreatDoor
open Go Go.RowKit
namespace Oc
def size (c : Nat) : Int := if c = 98 then 1 else if c = 119 then 4 else if c = 113 then 8 else if c = 111 then 0 else if c = 116 then 0 else -1
def nsize (c : Nat) : Int := if c = 98 then 1 else if c = 119 then 4 else if c = 113 then 8 else 0
def most (c : Nat) : Int := if c = 98 then 255 else if c = 119 then 4294967295 else if c = 113 then 4611686018427387903 else 0
def mostOf (n : Int) : Int := if n = 8 then 4611686018427387903 else if n = 4 then 4294967295 else 255
def isL (c : UInt8) : Bool := decide (0 ≤ size c.toNat)
def known (l : List UInt8) : Bool := l.all isL
theorem known_take {s : ByteArray} {k : Nat} (h : k < s.size) (h1 : known (s.data.toList.take k) = true) (h2 : isL s[k] = true) : known (s.data.toList.take (k + 1)) = true := by
  rw [List.take_succ_eq_append_getElem (by simpa using h)]
  unfold known at h1 ⊢
  rw [List.all_append, h1, Bool.true_and, List.all_cons, List.all_nil, Bool.and_true]
  exact h2
theorem known_not {s : ByteArray} {k : Nat} (h : k < s.size) (h2 : isL s[k] = false) : known s.data.toList = false := by
  unfold known
  rw [List.all_eq_false]
  exact ⟨s[k], by simp [ByteArray.getElem_eq_getElem_data], by simp [h2]⟩
/-- n's bytes, the greatest first. -/
def num : Nat → Nat → List Nat
  | 0, _ => []
  | s + 1, n => num s (n / 256) ++ [n % 256]
end Oc
abbrev letS : ByteArray := ⟨#[98, 119, 113, 111, 116]⟩
theorem let_val : ∀ c : Fin 256, decide (Lib.indexByte letS.data.toList (((c.val : Nat) : Int).toNat.toUInt8) < 0) = decide (Oc.size c.val < 0) := by decide +kernel
theorem ret_i {a b : Int} (h : a = b) : Ending.returned (.int .i64 a) = .returned (.int .i64 b) := by rw [h]
theorem ret_b {a b : Bool} (h : a = b) : Ending.returned (.bool a) = .returned (.bool b) := by rw [h]
theorem ret_ii {a b x y : Int} (h : a = b ∧ x = y) : Ending.returned (.tuple #[.int .i64 a, .int .i64 x]) = .returned (.tuple #[.int .i64 b, .int .i64 y]) := by rw [h.1, h.2]
theorem rsize_any (c : Nat) (w : World) :
    Calls Tryz.prog 63 #[.int .u8 ((c : Nat) : Int)] w fun e w' => e = .returned (.int .i64 (Oc.size c)) ∧ w = w' := by
  have HF := Lib.hid (show Oc.size c = if c = 98 then 1 else if c = 119 then 4 else if c = 113 then 8 else if c = 111 then 0 else if c = 116 then 0 else -1 from rfl)
  rcases Nat.decEq c 98 with h1 | h1
  · rcases Nat.decEq c 119 with h2 | h2
    · rcases Nat.decEq c 113 with h3 | h3
      · rcases Nat.decEq c 111 with h4 | h4
        · rcases Nat.decEq c 116 with h5 | h5
          · have b4 : ((c : Int) == 111) = false := by simp; omega
            have b5 : ((c : Int) == 116) = false := by simp; omega
            have HV := Lib.hid (show Oc.size c = -1 by rw [HF.out, if_neg h1, if_neg h2, if_neg h3, if_neg h4, if_neg h5])
            go_enter Tryz.func63, Tryz.ntmps63
            go_wp2
            go_ret
            exact ⟨ret_i HV.out.symm, rfl⟩
          · subst h5
            go_enter Tryz.func63, Tryz.ntmps63
            go_wp2
            go_ret
            exact ⟨rfl, rfl⟩
        · subst h4
          go_enter Tryz.func63, Tryz.ntmps63
          go_wp2
          go_ret
          exact ⟨rfl, rfl⟩
      · subst h3
        go_enter Tryz.func63, Tryz.ntmps63
        go_wp2
        go_ret
        exact ⟨rfl, rfl⟩
    · subst h2
      go_enter Tryz.func63, Tryz.ntmps63
      go_wp2
      go_ret
      exact ⟨rfl, rfl⟩
  · subst h1
    go_enter Tryz.func63, Tryz.ntmps63
    go_wp2
    go_ret
    exact ⟨rfl, rfl⟩
theorem number_any (c : Nat) (w : World) :
    Calls Tryz.prog 85 #[.int .u8 ((c : Nat) : Int)] w fun e w' => e = .returned (.tuple #[.int .i64 (Oc.nsize c), .int .i64 (Oc.most c)]) ∧ w = w' := by
  rcases Nat.decEq c 98 with h1 | h1
  · rcases Nat.decEq c 119 with h2 | h2
    · rcases Nat.decEq c 113 with h3 | h3
      · have HV := Lib.hid (show Oc.nsize c = 0 ∧ Oc.most c = 0 from ⟨by unfold Oc.nsize; rw [if_neg h1, if_neg h2, if_neg h3], by unfold Oc.most; rw [if_neg h1, if_neg h2, if_neg h3]⟩)
        go_enter Tryz.func85, Tryz.ntmps85
        go_wp2
        go_ret2
        exact ⟨ret_ii ⟨HV.out.1.symm, HV.out.2.symm⟩, rfl⟩
      · subst h3
        go_enter Tryz.func85, Tryz.ntmps85
        go_wp2
        go_ret2
        exact ⟨rfl, rfl⟩
    · subst h2
      go_enter Tryz.func85, Tryz.ntmps85
      go_wp2
      go_ret2
      exact ⟨rfl, rfl⟩
  · subst h1
    go_enter Tryz.func85, Tryz.ntmps85
    go_wp2
    go_ret2
    exact ⟨rfl, rfl⟩
theorem most_any (n : Int) (w : World) :
    Calls Tryz.prog 64 #[.int .i64 n] w fun e w' => e = .returned (.int .i64 (Oc.mostOf n)) ∧ w = w' := by
  by_cases h1 : n = 8
  · subst h1
    go_enter Tryz.func64, Tryz.ntmps64
    go_wp2
    go_ret
    exact ⟨rfl, rfl⟩
  · by_cases h2 : n = 4
    · subst h2
      go_enter Tryz.func64, Tryz.ntmps64
      go_wp2
      go_ret
      exact ⟨rfl, rfl⟩
    · have HV := Lib.hid (show Oc.mostOf n = 255 by unfold Oc.mostOf; rw [if_neg h1, if_neg h2])
      go_enter Tryz.func64, Tryz.ntmps64
      go_wp2
      go_ret
      exact ⟨ret_i HV.out.symm, rfl⟩
theorem known_any (s : ByteArray) (w : World) (hs : s.size ≤ 1099511627776) :
    Calls Tryz.prog 69 #[.string s] w fun e w' => e = .returned (.bool (Oc.known s.data.toList)) ∧ w = w' := by
  go_enter Tryz.func69, Tryz.ntmps69
  go_wp2
  go_loopw [6] (fun i wr => ∃ k : Nat, k ≤ s.size ∧ i = .int .i64 k ∧ Hid (Oc.known (s.data.toList.take k) = true) ∧ wr = w) (fun i _ => s.size - (intOf i).toNat)
  case atStart => exact ⟨0, Nat.zero_le _, rfl, Lib.hid rfl, rfl⟩
  case round =>
    obtain ⟨k, hk, rfl, HK, rfl⟩ := hrel
    by_cases hlt : k < s.size
    · have hv : decide (Lib.indexByte letS.data.toList (((s[k].toNat : Nat) : Int).toNat.toUInt8) < 0) = decide (Oc.size s[k].toNat < 0) := let_val ⟨s[k].toNat, s[k].toNat_lt⟩
      have C1 : ∀ w, Calls Tryz.prog 91 #[.string letS, .int .u8 ((s[k].toNat : Nat) : Int)] w _ := fun w => Any.strings_IndexByte ixb_lays letS (s[k].toNat : Int) w
      generalize Lib.indexByte letS.data.toList (((s[k].toNat : Nat) : Int).toNat.toUInt8) = x at hv C1
      by_cases hx : x < 0
      · have H := Lib.hid (Oc.known_not hlt (by unfold Oc.isL; rw [decide_eq_true hx] at hv; have := of_decide_eq_true hv.symm; exact decide_eq_false (by omega)))
        clear hv
        go_wp2_with (go_at_call 91; refine (C1 _).mono ?_; rintro e w' ⟨rfl, rfl⟩)
        go_ret
        exact ⟨ret_b H.out.symm, rfl⟩
      · have H := Lib.hid (Oc.known_take hlt HK.out (by unfold Oc.isL; rw [decide_eq_false hx] at hv; have := of_decide_eq_false hv.symm; exact decide_eq_true (by omega)))
        clear hv
        go_wp2_with (go_at_call 91; refine (C1 _).mono ?_; rintro e w' ⟨rfl, rfl⟩)
        go_roundw
        case rel => exact ⟨k + 1, by omega, by go_num, H, (by first | rfl | trivial)⟩
        case measure => simp [intOf]; omega
    · have e : s.data.toList.take k = s.data.toList := List.take_of_length_le (by simp; omega)
      have H := Lib.hid (e ▸ HK.out)
      go_wp2
      go_ret
      exact ⟨ret_b H.out.symm, rfl⟩
end Go.Proofs.YtjkneidoochfjaaGreatDoor
