/- Arguments of laws, opened: entries. -/
import Derived.Test.YtgcgomdhdgjpdaaGreatDoorMLawOpen3s
import Derived.Test.YtgcgomdhdgjpdaaGreatDoorMOb3s
import Derived.Test.YtgcgomdhdgjpdaaGreatDoorMBases
import Derived.Maps.OwnSet
import Derived.StringKeys
import Derived.DeepKeys4
import Derived.Maps.RangeWalk
namespace Go.Proofs.YtgcgomdhdgjpdaaGreatDoor
open Go Go.RowKit Go.WideShapes Go.ChangeShapes
theorem eupd_under : Tryz.prog.underlying 89 = some (.struct (Tryz.prog.fieldsOf 89)) := by kernel_rfl
theorem eupd_fields : (Tryz.prog.fieldsOf 89).toList.map (fun f => (f.type, f.offset)) = [(9, 0), (41, 1), (41, 33)] := by kernel_rfl
theorem eent_under : Tryz.prog.underlying 32 = some (.struct (Tryz.prog.fieldsOf 32)) := by kernel_rfl
theorem eent_fields : (Tryz.prog.fieldsOf 32).toList.map (fun f => (f.type, f.offset)) = [(3, 0), (3, 1), (3, 2), (29, 3), (30, 4)] := by kernel_rfl
theorem cells65 (L : List Value) (hcl : L.length = 65) (a : Value) (X Y : List Value) (h0 : L[0] = a) (h1 : (L.drop 1).take 32 = X) (h2 : (L.drop 33).take 32 = Y) : L = a :: (X ++ Y) := by
 match L, hcl with
 | c0 :: L', hcl =>
  have hL' : L'.length = 64 := by simp at hcl; omega
  have e0 : c0 = a := h0
  have e1 : L'.take 32 = X := by simpa using h1
  have e2 : L'.drop 32 = Y := by
   have h3 : (L'.drop 32).take 32 = Y := by simpa using h2
   rwa [List.take_of_length_le (by rw [List.length_drop]; omega)] at h3
  rw [e0, ← e1, ← e2, List.take_append_drop]
theorem open_up1 {H : Type} {enc : TypeId × Value → H} {W : World} {held : Bool} {fuel : Nat} {cs : List Value} {y : DataW H × List MemPlace}
  (hf : DataW.trod enc Tryz.prog W 0 (fun _ => true) held fuel 89 cs = some y) : ∃ u : En.Up, u.Fit ∧ cs = cellsU1 u := by
 obtain ⟨xs, n, _, _, hl, hlen, hx⟩ := DataW.trod_struct eupd_under hf
 have hc65 : Tryz.prog.cellsOf 89 = 65 := by kernel_rfl
 rw [hc65] at hl
 have hF := eupd_fields
 have hsz : (Tryz.prog.fieldsOf 89).toList.length = 3 := by have := congrArg List.length hF; simpa using this
 have fld : ∀ i (h : i < 3) t o, [(9, 0), (41, 1), (41, 33)][i]? = some (t, o) → ∃ y, DataW.trod enc Tryz.prog W 0 (fun _ => true) held n t ((cs.drop o).take (Tryz.prog.cellsOf t)) = some y := fun i h t o hq => by
  rw [← hF, List.getElem?_map] at hq
  simp only [Option.map_eq_some_iff] at hq
  obtain ⟨f, hfi, hft⟩ := hq
  have hfi' : (Tryz.prog.fieldsOf 89)[i]? = some f := by simpa using hfi
  have h2 := hx i f hfi'
  injection hft with e1 e2
  rw [e1, e2] at h2
  have h3 : i < xs.length := by rw [hlen, ← Array.length_toList, hsz]; exact h
  exact ⟨xs[i], by rw [h2, List.getElem?_eq_getElem h3]⟩
 obtain ⟨y0, k0⟩ := fld 0 (by omega) _ _ rfl
 obtain ⟨y1, k1⟩ := fld 1 (by omega) _ _ rfl
 obtain ⟨y2, k2⟩ := fld 2 (by omega) _ _ rfl
 rw [show Tryz.prog.cellsOf 9 = 1 by kernel_rfl, one_of (by omega)] at k0
 rw [show Tryz.prog.cellsOf 41 = 32 by kernel_rfl] at k1 k2
 obtain ⟨s, hs, _, _⟩ := DataW.trod_string Tryz.underlying9 k0
 obtain ⟨xo, ho, lo, bo⟩ := trod_id Tryz.underlying41 Tryz.underlying5 (by kernel_rfl) (by kernel_rfl) k1
 obtain ⟨xn, hn, ln, bn⟩ := trod_id Tryz.underlying41 Tryz.underlying5 (by kernel_rfl) (by kernel_rfl) k2
 refine ⟨⟨s, xo, xn⟩, ⟨⟨lo, bo⟩, ⟨ln, bn⟩⟩, ?_⟩
 exact cells65 cs hl _ _ _ (by simpa using hs) ho hn
theorem open_ups {H : Type} {enc : TypeId × Value → H} {W : World} {held : Bool} {fuel : Nat} {v : Value} {y : DataW H × List MemPlace}
  (hf : DataW.trod enc Tryz.prog W 0 (fun _ => true) held fuel 29 [v] = some y) : ∃ (l : List En.Up) (A : Option Addr) (c : Nat), v = .slice A l.length c ∧ RdK W v l.length (cellsU l) ∧ ∀ x ∈ l, x.Fit := by
 rcases DataW.trod_slice Tryz.underlying29 hf with ⟨hc, _⟩ | ⟨a, len, cap, elems, rest, m, _, hc, _, hba, hlc, hcm, hlen, hel, _⟩
 ·obtain rfl : v = .slice none 0 0 := by simpa using hc
  exact ⟨[], none, 0, rfl, RdK.nil _ _, fun x h => by cases h⟩
 ·obtain rfl : v = .slice (some a) len cap := by simpa using hc
  rw [show Tryz.prog.cellsOf 89 = 65 by kernel_rfl] at hel
  obtain ⟨xs, hl, hg, hr⟩ := rdk_of (W := W) cellsU1 65 En.Up.Fit (fun x h => cellsU1_len h) (by omega) a len cap hlc (fun i hi => by
   have h := hel i hi
   rw [List.getElem?_eq_getElem (by omega)] at h
   simp only [Option.bind_eq_some_iff] at h
   obtain ⟨cs, hcs, hy⟩ := h
   obtain ⟨u, hu, rfl⟩ := open_up1 hy
   exact ⟨u, hu, fun j x hx => cells_at hcs j x hx (by have := (List.getElem?_eq_some_iff.1 hx).1; rwa [cellsU1_len hu] at this)⟩)
  exact ⟨xs, some a, cap, by rw [hl], by rw [hl]; exact hr, hg⟩
theorem bts_of {W : World} {v : Value} {vs : List Value} {ps : List (List Nat)} (h : RdL W v vs) (hl : ps.length = vs.length) (hr : ∀ i u, vs[i]? = some u → Rd W u (ps.getD i [])) (hb : ∀ x ∈ ps, Sha.Byte x) : ∃ A c ts, v = .slice A ps.length c ∧ BtT W A ps.length ts ∧ ts.map (·.text) = ps ∧ ps.length ≤ c := by
 obtain ⟨A, c, hv, hcp, hA⟩ := h
 obtain ⟨ts, hts⟩ : ∃ ts, ts = List.zipWith (fun u x => (⟨x, u⟩ : En.Bt)) vs ps := ⟨_, rfl⟩
 have hlt : ts.length = ps.length := by rw [hts, List.length_zipWith]; omega
 have hg : ∀ i (t : En.Bt), ts[i]? = some t → vs[i]? = some t.val ∧ ps[i]? = some t.text := fun i t ht => by
  rw [hts, List.getElem?_zipWith] at ht
  cases hu : vs[i]? with
  | none => rw [hu] at ht; simp at ht
  | some u =>
   cases hx : ps[i]? with
   | none => rw [hu, hx] at ht; simp at ht
   | some x =>
    rw [hu, hx] at ht
    obtain rfl : (⟨x, u⟩ : En.Bt) = t := by simpa using ht
    exact ⟨rfl, rfl⟩
 refine ⟨A, c, ts, by rw [hv, hl], ⟨hlt.symm, fun h0 => ?_, fun t ht => ?_⟩, ?_, by omega⟩
 ·obtain ⟨b, o, ha, hbl, hx⟩ := hA (by omega)
  exact ⟨b, o, ha, hbl, fun i t ht => hx i _ (hg i t ht).1⟩
 ·obtain ⟨i, hi⟩ := List.mem_iff_getElem?.1 ht
  obtain ⟨h1, h2⟩ := hg i t hi
  have h3 := hr i _ h1
  rw [List.getD_eq_getElem?_getD, h2] at h3
  exact ⟨h3, hb _ (List.mem_of_getElem? h2)⟩
 ·apply List.ext_getElem?
  intro i
  rw [List.getElem?_map]
  cases ht : ts[i]? with
  | some t => rw [(hg i t ht).2]; rfl
  | none =>
   have h1 := List.getElem?_eq_none_iff.1 ht
   rw [List.getElem?_eq_none (by omega)]; rfl
theorem cells5 (L : List Value) (hcl : L.length = 5) (a b c d e : Value) (h0 : L[0] = a) (h1 : L[1] = b) (h2 : L[2] = c) (h3 : L[3] = d) (h4 : L[4] = e) : L = [a, b, c, d, e] := by
 match L, hcl with
 | [c0, c1, c2, c3, c4], _ =>
  have e0 : c0 = a := h0
  have e1 : c1 = b := h1
  have e2 : c2 = c := h2
  have e3 : c3 = d := h3
  have e4 : c4 = e := h4
  rw [e0, e1, e2, e3, e4]
theorem open_entT {H : Type} {enc : TypeId × Value → H} {W : World} {held : Bool} {fuel : Nat} {cs : List Value} {y : DataW H × List MemPlace}
  (hf : DataW.trod enc Tryz.prog W 0 (fun _ => true) held fuel 32 cs = some y) :
  ∃ (e : En.E) (U : Option Addr) (cu : Nat) (O : Option Addr) (co : Nat) (ts : List En.Bt), cs.length = 5 ∧ EnC W e cs.toArray U cu O co ts ∧ e.objs.length ≤ co := by
 obtain ⟨xs, n, _, _, hl, hlen, hx⟩ := DataW.trod_struct eent_under hf
 have hc5 : Tryz.prog.cellsOf 32 = 5 := by kernel_rfl
 rw [hc5] at hl
 have hF := eent_fields
 have hsz : (Tryz.prog.fieldsOf 32).toList.length = 5 := by have := congrArg List.length hF; simpa using this
 have fld : ∀ i (h : i < 5) t o, [(3, 0), (3, 1), (3, 2), (29, 3), (30, 4)][i]? = some (t, o) → ∃ y, DataW.trod enc Tryz.prog W 0 (fun _ => true) held n t ((cs.drop o).take (Tryz.prog.cellsOf t)) = some y := fun i h t o hq => by
  rw [← hF, List.getElem?_map] at hq
  simp only [Option.map_eq_some_iff] at hq
  obtain ⟨f, hfi, hft⟩ := hq
  have hfi' : (Tryz.prog.fieldsOf 32)[i]? = some f := by simpa using hfi
  have h2 := hx i f hfi'
  injection hft with e1 e2
  rw [e1, e2] at h2
  have h3 : i < xs.length := by rw [hlen, ← Array.length_toList, hsz]; exact h
  exact ⟨xs[i], by rw [h2, List.getElem?_eq_getElem h3]⟩
 obtain ⟨y0, k0⟩ := fld 0 (by omega) _ _ rfl
 obtain ⟨y1, k1⟩ := fld 1 (by omega) _ _ rfl
 obtain ⟨y2, k2⟩ := fld 2 (by omega) _ _ rfl
 obtain ⟨y3, k3⟩ := fld 3 (by omega) _ _ rfl
 obtain ⟨y4, k4⟩ := fld 4 (by omega) _ _ rfl
 rw [show Tryz.prog.cellsOf 3 = 1 by kernel_rfl, one_of (by omega)] at k0 k1 k2
 rw [show Tryz.prog.cellsOf 29 = 1 by kernel_rfl, one_of (by omega)] at k3
 rw [show Tryz.prog.cellsOf 30 = 1 by kernel_rfl, one_of (by omega)] at k4
 obtain ⟨x, q0, _, _⟩ := DataW.trod_int Tryz.underlying3 k0
 obtain ⟨yy, q1, _, _⟩ := DataW.trod_int Tryz.underlying3 k1
 obtain ⟨z, q2, _, _⟩ := DataW.trod_int Tryz.underlying3 k2
 obtain ⟨us, UA, uc, vU, rU, gU⟩ := open_ups k3
 obtain ⟨vs, pss, hRL, hpl, hr, hb, _, _⟩ := open_partsT Tryz.underlying30 Tryz.underlying46 Tryz.underlying5 (by kernel_rfl) (by kernel_rfl) k4
 obtain ⟨OA, oc, ts, vO, hT, htx, hoc⟩ := bts_of hRL hpl hr hb
 refine ⟨⟨x, yy, z, us, pss⟩, UA, uc, OA, oc, ts, hl, ⟨?_, by rw [← vU]; exact rU, gU, hT, htx⟩, hoc⟩
 have h0 : cs[0] = .int .i64 x := by simpa using q0
 have h1 : cs[1] = .int .i64 yy := by simpa using q1
 have h2 : cs[2] = .int .i64 z := by simpa using q2
 rw [cells5 cs hl _ _ _ _ _ h0 h1 h2 vU vO]
end Go.Proofs.YtgcgomdhdgjpdaaGreatDoor
/- Maps from texts to any values, as functions: as maps from whole numbers (MapF). -/
namespace Go.Proofs.YtgcgomdhdgjpdaaGreatDoor
open Go Go.RowKit Go.Maps
def selfS (v : Value) : Option (DataW Value × List MemPlace) := some (.held v, [])
theorem selfS_mk (v : Value) : selfS v = some (.held v, []) := by unfold selfS; rfl
theorem str_law : Keyed Tryz.prog 9 := string_keyed Tryz.underlying9
theorem skey_of {i : ByteArray} (h : i.size ≤ maxLen) : keyOf Tryz.prog 9 (.string i) = some (.string i.data.toList) := Go.WideMaps.keyOf_string_mk Tryz.underlying9 h
theorem skey_lit {i : ByteArray} (h : i.size ≤ maxLen) : WideAt.IsKeyLit (.string i.data.toList) := str_law.key (skey_of h)
theorem skey_ne {i j : ByteArray} (h : j ≠ i) : Lit.string j.data.toList ≠ Lit.string i.data.toList := fun e => h (by
 injection e with e
 exact ByteArray.ext (Array.toList_inj.1 e))
def MapS (w : World) (b n : Nat) (f : ByteArray → Option Value) : Prop :=
 ∃ D : DataW Value, w.ownsMap Tryz.prog 9 selfS b n D ∧ ∀ i : ByteArray, i.size ≤ maxLen → has D (.string i.data.toList) = (f i).isSome ∧ ∀ z, D.atKey (.string i.data.toList) (.held z) = .held ((f i).getD z)
def updS (f : ByteArray → Option Value) (i : ByteArray) (v : Option Value) : ByteArray → Option Value := fun j => if j = i then v else f j
section
variable {w w' : World} {b n : Nat} {f : ByteArray → Option Value} {t e : TypeId} {z : Value} {i : ByteArray}
theorem MapS.made (w : World) : MapS (w.alloc (.map #[] 0)) w.heap.size 0 (fun _ => none) := ⟨_, World.ownsMap_made w _ _ _, fun _i _ => ⟨rfl, fun _ => rfl⟩⟩
theorem MapS.lt (h : MapS w b n f) : b < w.heap.size := by obtain ⟨D, h, _⟩ := h; exact h.lt
theorem MapS.mono (h : MapS w b n f) {n' : Nat} (hn : n ≤ n') : MapS w b n' f := by obtain ⟨D, h, k⟩ := h; exact ⟨D, h.mono hn, k⟩
theorem MapS.kept {row : Option Nat} (h : MapS w b n f) (hg : w.grownBy w' row) (hne : some b ≠ row) : MapS w' b n f := by obtain ⟨D, h, k⟩ := h; exact ⟨D, h.kept hg hne, k⟩
theorem MapS.below (h : MapS w b n f) (hb : Below w.heap.size w w') : MapS w' b n f := h.kept (only_of_below hb none) (by simp)
theorem MapS.block (h : MapS w b n f) (e : w'.heap[b]? = w.heap[b]?) : MapS w' b n f := by
 obtain ⟨D, ⟨es, clock, h1, h2, h3, h4⟩, k⟩ := h
 exact ⟨D, ⟨es, clock, e.trans h1, h2, h3, h4⟩, k⟩
theorem MapS.look (h : MapS w b n f) (ht : Tryz.prog.underlying t = some (.map 9 e)) (hz : (zeroValue e).run Tryz.prog w = .ok z w) (hi : i.size ≤ maxLen) :
  (Instr.lookup t (.map (some b)) (.string i) false).run Tryz.prog w = .ok ((f i).getD z) w := by
 obtain ⟨D, h, k⟩ := h
 obtain ⟨v, ps, hrun, hv⟩ := h.lookup str_law ht hz (zd := .held z) (zp := []) (selfS_mk z) (skey_of hi)
 have e0 : DataW.held v = D.atKey (.string i.data.toList) (.held z) := congrArg Prod.fst (Option.some.inj hv)
 rw [(k i hi).2 z] at e0
 have e1 := DataW.held.inj e0
 rw [hrun, e1]
theorem MapS.look_ok (h : MapS w b n f) (ht : Tryz.prog.underlying t = some (.map 9 e)) (hz : (zeroValue e).run Tryz.prog w = .ok z w) (hi : i.size ≤ maxLen) :
  (Instr.lookup t (.map (some b)) (.string i) true).run Tryz.prog w = .ok (.tuple #[(f i).getD z, .bool (f i).isSome]) w := by
 obtain ⟨D, h, k⟩ := h
 obtain ⟨v, ps, hrun, hv⟩ := h.look_ok str_law ht hz (zd := .held z) (zp := []) (selfS_mk z) (skey_of hi)
 have e0 : DataW.held v = D.atKey (.string i.data.toList) (.held z) := congrArg Prod.fst (Option.some.inj hv)
 rw [(k i hi).2 z] at e0
 have e1 := DataW.held.inj e0
 rw [hrun, e1, (k i hi).1]
theorem MapS.store (h : MapS w b n f) (ht : Tryz.prog.underlying t = some (.map 9 e)) (hn : n < maxLen) (hi : i.size ≤ maxLen) (v : Value) :
  ∃ w', (Instr.mapUpdate t (.map (some b)) (.string i) v).run Tryz.prog w = .ok () w' ∧ MapS w' b (n + 1) (updS f i (some v)) ∧ w.grownBy w' (some b) := by
 obtain ⟨D, h, k⟩ := h
 obtain ⟨w', hrun, h2, hg⟩ := h.update str_law ht hn (skey_of hi) (val := v) (d := .held v) (ps := []) (selfS_mk v)
 refine ⟨w', hrun, ⟨_, h2, fun j hj => ?_⟩, hg⟩
 unfold updS
 by_cases hji : j = i
 ·subst hji
  rw [if_pos rfl]
  exact ⟨has_put_same h.isMap (skey_lit hi) _, fun z => atKey_put_same h.isMap (skey_lit hi) _ _⟩
 ·rw [if_neg hji]
  exact ⟨by rw [has_put_other (skey_ne hji)]; exact (k j hj).1, fun z => by rw [atKey_put_other (skey_ne hji)]; exact (k j hj).2 z⟩
theorem MapS.drop (h : MapS w b n f) (ht : Tryz.prog.underlying t = some (.map 9 e)) (hi : i.size ≤ maxLen) (ty : TypeId) :
  ∃ w', (Builtin.delete_ #[t, 9] ty #[.map (some b), .string i]).run Tryz.prog w = .ok (.tuple #[]) w' ∧ MapS w' b n (updS f i none) ∧ w.grownBy w' (some b) := by
 obtain ⟨D, h, k⟩ := h
 obtain ⟨w', hrun, h2, hg⟩ := h.drop str_law ht (skey_of hi) ty
 refine ⟨w', hrun, ⟨_, h2, fun j hj => ?_⟩, hg.grown⟩
 unfold updS
 by_cases hji : j = i
 ·subst hji
  rw [if_pos rfl]
  exact ⟨has_del_same, fun z => atKey_del_same _⟩
 ·rw [if_neg hji]
  exact ⟨by rw [has_del_other (skey_ne hji)]; exact (k j hj).1, fun z => by rw [atKey_del_other (skey_ne hji)]; exact (k j hj).2 z⟩
end
end Go.Proofs.YtgcgomdhdgjpdaaGreatDoor
/- Maps from ids to any values, as functions: as maps from whole numbers (MapF). -/
namespace Go.Proofs.YtgcgomdhdgjpdaaGreatDoor
open Go Go.RowKit Go.Maps
def selfO (v : Value) : Option (DataW Value × List MemPlace) := some (.held v, [])
theorem selfO_mk (v : Value) : selfO v = some (.held v, []) := by unfold selfO; rfl
theorem oid_law : Keyed Tryz.prog 41 :=
 Keyed.of_law (deep_law_laid (by kernel_rfl) (m := 2) (by omega) (by rw [show Tryz.prog.types.size = 308 from by kernel_rfl]; decide) (by kernel_rfl) (by rw [Tryz.underlying41]))
def oidKey (xs : List Nat) : Lit := .string (keyBytes (xs.map fun (n : Nat) => Lit.int .u8 (n : Int)))
theorem mapM_all {α β : Type} {f : α → Option β} {g : α → β} : ∀ (l : List α), (∀ a ∈ l, f a = some (g a)) → l.mapM f = some (l.map g)
 | [], _ => rfl
 | a :: l, h => by
  rw [List.mapM_cons, h a (by simp), mapM_all l (fun b hb => h b (by simp [hb]))]
  rfl
theorem flatten_ones {α β : Type} (g : α → β) : ∀ (l : List α), (l.map fun a => [g a]).flatten = l.map g
 | [] => rfl
 | a :: l => by rw [List.map_cons, List.flatten_cons, flatten_ones g l]; rfl
theorem u8_wf {x : Nat} (h : x < 256) : (Lit.int .u8 (x : Int)).wf = true := by
 show (decide ((0 : Int) ≤ (x : Int)) && decide ((x : Int) ≤ 255)) = true
 rw [decide_eq_true (by omega), decide_eq_true (by omega)]
 rfl
theorem key_lits {cs : List Value} {m c : Nat} (hl : cs.length = c) (hc : Tryz.prog.cellsOf 41 = c) :
  Tryz.prog.keyLits (m + 1) 41 cs = ((List.range 32).mapM fun i => Tryz.prog.keyLits m 5 ((cs.drop (i * Tryz.prog.cellsOf 5)).take (Tryz.prog.cellsOf 5))).map List.flatten := by
 simp only [Program.keyLits, Tryz.underlying41]
 rw [if_pos (by rw [hl, hc])]
theorem oid_key {xs : List Nat} (h : Id32 xs) : keyOf Tryz.prog 41 (.agg (u8s xs)) = some (oidKey xs) := by
 obtain ⟨hl, hb⟩ := h
 have hc : Tryz.prog.cellsOf 41 = 32 := by kernel_rfl
 have hc1 : Tryz.prog.cellsOf 5 = 1 := by kernel_rfl
 have hk : Tryz.prog.keyType 41 = true := by kernel_rfl
 have hf : (Value.agg (u8s xs)).formed Tryz.prog 41 = true := by
  unfold Value.formed
  rw [Tryz.underlying41]
  simp only
  rw [u8s_size, hl, hc]
  rfl
 obtain ⟨m, hm⟩ : ∃ m, Tryz.prog.types.size = m + 1 := ⟨308 - 1, by kernel_rfl⟩
 have hlen : (Value.agg (u8s xs)).cells.toList.length = 32 := by
  show (u8s xs).toList.length = 32
  simp [u8s, hl]
 have hget : ∀ i, i < 32 → ((Value.agg (u8s xs)).cells.toList.drop (i * 1)).take 1 = [Value.int .u8 ((xs.getD i 0 : Nat) : Int)] := fun i hi => by
  show ((u8s xs).toList.drop (i * 1)).take 1 = _
  rw [Nat.mul_one]
  have e : (u8s xs).toList = xs.map fun (n : Nat) => Value.int .u8 (n : Int) := by simp [u8s]
  have e1 : (xs.drop i).take 1 = [xs.getD i 0] := by
   rw [List.drop_eq_getElem_cons (by omega), List.take_succ_cons, List.take_zero]
   simp [List.getD, hl, hi]
  rw [e, ← List.map_drop, ← List.map_take, e1]
  rfl
 have hone : ∀ i ∈ List.range 32, Tryz.prog.keyLits Tryz.prog.types.size 5 (((Value.agg (u8s xs)).cells.toList.drop (i * 1)).take 1) = some [Lit.int .u8 ((xs.getD i 0 : Nat) : Int)] := fun i hi => by
  have h := hb i
  rw [hget i (List.mem_range.1 hi), hm]
  generalize xs.getD i 0 = y at h ⊢
  have hw : (Lit.int .u8 (y : Int)).wf = true := u8_wf h
  simp [Program.keyLits, Tryz.underlying5, hw]
 unfold keyOf
 rw [Tryz.underlying41]
 simp only
 rw [hk, hf]
 simp only [Bool.and_self, if_true]
 rw [key_lits hlen hc, hc1, mapM_all (g := fun i => [Lit.int .u8 ((xs.getD i 0 : Nat) : Int)]) _ hone]
 simp only [Option.map_some]
 rw [flatten_ones]
 unfold oidKey
 have e : (List.range 32).map (fun i => Lit.int .u8 ((xs.getD i 0 : Nat) : Int)) = xs.map fun (n : Nat) => Lit.int .u8 (n : Int) := by
  apply List.ext_getElem
  ·simp [hl]
  ·intro i h1 h2
   simp at h1
   simp [List.getD, hl, h1]
 rw [e]
theorem oidKey_lit {xs : List Nat} (h : Id32 xs) : WideAt.IsKeyLit (oidKey xs) := oid_law.key (oid_key h)
theorem oidKey_ne {xs ys : List Nat} (hx : Id32 xs) (hy : Id32 ys) (h : ys ≠ xs) : oidKey ys ≠ oidKey xs := fun e => by
 have h1 := oid_key hx
 have h2 := oid_key hy
 rw [e] at h2
 have h3 := oid_law.inj h2 h1
 injection h3 with h3
 refine h ?_
 have e2 := congrArg Array.toList h3
 simp only [u8s] at e2
 apply List.ext_getElem
 ·have := congrArg List.length e2; simpa using this
 ·intro i i1 i2
  have := congrArg (fun l => l[i]?) e2
  simp [i1, i2] at this
  omega
def MapO (w : World) (b n : Nat) (f : List Nat → Option Value) : Prop :=
 ∃ D : DataW Value, w.ownsMap Tryz.prog 41 selfO b n D ∧ ∀ xs, Id32 xs → has D (oidKey xs) = (f xs).isSome ∧ ∀ z, D.atKey (oidKey xs) (.held z) = .held ((f xs).getD z)
def updO (f : List Nat → Option Value) (x : List Nat) (v : Value) : List Nat → Option Value := fun y => if y = x then some v else f y
section
variable {w w' : World} {b n : Nat} {f : List Nat → Option Value} {t e : TypeId} {z : Value} {x : List Nat}
theorem MapO.made (w : World) : MapO (w.alloc (.map #[] 0)) w.heap.size 0 (fun _ => none) := ⟨_, World.ownsMap_made w _ _ _, fun _i _ => ⟨rfl, fun _ => rfl⟩⟩
theorem MapO.lt (h : MapO w b n f) : b < w.heap.size := by obtain ⟨D, h, _⟩ := h; exact h.lt
theorem MapO.mono (h : MapO w b n f) {n' : Nat} (hn : n ≤ n') : MapO w b n' f := by obtain ⟨D, h, k⟩ := h; exact ⟨D, h.mono hn, k⟩
theorem MapO.kept {row : Option Nat} (h : MapO w b n f) (hg : w.grownBy w' row) (hne : some b ≠ row) : MapO w' b n f := by obtain ⟨D, h, k⟩ := h; exact ⟨D, h.kept hg hne, k⟩
theorem MapO.below (h : MapO w b n f) (hb : Below w.heap.size w w') : MapO w' b n f := h.kept (only_of_below hb none) (by simp)
theorem MapO.block (h : MapO w b n f) (e : w'.heap[b]? = w.heap[b]?) : MapO w' b n f := by
 obtain ⟨D, ⟨es, clock, h1, h2, h3, h4⟩, k⟩ := h
 exact ⟨D, ⟨es, clock, e.trans h1, h2, h3, h4⟩, k⟩
theorem MapO.is (h : MapO w b n f) : ∃ es clock, w.heap[b]? = some (.map es clock) := by
 obtain ⟨D, ⟨es, clock, h1, _⟩, k⟩ := h
 exact ⟨es, clock, h1⟩
theorem MapO.ext (h : MapO w b n f) {g : List Nat → Option Value} (hg : ∀ x, Id32 x → f x = g x) : MapO w b n g := by
 obtain ⟨D, h1, k⟩ := h
 exact ⟨D, h1, fun x hx => by rw [← hg x hx]; exact k x hx⟩
theorem MapO.look (h : MapO w b n f) (ht : Tryz.prog.underlying t = some (.map 41 e)) (hz : (zeroValue e).run Tryz.prog w = .ok z w) (hi : Id32 x) :
  (Instr.lookup t (.map (some b)) (.agg (u8s x)) false).run Tryz.prog w = .ok ((f x).getD z) w := by
 obtain ⟨D, h, k⟩ := h
 obtain ⟨v, ps, hrun, hv⟩ := h.lookup oid_law ht hz (zd := .held z) (zp := []) (selfO_mk z) (oid_key hi)
 have e0 : DataW.held v = D.atKey (oidKey x) (.held z) := congrArg Prod.fst (Option.some.inj hv)
 rw [(k x hi).2 z] at e0
 have e1 := DataW.held.inj e0
 rw [hrun, e1]
theorem MapO.look_ok (h : MapO w b n f) (ht : Tryz.prog.underlying t = some (.map 41 e)) (hz : (zeroValue e).run Tryz.prog w = .ok z w) (hi : Id32 x) :
  (Instr.lookup t (.map (some b)) (.agg (u8s x)) true).run Tryz.prog w = .ok (.tuple #[(f x).getD z, .bool (f x).isSome]) w := by
 obtain ⟨D, h, k⟩ := h
 obtain ⟨v, ps, hrun, hv⟩ := h.look_ok oid_law ht hz (zd := .held z) (zp := []) (selfO_mk z) (oid_key hi)
 have e0 : DataW.held v = D.atKey (oidKey x) (.held z) := congrArg Prod.fst (Option.some.inj hv)
 rw [(k x hi).2 z] at e0
 have e1 := DataW.held.inj e0
 rw [hrun, e1, (k x hi).1]
theorem MapO.store (h : MapO w b n f) (ht : Tryz.prog.underlying t = some (.map 41 e)) (hn : n < maxLen) (hi : Id32 x) (v : Value) :
  ∃ w', (Instr.mapUpdate t (.map (some b)) (.agg (u8s x)) v).run Tryz.prog w = .ok () w' ∧ MapO w' b (n + 1) (updO f x v) ∧ w.grownBy w' (some b) := by
 obtain ⟨D, h, k⟩ := h
 obtain ⟨w', hrun, h2, hg⟩ := h.update oid_law ht hn (oid_key hi) (val := v) (d := .held v) (ps := []) (selfO_mk v)
 refine ⟨w', hrun, ⟨_, h2, fun y hy => ?_⟩, hg⟩
 unfold updO
 by_cases hyx : y = x
 ·subst hyx
  rw [if_pos rfl]
  exact ⟨has_put_same h.isMap (oidKey_lit hi) _, fun z => atKey_put_same h.isMap (oidKey_lit hi) _ _⟩
 ·rw [if_neg hyx]
  exact ⟨by rw [has_put_other (oidKey_ne hi hy hyx)]; exact (k y hy).1, fun z => by rw [atKey_put_other (oidKey_ne hi hy hyx)]; exact (k y hy).2 z⟩
end
end Go.Proofs.YtgcgomdhdgjpdaaGreatDoor
/- Maps from ids that are ranged over, as functions. -/
namespace Go.Proofs.YtgcgomdhdgjpdaaGreatDoor
open Go Go.RowKit Go.Maps
theorem mapM_inv {α β : Type} {f : α → Option β} : ∀ {l : List α} {r : List β}, l.mapM f = some r → r.length = l.length ∧ ∀ i (h : i < l.length) (h2 : i < r.length), f l[i] = some r[i]
 | [], r, h => by
  rw [List.mapM_nil] at h
  obtain rfl : r = [] := by injection h with h; exact h.symm
  exact ⟨rfl, fun i h => by simp at h⟩
 | a :: l, r, h => by
  rw [List.mapM_cons] at h
  cases ha : f a with
  | none => rw [ha] at h; cases h
  | some b =>
   cases hl : l.mapM f with
   | none => rw [ha, hl] at h; cases h
   | some s =>
    rw [ha, hl] at h
    obtain rfl : r = b :: s := by injection h with h; exact h.symm
    obtain ⟨h1, h2⟩ := mapM_inv hl
    refine ⟨by rw [List.length_cons, List.length_cons, h1], fun i hi hi2 => ?_⟩
    obtain _ | i := i
    ·exact ha
    ·exact h2 i (by simpa using hi) (by simpa using hi2)
set_option maxRecDepth 100000 in
theorem oid_key_inv {key : Value} {kl : Lit} (h : keyOf Tryz.prog 41 key = some kl) : ∃ x, Id32 x ∧ key = .agg (u8s x) ∧ kl = oidKey x := by
 have hkey := h
 have hc : Tryz.prog.cellsOf 41 = 32 := by kernel_rfl
 have hc1 : Tryz.prog.cellsOf 5 = 1 := by kernel_rfl
 have hk : Tryz.prog.keyType 41 = true := by kernel_rfl
 unfold keyOf at h
 rw [Tryz.underlying41] at h
 simp only at h
 rw [hk] at h
 simp only [Bool.true_and] at h
 split at h
 ·rename_i hf
  obtain ⟨ls, hls, _⟩ := Option.map_eq_some_iff.1 h
  unfold Value.formed at hf
  rw [Tryz.underlying41] at hf
  cases key with
  | agg cs =>
   simp only [hc] at hf
   have hsz : cs.size = 32 := by simpa using hf
   have hlen : (Value.agg cs).cells.toList.length = 32 := by show cs.toList.length = 32; simpa using hsz
   rw [key_lits hlen hc, hc1] at hls
   obtain ⟨rs, hrs, _⟩ := Option.map_eq_some_iff.1 hls
   obtain ⟨h1, h2⟩ := mapM_inv hrs
   obtain ⟨m, hm⟩ : ∃ m, Tryz.prog.types.size = m + 1 := ⟨308 - 1, by kernel_rfl⟩
   have hcell : ∀ i (hi : i < 32), ∃ y : Nat, y < 256 ∧ cs[i]? = some (.int .u8 (y : Int)) := fun i hi => by
    have h3 := h2 i (by simpa using hi) (by rw [h1]; simpa using hi)
    rw [List.getElem_range] at h3
    have h4 : ((Value.agg cs).cells.toList.drop (i * 1)).take 1 = [cs[i]'(by omega)] := by
     show (cs.toList.drop (i * 1)).take 1 = _
     rw [Nat.mul_one, List.drop_eq_getElem_cons (by simpa using (by omega : i < cs.size)), List.take_succ_cons, List.take_zero]
     simp
    rw [h4, hm] at h3
    generalize hu : cs[i]'(by omega) = u at h3
    have hget : cs[i]? = some u := by rw [← hu]; exact Array.getElem?_eq_getElem _
    cases u <;> simp [Program.keyLits, Tryz.underlying5] at h3
    rename_i q n
    obtain ⟨⟨rfl, hw⟩, _⟩ := h3
    have hw2 : (decide ((0 : Int) ≤ n) && decide (n ≤ 255)) = true := hw
    simp only [Bool.and_eq_true, decide_eq_true_eq] at hw2
    exact ⟨n.toNat, by omega, by rw [hget]; congr 2; omega⟩
   obtain ⟨x, hx⟩ : ∃ x : List Nat, x = (List.range 32).map fun i => match cs[i]? with | some (.int _ n) => n.toNat | _ => 0 := ⟨_, rfl⟩
   have hxl : x.length = 32 := by rw [hx]; simp
   have hxg : ∀ i, i < 32 → ∃ y, y < 256 ∧ cs[i]? = some (.int .u8 (y : Int)) ∧ x.getD i 0 = y := fun i hi => by
    obtain ⟨y, hy, hyc⟩ := hcell i hi
    refine ⟨y, hy, hyc, ?_⟩
    rw [hx, List.getD_eq_getElem?_getD, List.getElem?_map, List.getElem?_range hi]
    simp [hyc]
   have hid : Id32 x := ⟨hxl, fun i => by
    by_cases hi : i < 32
    ·obtain ⟨y, hy, _, he⟩ := hxg i hi
     rw [he]; exact hy
    ·rw [List.getD_eq_getElem?_getD, List.getElem?_eq_none (by omega)]; decide⟩
   have hcs : cs = u8s x := by
    apply Array.ext_getElem?
    intro i
    by_cases hi : i < 32
    ·obtain ⟨y, hy, hc2, he⟩ := hxg i hi
     rw [hc2, u8s_get x i (by omega), he]
    ·rw [Array.getElem?_eq_none (by omega), Array.getElem?_eq_none (by rw [u8s_size]; omega)]
   refine ⟨x, hid, by rw [hcs], ?_⟩
   rw [hcs, oid_key hid] at hkey
   injection hkey with hkey
   exact hkey.symm
  | _ => simp at hf
 ·cases h
def RngO (w : World) (b r n : Nat) (f : List Nat → Option Value) (left : List Nat → Bool) (cnt : Nat) : Prop :=
 ∃ (D : DataW Value) (lf : Lit → Bool), w.ranges Tryz.prog 41 selfO b r n D lf cnt ∧ (∀ xs, Id32 xs → has D (oidKey xs) = (f xs).isSome ∧ ∀ z, D.atKey (oidKey xs) (.held z) = .held ((f xs).getD z)) ∧ ∀ xs, Id32 xs → left xs = lf (oidKey xs)
section
variable {w w' : World} {b r n cnt : Nat} {f : List Nat → Option Value} {left : List Nat → Bool} {t e : TypeId}
theorem RngO.left_eq (h : RngO w b r n f left cnt) : w.rangeLeft b r = cnt := by obtain ⟨D, lf, h1, _⟩ := h; exact h1.left_eq
theorem RngO.ne (h : RngO w b r n f left cnt) : r ≠ b := by obtain ⟨D, lf, h1, _⟩ := h; exact h1.ne
theorem RngO.lt (h : RngO w b r n f left cnt) : r < w.heap.size := by obtain ⟨D, lf, h1, _⟩ := h; exact h1.lt
theorem RngO.kept {row : Option Nat} (h : RngO w b r n f left cnt) (hg : w.grownBy w' row) (hb : some b ≠ row) (hr : some r ≠ row) : RngO w' b r n f left cnt := by
 obtain ⟨D, lf, h1, h2⟩ := h; exact ⟨D, lf, h1.kept hg hb hr, h2⟩
theorem RngO.below (h : RngO w b r n f left cnt) (hb : Below w.heap.size w w') : RngO w' b r n f left cnt := h.kept (only_of_below hb none) (by simp) (by simp)
theorem MapO.range (h : MapO w b n f) (ht : Tryz.prog.underlying t = some (.map 41 e)) :
  ∃ w' cnt, (Instr.range t (.map (some b))).run Tryz.prog w = .ok (.pointer (some ⟨w.heap.size, 0, none⟩)) w' ∧ RngO w' b w.heap.size n f (fun x => (f x).isSome) cnt ∧ w.grownBy w' none ∧ w'.heap.size = w.heap.size + 1 := by
 obtain ⟨D, h, k⟩ := h
 obtain ⟨w', h1, h2, h3, h4⟩ := h.range oid_law ht
 exact ⟨w', _, h1, ⟨D, _, h2, k, fun x hx => ((k x hx).1).symm⟩, h3, h4⟩
set_option maxRecDepth 100000 in
theorem RngO.next (h : RngO w b r n f left cnt) (ty : TypeId) :
  (cnt = 0 ∧ (∀ x, Id32 x → left x = false) ∧ (Instr.next (.pointer (some ⟨r, 0, none⟩)) false ty).run Tryz.prog w = .ok (.tuple #[.bool false]) w) ∨
  ∃ x v w' cnt', Id32 x ∧ left x = true ∧ f x = some v ∧ (Instr.next (.pointer (some ⟨r, 0, none⟩)) false ty).run Tryz.prog w = .ok (.tuple #[.bool true, .agg (u8s x), v]) w' ∧ RngO w' b r n f (fun y => left y && !decide (y = x)) cnt' ∧ cnt' < cnt ∧ w.grownBy w' (some r) ∧ w'.heap.size = w.heap.size ∧ (Instr.entry (.pointer (some ⟨r, 0, none⟩))).run Tryz.prog w' = .ok (.tuple #[.agg (u8s x), v]) w' := by
 obtain ⟨D, lf, h1, h2, h3⟩ := h
 rcases h1.next oid_law ty with ⟨e1, e2, e3⟩ | ⟨key, v, kl, y, w', cnt', e1, e2, e3, e4, e5, e6, e7, e8, e9, e10⟩
 ·exact Or.inl ⟨e1, fun x hx => by rw [h3 x hx]; exact e2 _, e3⟩
 ·obtain ⟨x, hx, rfl, rfl⟩ := oid_key_inv e1
  obtain rfl : (DataW.held v, []) = y := by have h := e3; rw [selfO_mk] at h; injection h
  have hv := (h2 x hx).2 v
  rw [e4] at hv
  have hf : (f x).isSome = true := by rw [← (h2 x hx).1]; exact has_true_of_atKey e4
  obtain ⟨u, hu⟩ := Option.isSome_iff_exists.1 hf
  have hu2 := (h2 x hx).2 u
  rw [e4, hu] at hu2
  have e0 := DataW.held.inj hu2
  simp only [Option.getD_some] at e0
  refine Or.inr ⟨x, v, w', cnt', hx, by rw [h3 x hx]; exact e2, by rw [hu, e0], e5, ⟨D, _, e6, h2, fun z hz => ?_⟩, e7, e8, e9, e10⟩
  show (left z && !decide (z = x)) = (lf (oidKey z) && !(oidKey z).sameKey (oidKey x))
  rw [h3 z hz]
  congr 1
  by_cases hzx : z = x
  ·subst hzx
   rw [WideAt.sameKey_self (oidKey_lit hz)]
   simp
  ·cases hs : (oidKey z).sameKey (oidKey x)
   ·simp [hzx]
   ·exact absurd (WideAt.sameKey_eq hs) (oidKey_ne hx hz hzx)
end
end Go.Proofs.YtgcgomdhdgjpdaaGreatDoor
