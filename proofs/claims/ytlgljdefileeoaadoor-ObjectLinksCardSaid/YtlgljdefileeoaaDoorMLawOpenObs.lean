/- Arguments of laws, opened: objects. -/
import Derived.Test.YtlgljdefileeoaaDoorMShaSums
import Derived.Test.YtlgljdefileeoaaDoorMErrs
import Derived.Test.YtlgljdefileeoaaDoorMHelds
import Derived.Test.YtlgljdefileeoaaDoorMBases
import Derived.Shelf.Small.Strs
namespace Go.Proofs.YtlgljdefileeoaaDoor
open Go Go.RowKit Go.WideShapes Go.ChangeShapes
section
variable {H : Type} {enc : TypeId × Value → H} {P : Program} {W : World} {base : Nat} {sp : Nat → Bool} {held : Bool} {t e : TypeId} {n : Nat}
theorem trod_id (ht : P.underlying t = some (.array n e)) (he : P.underlying e = some (.int .u8)) (h1 : P.cellsOf e = 1) (hn : P.cellsOf t = n) {fuel : Nat} {cs : List Value} {y : DataW H × List MemPlace}
    (hf : DataW.trod enc P W base sp held fuel t cs = some y) : ∃ xs : List Nat, cs = cellsB xs ∧ xs.length = n ∧ Sha.Byte xs := by
  cases fuel with
  | zero => simp [DataW.trod] at hf
  | succ m =>
    rw [DataW.trod_step] at hf
    unfold DataW.trodStep at hf
    simp only [ht] at hf
    by_cases hz : cs.length = P.cellsOf t
    · rw [if_pos hz] at hf
      simp only [Option.map_eq_some_iff] at hf
      obtain ⟨ys, hy, _⟩ := hf
      rw [h1] at hy
      rw [hn] at hz
      have hall := mapM_u8 he _ _ hy
      have hget : ∀ i, i < n → ∃ a : Nat, a < 256 ∧ cs[i]? = some (.int .u8 (a : Int)) := fun i hi => by
        obtain ⟨a, ha, hc⟩ := hall i (List.mem_range.2 hi)
        refine ⟨a, ha, ?_⟩
        have := congrArg (fun l => l[0]?) hc
        simpa [List.getElem?_take, List.getElem?_drop] using this
      let f : Value → Nat := fun v => match v with | .int _ a => a.toNat | _ => 0
      refine ⟨cs.map f, ?_, by rw [List.length_map, hz], ?_⟩
      · unfold cellsB
        rw [List.map_map]
        apply List.ext_getElem?
        intro i
        rcases Nat.lt_or_ge i n with hi | hi
        · obtain ⟨a, ha, hc⟩ := hget i hi
          rw [List.getElem?_map, hc]
          simp [f]
        · rw [List.getElem?_eq_none (by omega), List.getElem?_eq_none (by rw [List.length_map]; omega)]
      · intro i
        rcases Nat.lt_or_ge i n with hi | hi
        · obtain ⟨a, ha, hc⟩ := hget i hi
          simp [List.getD, List.getElem?_map, hc, f, ha]
        · simp [List.getD, List.getElem?_eq_none (show cs.length ≤ i by omega)]
    · rw [if_neg hz] at hf
      cases hf
theorem mapM_cellsK {w : World} {a : Addr} : ∀ (L : List Nat) (cs : List Value), L.mapM (fun i => w.cell? (a.add i)) = some cs → ∀ j, j < L.length → ∃ v, cs[j]? = some v ∧ w.cell? (a.add (L.getD j 0)) = some v
  | [], _, _, j, hj => by simp at hj
  | i :: L, cs, h, j, hj => by
    rw [List.mapM_cons] at h
    simp only [bind, Option.bind_eq_some_iff, pure, Option.some.injEq] at h
    obtain ⟨y, hy, ys, hys, rfl⟩ := h
    cases j with
    | zero => exact ⟨y, rfl, by simpa using hy⟩
    | succ j =>
      obtain ⟨v, h1, h2⟩ := mapM_cellsK L ys hys j (by simpa using hj)
      exact ⟨v, by simpa using h1, by simpa using h2⟩

/-- Elements of k cells each that were read one by one. -/
theorem rdk_of {α : Type} (f : α → List Value) (k : Nat) (good : α → Prop) (hk : ∀ x, good x → (f x).length = k) (hk0 : 0 < k) (a : Addr) (len cap : Nat) (hl : len ≤ cap)
    (hx : ∀ i, i < len → ∃ x, good x ∧ ∀ j u, (f x)[j]? = some u → W.cell? ((a.add (i * k)).add j) = some u) :
    ∃ xs : List α, xs.length = len ∧ (∀ x ∈ xs, good x) ∧ RdK W (.slice (some a) len cap) len (xs.flatMap f) := by
  let g : Fin len → α := fun i => Classical.choose (hx i.1 i.2)
  have hg : ∀ i : Fin len, good (g i) ∧ ∀ j u, (f (g i))[j]? = some u → W.cell? ((a.add (i.1 * k)).add j) = some u := fun i => Classical.choose_spec (hx i.1 i.2)
  have hl2 : (List.ofFn g).length = len := List.length_ofFn
  have hgood : ∀ x ∈ List.ofFn g, good x := fun x hm => by
    obtain ⟨i, hi, rfl⟩ := List.mem_iff_getElem.1 hm
    rw [List.getElem_ofFn]
    exact (hg _).1
  have hfl := fun x hm => hk x (hgood x hm)
  refine ⟨List.ofFn g, hl2, hgood, some a, cap, rfl, hl, fun h0 => ?_⟩
  obtain ⟨b, o, s⟩ := a
  have hz := hg ⟨0, h0⟩
  have hc0 := hz.2 0 ((f (g ⟨0, h0⟩))[0]'(by rw [hk _ hz.1]; exact hk0)) (List.getElem?_eq_getElem _)
  have e0 : ((⟨b, o, s⟩ : Addr).add (0 * k)).add 0 = ⟨b, o, s⟩ := by simp [Addr.add]
  rw [e0] at hc0
  obtain rfl := spot_free hc0
  refine ⟨b, o, rfl, block_lt_of_cell hc0, fun j u hu => ?_⟩
  have hj : j < len * k := by
    have h := (List.getElem?_eq_some_iff.1 hu).1
    rwa [flat_len f k _ hfl, hl2] at h
  have hi : j / k < len := Nat.div_lt_of_lt_mul (by rw [Nat.mul_comm]; exact hj)
  have hm : j % k < k := Nat.mod_lt _ hk0
  have hjj : k * (j / k) + j % k = j := Nat.div_add_mod j k
  have hget := flat_get f k (List.ofFn g) hfl (j / k) (by rw [hl2]; exact hi) (j % k) hm
  rw [hjj, hu, List.getElem_ofFn] at hget
  have h := (hg ⟨j / k, hi⟩).2 (j % k) u hget.symm
  rw [Addr.add_mid, Addr.add_mid] at h
  rw [show o + j = o + j / k * k + j % k by rw [Nat.mul_comm]; omega]
  exact h
theorem cells_at {w : World} {a : Addr} {n : Nat} {cs : List Value} (h : w.cells? 0 a n = some cs) : ∀ j u, cs[j]? = some u → j < n → w.cell? (a.add j) = some u := fun j u hu hj => by
  unfold World.cells? at h
  split at h
  · obtain ⟨u', h1, h2⟩ := mapM_cellsK _ _ h j (by simpa using hj)
    rw [hu] at h1
    obtain rfl := Option.some.inj h1
    have e : (List.range n).getD j 0 = j := by simp [List.getD, hj]
    rwa [e] at h2
  · cases h
theorem open_ids {ts : TypeId} (hs : P.underlying ts = some (.slice t)) (ht : P.underlying t = some (.array 32 e)) (he : P.underlying e = some (.int .u8)) (h1 : P.cellsOf e = 1) (hn : P.cellsOf t = 32) {fuel : Nat} {v : Value} {y : DataW H × List MemPlace}
    (hf : DataW.trod enc P W 0 sp held fuel ts [v] = some y) : ∃ (l : List (List Nat)) (A : Option Addr) (c : Nat), v = .slice A l.length c ∧ RdK W v l.length (cellsP l) ∧ ∀ x ∈ l, Id32 x := by
  rcases DataW.trod_slice hs hf with ⟨hc, _⟩ | ⟨a, len, cap, elems, rest, m, _, hc, _, hba, hlc, hcm, hlen, hel, _⟩
  · obtain rfl : v = .slice none 0 0 := by simpa using hc
    exact ⟨[], none, 0, rfl, RdK.nil _ _, fun x h => by cases h⟩
  · obtain rfl : v = .slice (some a) len cap := by simpa using hc
    rw [hn] at hel
    obtain ⟨xs, hl, hg, hr⟩ := rdk_of (W := W) cellsB 32 Id32 (fun x h => by rw [cellsB_len, h.1]) (by omega) a len cap hlc (fun i hi => by
      have h := hel i hi
      rw [List.getElem?_eq_getElem (by omega)] at h
      simp only [Option.bind_eq_some_iff] at h
      obtain ⟨cs, hcs, hy⟩ := h
      obtain ⟨xs, rfl, hxl, hxb⟩ := trod_id ht he h1 hn hy
      exact ⟨xs, ⟨hxl, hxb⟩, fun j u hu => cells_at hcs j u hu (by have := (List.getElem?_eq_some_iff.1 hu).1; rwa [cellsB_len, hxl] at this)⟩)
    exact ⟨xs, some a, cap, by rw [hl], by rw [hl]; exact hr, hg⟩
theorem one_of {l : List Value} {i : Nat} (h : i < l.length) : (l.drop i).take 1 = [l[i]] := by
  rw [List.drop_eq_getElem_cons h]; rfl
theorem open_ents {ts ti tn : TypeId} {f0 f1 : Field} (hs : P.underlying ts = some (.slice t)) (ht : P.underlying t = some (.struct #[f0, f1])) (g0 : f0.type = tn ∧ f0.offset = 0) (g1 : f1.type = ti ∧ f1.offset = 1) (hN : P.underlying tn = some .string) (cN : P.cellsOf tn = 1) (hi : P.underlying ti = some (.array 32 e)) (he : P.underlying e = some (.int .u8)) (h1 : P.cellsOf e = 1) (hn : P.cellsOf ti = 32) (ct : P.cellsOf t = 33) {fuel : Nat} {v : Value} {y : DataW H × List MemPlace}
    (hf : DataW.trod enc P W 0 sp held fuel ts [v] = some y) : ∃ (l : List Ent) (A : Option Addr) (c : Nat), v = .slice A l.length c ∧ RdK W v l.length (cellsE l) ∧ ∀ x ∈ l, Id32 x.id := by
  rcases DataW.trod_slice hs hf with ⟨hc, _⟩ | ⟨a, len, cap, elems, rest, m, _, hc, _, hba, hlc, hcm, hlen, hel, _⟩
  · obtain rfl : v = .slice none 0 0 := by simpa using hc
    exact ⟨[], none, 0, rfl, RdK.nil _ _, fun x h => by cases h⟩
  · obtain rfl : v = .slice (some a) len cap := by simpa using hc
    rw [ct] at hel
    obtain ⟨xs, hl, hg, hr⟩ := rdk_of (W := W) cellsE1 33 (fun x => Id32 x.id) (fun x h => cellsE1_len h) (by omega) a len cap hlc (fun i hi' => by
      have h := hel i hi'
      rw [List.getElem?_eq_getElem (by omega)] at h
      simp only [Option.bind_eq_some_iff] at h
      obtain ⟨cs, hcs, hy⟩ := h
      obtain ⟨y0, y1, m', _, hcl, e0, e1⟩ := trod_struct2 ht hy
      rw [ct] at hcl
      rw [g0.1, g0.2, cN, one_of (by omega)] at e0
      rw [g1.1, g1.2, hn] at e1
      obtain ⟨s, hs, _, _⟩ := DataW.trod_string hN e0
      obtain ⟨xs, hxs, hxl, hxb⟩ := trod_id hi he h1 hn e1
      have hcs2 : cs = cellsE1 ⟨s, xs⟩ := by
        match cs, hcl with
        | c0 :: cs', hcl =>
          have h0 : c0 = .string s := by simpa using hs
          have h2 : cs' = cellsB xs := by
            have : (cs'.take 32) = cellsB xs := by simpa using hxs
            rwa [List.take_of_length_le (by simp at hcl; omega)] at this
          rw [h0, h2]; rfl
      subst hcs2
      exact ⟨⟨s, xs⟩, ⟨hxl, hxb⟩, fun j u hu => cells_at hcs j u hu (by have := (List.getElem?_eq_some_iff.1 hu).1; rwa [cellsE1_len ⟨hxl, hxb⟩] at this)⟩)
    exact ⟨xs, some a, cap, by rw [hl], by rw [hl]; exact hr, hg⟩
end
theorem obj_under : Tryd.prog.underlying 30 = some (.struct (Tryd.prog.fieldsOf 30)) := by kernel_rfl
theorem obj_fields : (Tryd.prog.fieldsOf 30).toList.map (fun f => (f.type, f.offset)) = [(3, 0), (22, 1), (25, 2), (27, 3), (28, 35)] := by kernel_rfl
theorem oent_under : Tryd.prog.underlying 61 = some (.struct (Tryd.prog.fieldsOf 61)) := by kernel_rfl
theorem oent_fields : (Tryd.prog.fieldsOf 61).toList.map (fun f => (f.type, f.offset)) = [(9, 0), (27, 1)] := by kernel_rfl
theorem slice_of {H : Type} {enc : TypeId × Value → H} {P : Program} {W : World} {sp : Nat → Bool} {held : Bool} {t e : TypeId} {fuel : Nat} {v : Value} {y : DataW H × List MemPlace} (hs : P.underlying t = some (.slice e)) (hf : DataW.trod enc P W 0 sp held fuel t [v] = some y) : ∃ A n c, v = .slice A n c := by
  rcases DataW.trod_slice hs hf with ⟨hc, _⟩ | ⟨a, len, cap, _, _, _, _, hc, _⟩
  · exact ⟨none, 0, 0, by simpa using hc⟩
  · exact ⟨some a, len, cap, by simpa using hc⟩
theorem cells36 (L : List Value) (hcl : L.length = 36) (a b c d : Value) (X : List Value) (h0 : L[0] = a) (h1 : L[1] = b) (h2 : L[2] = c) (h3 : (L.drop 3).take 32 = X) (h4 : L[35] = d) : L = a :: b :: c :: (X ++ [d]) := by
  match L, hcl with
  | c0 :: c1 :: c2 :: L', hcl =>
    have hL' : L'.length = 33 := by simp at hcl; omega
    have e0 : c0 = a := h0
    have e1 : c1 = b := h1
    have e2 : c2 = c := h2
    have e3 : L'.take 32 = X := by simpa using h3
    have e4 : L'[32]'(by omega) = d := h4
    have e5 : L' = L'.take 32 ++ [L'[32]'(by omega)] := by
      have h := List.take_append_drop 32 L'
      rw [List.drop_eq_getElem_cons (by omega), List.drop_of_length_le (by omega)] at h
      exact h.symm
    rw [e0, e1, e2]
    rw [e3, e4] at e5
    rw [e5]
theorem open_ob {H : Type} {enc : TypeId × Value → H} {W : World} {held : Bool} {v : Value} {d : DataW H} {ps : List MemPlace}
    (hd : DataW.Trod enc Tryd.prog W 0 (fun _ => true) held 30 v d ps) :
    ∃ (o : Ob) (cs : Array Value) (T : Option Addr) (tc : Nat) (E : Option Addr) (ec : Nat) (Pp : Option Addr) (pc : Nat), v = .agg cs ∧ ObC W o cs T tc E ec Pp pc ∧ o.Fit := by
  obtain ⟨fuel, hf⟩ := hd
  obtain ⟨xs, n, _, _, hl, hlen, hx⟩ := DataW.trod_struct obj_under hf
  have hc36 : Tryd.prog.cellsOf 30 = 36 := by kernel_rfl
  rw [hc36] at hl
  have hv : ∃ cs, v = .agg cs := by
    cases v <;> first | exact ⟨_, rfl⟩ | (exfalso; simp [Value.cells] at hl)
  obtain ⟨cs, rfl⟩ := hv
  have hcl : cs.toList.length = 36 := hl
  have hcells : (Value.agg cs).cells.toList = cs.toList := rfl
  rw [hcells] at hx
  have hF := obj_fields
  have hsz : (Tryd.prog.fieldsOf 30).toList.length = 5 := by have := congrArg List.length hF; simpa using this
  have fld : ∀ i (h : i < 5) t o, [(3, 0), (22, 1), (25, 2), (27, 3), (28, 35)][i]? = some (t, o) → ∃ y, DataW.trod enc Tryd.prog W 0 (fun _ => true) held n t ((cs.toList.drop o).take (Tryd.prog.cellsOf t)) = some y := fun i h t o hq => by
    rw [← hF, List.getElem?_map] at hq
    simp only [Option.map_eq_some_iff] at hq
    obtain ⟨f, hfi, hft⟩ := hq
    have hfi' : (Tryd.prog.fieldsOf 30)[i]? = some f := by simpa using hfi
    have h2 := hx i f hfi'
    injection hft with e1 e2
    rw [e1, e2] at h2
    have h3 : i < xs.length := by rw [hlen, ← Array.length_toList, hsz]; exact h
    exact ⟨xs[i], by rw [h2, List.getElem?_eq_getElem h3]⟩
  obtain ⟨y0, k0⟩ := fld 0 (by omega) _ _ rfl
  obtain ⟨y1, k1⟩ := fld 1 (by omega) _ _ rfl
  obtain ⟨y2, k2⟩ := fld 2 (by omega) _ _ rfl
  obtain ⟨y3, k3⟩ := fld 3 (by omega) _ _ rfl
  obtain ⟨y4, k4⟩ := fld 4 (by omega) _ _ rfl
  rw [show Tryd.prog.cellsOf 3 = 1 by kernel_rfl, one_of (by omega)] at k0
  rw [show Tryd.prog.cellsOf 22 = 1 by kernel_rfl, one_of (by omega)] at k1
  rw [show Tryd.prog.cellsOf 25 = 1 by kernel_rfl, one_of (by omega)] at k2
  rw [show Tryd.prog.cellsOf 27 = 32 by kernel_rfl] at k3
  rw [show Tryd.prog.cellsOf 28 = 1 by kernel_rfl, one_of (by omega)] at k4
  obtain ⟨kd, q0, _, _⟩ := DataW.trod_int Tryd.underlying3 k0
  obtain ⟨tx, rT, bT, _⟩ := rd_of_ints Tryd.underlying22 Tryd.underlying5 (by kernel_rfl) k1
  obtain ⟨fs, hfs⟩ : ∃ f0 f1, Tryd.prog.fieldsOf 61 = #[f0, f1] := by
    have h := congrArg List.length oent_fields
    rw [List.length_map] at h
    match hq : (Tryd.prog.fieldsOf 61).toList, h with
    | [f0, f1], _ => exact ⟨f0, f1, by apply Array.ext'; rw [hq]⟩
  obtain ⟨f1, hfs⟩ := hfs
  have hef := oent_fields
  have heu := oent_under
  rw [hfs] at hef heu
  have hef2 : (fs.type = 9 ∧ fs.offset = 0) ∧ (f1.type = 27 ∧ f1.offset = 1) := by simpa using hef
  obtain ⟨es, EA, ec, vE, rE, gE⟩ := open_ents Tryd.underlying25 heu hef2.1 hef2.2 Tryd.underlying9 (by kernel_rfl) Tryd.underlying27 Tryd.underlying5 (by kernel_rfl) (by kernel_rfl) (by kernel_rfl) k2
  obtain ⟨tg, q3, lT, bG⟩ := trod_id Tryd.underlying27 Tryd.underlying5 (by kernel_rfl) (by kernel_rfl) k3
  obtain ⟨ps', PA, pc, vP, rP, gP⟩ := open_ids Tryd.underlying28 Tryd.underlying27 Tryd.underlying5 (by kernel_rfl) (by kernel_rfl) k4
  have rT2 := rT
  obtain ⟨TA, tc, vT, _, _⟩ := rT2
  refine ⟨⟨kd, tx, es, tg, ps'⟩, cs, TA, tc, EA, ec, PA, pc, rfl, ⟨?_, by rw [← vT]; exact rT, by rw [← vE]; exact rE, by rw [← vP]; exact rP⟩, ⟨bT, gE, ⟨lT, bG⟩, gP⟩⟩
  have h0 : cs.toList[0] = .int .i64 kd := by simpa using q0
  apply Array.ext'
  exact cells36 cs.toList hcl _ _ _ _ _ h0 vT vE q3 vP
end Go.Proofs.YtlgljdefileeoaaDoor
/- The library's contracts that layer 3 leans on, laid at this program's numbers. -/
namespace Go.Proofs.YtlgljdefileeoaaDoor
open Go Go.RowKit
/-! strings.IndexByte -/
section
open Go.Shelf
def ixb_ren : Go.Shelf.Ren := ⟨fun | 137 => 29 | 217 => 44 | 266 => 51 | n => n, fun | 9 => 9 | 5 => 5 | 3 => 3 | n => n, fun | n => n⟩
theorem ixb_lays : Go.Proofs.Lays.n137 Tryd.prog ixb_ren := {
  mixed := by kernel_rfl
  f137 := Tryd.func29.trans (congrArg some (by kernel_rfl))
  f217 := Tryd.func44.trans (congrArg some (by kernel_rfl))
  f266 := Tryd.func51.trans (congrArg some (by kernel_rfl))
  t3 := Tryd.underlying3
  a3 := Tryd.isAgg3
  z3 := Tryd.sizeOf3
  v3 := Tryd.zeroValue3
  t5 := Tryd.underlying5
  a5 := Tryd.isAgg5
  z5 := Tryd.sizeOf5
  v5 := Tryd.zeroValue5
  t9 := Tryd.underlying9
  a9 := Tryd.isAgg9
  z9 := Tryd.sizeOf9
  v9 := Tryd.zeroValue9 }
end
end Go.Proofs.YtlgljdefileeoaaDoor
/- Layer 2's letters: which there are, how long their numbers are, the greatest of them; a number as bytes. -/
namespace Go.Proofs.YtlgljdefileeoaaDoor
open Go Go.RowKit
namespace Oc
def size (c : Nat) : Int := if c = 98 then 1 else if c = 119 then 4 else if c = 113 then 8 else if c = 111 then 0 else if c = 116 then 0 else -1
def nsize (c : Nat) : Int := if c = 98 then 1 else if c = 119 then 4 else if c = 113 then 8 else 0
def most (c : Nat) : Int := if c = 98 then 255 else if c = 119 then 4294967295 else if c = 113 then 4611686018427387903 else 0
def mostOf (n : Int) : Int := if n = 8 then 4611686018427387903 else if n = 4 then 4294967295 else 255
def isL (c : UInt8) : Bool := decide (0 ≤ size c.toNat)
def known (l : List UInt8) : Bool := l.all isL
theorem known_take {s : ByteArray} {k : Nat} (h : k < s.size) (h1 : known (s.data.toList.take k) = true) (h2 : isL s[k] = true) : known (s.data.toList.take (k + 1)) = true := by
  rw [List.take_succ_eq_append_getElem (by simpa using h)]
  unfold known at h1 ⊢
  rw [List.all_append, h1, Bool.true_and, List.all_cons, List.all_nil, Bool.and_true]
  exact h2
theorem known_not {s : ByteArray} {k : Nat} (h : k < s.size) (h2 : isL s[k] = false) : known s.data.toList = false := by
  unfold known
  rw [List.all_eq_false]
  exact ⟨s[k], by simp [ByteArray.getElem_eq_getElem_data], by simp [h2]⟩
/-- n's bytes, the greatest first. -/
def num : Nat → Nat → List Nat
  | 0, _ => []
  | s + 1, n => num s (n / 256) ++ [n % 256]
theorem num_len : ∀ s n, (num s n).length = s
  | 0, _ => rfl
  | s + 1, n => by rw [num, List.length_append, num_len s]; rfl
end Oc
abbrev letS : ByteArray := ⟨#[98, 119, 113, 111, 116]⟩
theorem let_val : ∀ c : Fin 256, decide (Lib.indexByte letS.data.toList (((c.val : Nat) : Int).toNat.toUInt8) < 0) = decide (Oc.size c.val < 0) := by decide +kernel
theorem ret_i {a b : Int} (h : a = b) : Ending.returned (.int .i64 a) = .returned (.int .i64 b) := by rw [h]
theorem ret_b {a b : Bool} (h : a = b) : Ending.returned (.bool a) = .returned (.bool b) := by rw [h]
theorem ret_ii {a b x y : Int} (h : a = b ∧ x = y) : Ending.returned (.tuple #[.int .i64 a, .int .i64 x]) = .returned (.tuple #[.int .i64 b, .int .i64 y]) := by rw [h.1, h.2]
theorem number_any (c : Nat) (w : World) :
    Calls Tryd.prog 45 #[.int .u8 ((c : Nat) : Int)] w fun e w' => e = .returned (.tuple #[.int .i64 (Oc.nsize c), .int .i64 (Oc.most c)]) ∧ w = w' := by
  rcases Nat.decEq c 98 with h1 | h1
  · rcases Nat.decEq c 119 with h2 | h2
    · rcases Nat.decEq c 113 with h3 | h3
      · have HV := Lib.hid (show Oc.nsize c = 0 ∧ Oc.most c = 0 from ⟨by unfold Oc.nsize; rw [if_neg h1, if_neg h2, if_neg h3], by unfold Oc.most; rw [if_neg h1, if_neg h2, if_neg h3]⟩)
        go_enter Tryd.func45, Tryd.ntmps45
        go_wp2
        go_ret2
        exact ⟨ret_ii ⟨HV.out.1.symm, HV.out.2.symm⟩, rfl⟩
      · subst h3
        go_enter Tryd.func45, Tryd.ntmps45
        go_wp2
        go_ret2
        exact ⟨rfl, rfl⟩
    · subst h2
      go_enter Tryd.func45, Tryd.ntmps45
      go_wp2
      go_ret2
      exact ⟨rfl, rfl⟩
  · subst h1
    go_enter Tryd.func45, Tryd.ntmps45
    go_wp2
    go_ret2
    exact ⟨rfl, rfl⟩
end Go.Proofs.YtlgljdefileeoaaDoor
/- Layer 2's numbers as bytes: octets.putNumber, and the document's own Num. -/
namespace Go.Proofs.YtlgljdefileeoaaDoor
open Go Go.RowKit
namespace Oc
/-- n's bytes, the greatest first. -/
def nums (s n : Nat) : List Nat := (List.range s).map fun i => n / 2^(8 * (s - 1 - i)) % 256
theorem nums_len (s n : Nat) : (nums s n).length = s := by simp [nums]
theorem nums_succ {s n m : Nat} (h : m < s) : (nums s n).take m ++ [n / 2^(8 * (s - 1 - m)) % 256] = (nums s n).take (m + 1) := by
  have h2 : m < (nums s n).length := by rw [nums_len]; exact h
  rw [List.take_succ_eq_append_getElem h2]
  simp [nums]
end Oc
/-- what isn't a row of bytes stands as it stood -/
def Others (w w' : World) : Prop := ∀ (p : Nat) (cs : Array Value) (T : TypeId) (z : Nat × Nat), T ≠ 5 → w.heap[p]? = some (Obj.cells cs T z) → w'.heap[p]? = some (Obj.cells cs T z)
theorem Others.refl (w : World) : Others w w := fun _ _ _ _ _ h => h
theorem Others.trans {a b c : World} (h : Others a b) (k : Others b c) : Others a c := fun p cs T z n e => k p cs T z n (h p cs T z n e)
theorem Others.alloc {a b : World} (h : Others a b) (o : Obj) : Others a (b.alloc o) := fun p cs T z n e => by
  have h1 := h p cs T z n e
  rw [heap_alloc_old _ _ (Array.getElem?_eq_some_iff.1 h1).1]
  exact h1
theorem Others.own {a b c : World} {B size n : Nat} {v : Value} {xs : List Value} (h : Others a b) (ho : b.ownsRow B 5 size v n xs) (k : b.grownBy c v.ownBlock) : Others a c := fun p cs T z hT e => by
  have h1 := h p cs T z hT e
  rw [k.block p (Array.getElem?_eq_some_iff.1 h1).1 ?_]
  · exact h1
  · intro hp
    rcases ho.2 with ⟨rfl, _⟩ | ⟨g, cap, cur, rfl, _, hh, _⟩
    · cases hp
    · cases hp
      rw [hh] at h1
      cases h1
      exact hT rfl
namespace Oc
def numsFrom (s n j : Nat) : List Nat := (List.range s).map fun i => if j ≤ s - 1 - i then 0 else n / 2^(8 * (s - 1 - i)) % 256
theorem numsFrom_zero (s n : Nat) : numsFrom s n 0 = List.replicate s 0 := by
  apply List.ext_getElem
  · simp [numsFrom]
  · intro i h1 h2; simp [numsFrom]
theorem numsFrom_all (s n : Nat) : numsFrom s n s = nums s n := by
  apply List.ext_getElem
  · simp [numsFrom, nums]
  · intro i h1 h2
    have : i < s := by simpa [numsFrom] using h1
    simp only [numsFrom, nums, List.getElem_map, List.getElem_range]
    rw [if_neg (by omega)]
theorem numsFrom_len (s n j : Nat) : (numsFrom s n j).length = s := by simp [numsFrom]
theorem numsFrom_set (s n j : Nat) (h : j < s) : (numsFrom s n j).set (s - 1 - j) (n / 2^(8 * j) % 256) = numsFrom s n (j + 1) := by
  apply List.ext_getElem
  · simp [numsFrom]
  · intro i h1 h2
    have hi : i < s := by simpa [numsFrom] using h2
    rw [List.getElem_set]
    simp only [numsFrom, List.getElem_map, List.getElem_range]
    by_cases he : s - 1 - j = i
    · subst he
      rw [if_pos rfl, if_neg (by omega), show s - 1 - (s - 1 - j) = j by omega]
    · rw [if_neg he]
      by_cases hj : j ≤ s - 1 - i
      · rw [if_pos hj, if_pos (by omega)]
      · rw [if_neg hj, if_neg (by omega)]
end Oc
end Go.Proofs.YtlgljdefileeoaaDoor
/- One field of layer 2: whether it has bytes (octets.fits), and which (octets.put). -/
namespace Go.Proofs.YtlgljdefileeoaaDoor
open Go Go.RowKit
namespace Oc
def fits (c : Nat) (n : Int) (l : Nat) : Bool := if c = 111 then decide (l = 32) else if c = 116 then decide (l ≤ 65535) else decide (0 ≤ n) && decide (n ≤ most c)
def enc (c : Nat) (n : Int) (bs : List Nat) : List Nat := if c = 111 then bs else if c = 116 then nums 2 bs.length ++ bs else nums (nsize c).toNat n.toNat
theorem nsize_nat (c : Nat) : ∃ s : Nat, nsize c = s ∧ s ≤ 8 := by
  unfold nsize
  by_cases h1 : c = 98
  · rw [if_pos h1]; exact ⟨1, rfl, by decide⟩
  rw [if_neg h1]
  by_cases h2 : c = 119
  · rw [if_pos h2]; exact ⟨4, rfl, by decide⟩
  rw [if_neg h2]
  by_cases h3 : c = 113
  · rw [if_pos h3]; exact ⟨8, rfl, by decide⟩
  rw [if_neg h3]; exact ⟨0, rfl, by decide⟩
theorem most_le (c : Nat) : most c ≤ 4611686018427387903 := by
  unfold most
  by_cases h1 : c = 98
  · rw [if_pos h1]; decide
  rw [if_neg h1]
  by_cases h2 : c = 119
  · rw [if_pos h2]; decide
  rw [if_neg h2]
  by_cases h3 : c = 113
  · rw [if_pos h3]; decide
  rw [if_neg h3]; decide
end Oc
end Go.Proofs.YtlgljdefileeoaaDoor
