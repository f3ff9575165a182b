/- Arguments of laws, opened: objects. -/
import Derived.Test.YtenodghocenjaaaDoorLawOpen
import Derived.Test.YtenodghocenjaaaDoorLawOpenB
import Derived.Test.YtenodghocenjaaaDoorOb1
namespace Go.Proofs.YtenodghocenjaaaDoor
open Go Go.RowKit Go.WideShapes Go.ChangeShapes
section
variable {H : Type} {enc : TypeId × Value → H} {P : Program} {W : World} {base : Nat} {sp : Nat → Bool} {held : Bool} {t e : TypeId} {n : Nat}
theorem trod_id (ht : P.underlying t = some (.array n e)) (he : P.underlying e = some (.int .u8)) (h1 : P.cellsOf e = 1) (hn : P.cellsOf t = n) {fuel : Nat} {cs : List Value} {y : DataW H × List MemPlace}
    (hf : DataW.trod enc P W base sp held fuel t cs = some y) : ∃ xs : List Nat, cs = cellsB xs ∧ xs.length = n ∧ Sha.Byte xs := by
  cases fuel with
  | zero => simp [DataW.trod] at hf
  | succ m =>
    rw [DataW.trod_step] at hf
    unfold DataW.trodStep at hf
    simp only [ht] at hf
    by_cases hz : cs.length = P.cellsOf t
    · rw [if_pos hz] at hf
      simp only [Option.map_eq_some_iff] at hf
      obtain ⟨ys, hy, _⟩ := hf
      rw [h1] at hy
      rw [hn] at hz
      have hall := mapM_u8 he _ _ hy
      have hget : ∀ i, i < n → ∃ a : Nat, a < 256 ∧ cs[i]? = some (.int .u8 (a : Int)) := fun i hi => by
        obtain ⟨a, ha, hc⟩ := hall i (List.mem_range.2 hi)
        refine ⟨a, ha, ?_⟩
        have := congrArg (fun l => l[0]?) hc
        simpa [List.getElem?_take, List.getElem?_drop] using this
      let f : Value → Nat := fun v => match v with | .int _ a => a.toNat | _ => 0
      refine ⟨cs.map f, ?_, by rw [List.length_map, hz], ?_⟩
      · unfold cellsB
        rw [List.map_map]
        apply List.ext_getElem?
        intro i
        rcases Nat.lt_or_ge i n with hi | hi
        · obtain ⟨a, ha, hc⟩ := hget i hi
          rw [List.getElem?_map, hc]
          simp [f]
        · rw [List.getElem?_eq_none (by omega), List.getElem?_eq_none (by rw [List.length_map]; omega)]
      · intro i
        rcases Nat.lt_or_ge i n with hi | hi
        · obtain ⟨a, ha, hc⟩ := hget i hi
          simp [List.getD, List.getElem?_map, hc, f, ha]
        · simp [List.getD, List.getElem?_eq_none (show cs.length ≤ i by omega)]
    · rw [if_neg hz] at hf
      cases hf
theorem mapM_cellsK {w : World} {a : Addr} : ∀ (L : List Nat) (cs : List Value), L.mapM (fun i => w.cell? (a.add i)) = some cs → ∀ j, j < L.length → ∃ v, cs[j]? = some v ∧ w.cell? (a.add (L.getD j 0)) = some v
  | [], _, _, j, hj => by simp at hj
  | i :: L, cs, h, j, hj => by
    rw [List.mapM_cons] at h
    simp only [bind, Option.bind_eq_some_iff, pure, Option.some.injEq] at h
    obtain ⟨y, hy, ys, hys, rfl⟩ := h
    cases j with
    | zero => exact ⟨y, rfl, by simpa using hy⟩
    | succ j =>
      obtain ⟨v, h1, h2⟩ := mapM_cellsK L ys hys j (by simpa using hj)
      exact ⟨v, by simpa using h1, by simpa using h2⟩

/-- Elements of k cells each that were read one by one. -/
theorem rdk_of {α : Type} (f : α → List Value) (k : Nat) (good : α → Prop) (hk : ∀ x, good x → (f x).length = k) (hk0 : 0 < k) (a : Addr) (len cap : Nat) (hl : len ≤ cap)
    (hx : ∀ i, i < len → ∃ x, good x ∧ ∀ j u, (f x)[j]? = some u → W.cell? ((a.add (i * k)).add j) = some u) :
    ∃ xs : List α, xs.length = len ∧ (∀ x ∈ xs, good x) ∧ RdK W (.slice (some a) len cap) len (xs.flatMap f) := by
  let g : Fin len → α := fun i => Classical.choose (hx i.1 i.2)
  have hg : ∀ i : Fin len, good (g i) ∧ ∀ j u, (f (g i))[j]? = some u → W.cell? ((a.add (i.1 * k)).add j) = some u := fun i => Classical.choose_spec (hx i.1 i.2)
  have hl2 : (List.ofFn g).length = len := List.length_ofFn
  have hgood : ∀ x ∈ List.ofFn g, good x := fun x hm => by
    obtain ⟨i, hi, rfl⟩ := List.mem_iff_getElem.1 hm
    rw [List.getElem_ofFn]
    exact (hg _).1
  have hfl := fun x hm => hk x (hgood x hm)
  refine ⟨List.ofFn g, hl2, hgood, some a, cap, rfl, hl, fun h0 => ?_⟩
  obtain ⟨b, o, s⟩ := a
  have hz := hg ⟨0, h0⟩
  have hc0 := hz.2 0 ((f (g ⟨0, h0⟩))[0]'(by rw [hk _ hz.1]; exact hk0)) (List.getElem?_eq_getElem _)
  have e0 : ((⟨b, o, s⟩ : Addr).add (0 * k)).add 0 = ⟨b, o, s⟩ := by simp [Addr.add]
  rw [e0] at hc0
  obtain rfl := spot_free hc0
  refine ⟨b, o, rfl, block_lt_of_cell hc0, fun j u hu => ?_⟩
  have hj : j < len * k := by
    have h := (List.getElem?_eq_some_iff.1 hu).1
    rwa [flat_len f k _ hfl, hl2] at h
  have hi : j / k < len := Nat.div_lt_of_lt_mul (by rw [Nat.mul_comm]; exact hj)
  have hm : j % k < k := Nat.mod_lt _ hk0
  have hjj : k * (j / k) + j % k = j := Nat.div_add_mod j k
  have hget := flat_get f k (List.ofFn g) hfl (j / k) (by rw [hl2]; exact hi) (j % k) hm
  rw [hjj, hu, List.getElem_ofFn] at hget
  have h := (hg ⟨j / k, hi⟩).2 (j % k) u hget.symm
  rw [Addr.add_mid, Addr.add_mid] at h
  rw [show o + j = o + j / k * k + j % k by rw [Nat.mul_comm]; omega]
  exact h
theorem cells_at {w : World} {a : Addr} {n : Nat} {cs : List Value} (h : w.cells? 0 a n = some cs) : ∀ j u, cs[j]? = some u → j < n → w.cell? (a.add j) = some u := fun j u hu hj => by
  unfold World.cells? at h
  split at h
  · obtain ⟨u', h1, h2⟩ := mapM_cellsK _ _ h j (by simpa using hj)
    rw [hu] at h1
    obtain rfl := Option.some.inj h1
    have e : (List.range n).getD j 0 = j := by simp [List.getD, hj]
    rwa [e] at h2
  · cases h
theorem open_ids {ts : TypeId} (hs : P.underlying ts = some (.slice t)) (ht : P.underlying t = some (.array 32 e)) (he : P.underlying e = some (.int .u8)) (h1 : P.cellsOf e = 1) (hn : P.cellsOf t = 32) {fuel : Nat} {v : Value} {y : DataW H × List MemPlace}
    (hf : DataW.trod enc P W 0 sp held fuel ts [v] = some y) : ∃ (l : List (List Nat)) (A : Option Addr) (c : Nat), v = .slice A l.length c ∧ RdK W v l.length (cellsP l) ∧ ∀ x ∈ l, Id32 x := by
  rcases DataW.trod_slice hs hf with ⟨hc, _⟩ | ⟨a, len, cap, elems, rest, m, _, hc, _, hba, hlc, hcm, hlen, hel, _⟩
  · obtain rfl : v = .slice none 0 0 := by simpa using hc
    exact ⟨[], none, 0, rfl, RdK.nil _ _, fun x h => by cases h⟩
  · obtain rfl : v = .slice (some a) len cap := by simpa using hc
    rw [hn] at hel
    obtain ⟨xs, hl, hg, hr⟩ := rdk_of (W := W) cellsB 32 Id32 (fun x h => by rw [cellsB_len, h.1]) (by omega) a len cap hlc (fun i hi => by
      have h := hel i hi
      rw [List.getElem?_eq_getElem (by omega)] at h
      simp only [Option.bind_eq_some_iff] at h
      obtain ⟨cs, hcs, hy⟩ := h
      obtain ⟨xs, rfl, hxl, hxb⟩ := trod_id ht he h1 hn hy
      exact ⟨xs, ⟨hxl, hxb⟩, fun j u hu => cells_at hcs j u hu (by have := (List.getElem?_eq_some_iff.1 hu).1; rwa [cellsB_len, hxl] at this)⟩)
    exact ⟨xs, some a, cap, by rw [hl], by rw [hl]; exact hr, hg⟩
theorem one_of {l : List Value} {i : Nat} (h : i < l.length) : (l.drop i).take 1 = [l[i]] := by
  rw [List.drop_eq_getElem_cons h]; rfl
theorem open_ents {ts ti tn : TypeId} {f0 f1 : Field} (hs : P.underlying ts = some (.slice t)) (ht : P.underlying t = some (.struct #[f0, f1])) (g0 : f0.type = tn ∧ f0.offset = 0) (g1 : f1.type = ti ∧ f1.offset = 1) (hN : P.underlying tn = some .string) (cN : P.cellsOf tn = 1) (hi : P.underlying ti = some (.array 32 e)) (he : P.underlying e = some (.int .u8)) (h1 : P.cellsOf e = 1) (hn : P.cellsOf ti = 32) (ct : P.cellsOf t = 33) {fuel : Nat} {v : Value} {y : DataW H × List MemPlace}
    (hf : DataW.trod enc P W 0 sp held fuel ts [v] = some y) : ∃ (l : List Ent) (A : Option Addr) (c : Nat), v = .slice A l.length c ∧ RdK W v l.length (cellsE l) ∧ ∀ x ∈ l, Id32 x.id := by
  rcases DataW.trod_slice hs hf with ⟨hc, _⟩ | ⟨a, len, cap, elems, rest, m, _, hc, _, hba, hlc, hcm, hlen, hel, _⟩
  · obtain rfl : v = .slice none 0 0 := by simpa using hc
    exact ⟨[], none, 0, rfl, RdK.nil _ _, fun x h => by cases h⟩
  · obtain rfl : v = .slice (some a) len cap := by simpa using hc
    rw [ct] at hel
    obtain ⟨xs, hl, hg, hr⟩ := rdk_of (W := W) cellsE1 33 (fun x => Id32 x.id) (fun x h => cellsE1_len h) (by omega) a len cap hlc (fun i hi' => by
      have h := hel i hi'
      rw [List.getElem?_eq_getElem (by omega)] at h
      simp only [Option.bind_eq_some_iff] at h
      obtain ⟨cs, hcs, hy⟩ := h
      obtain ⟨y0, y1, m', _, hcl, e0, e1⟩ := trod_struct2 ht hy
      rw [ct] at hcl
      rw [g0.1, g0.2, cN, one_of (by omega)] at e0
      rw [g1.1, g1.2, hn] at e1
      obtain ⟨s, hs, _, _⟩ := DataW.trod_string hN e0
      obtain ⟨xs, hxs, hxl, hxb⟩ := trod_id hi he h1 hn e1
      have hcs2 : cs = cellsE1 ⟨s, xs⟩ := by
        match cs, hcl with
        | c0 :: cs', hcl =>
          have h0 : c0 = .string s := by simpa using hs
          have h2 : cs' = cellsB xs := by
            have : (cs'.take 32) = cellsB xs := by simpa using hxs
            rwa [List.take_of_length_le (by simp at hcl; omega)] at this
          rw [h0, h2]; rfl
      subst hcs2
      exact ⟨⟨s, xs⟩, ⟨hxl, hxb⟩, fun j u hu => cells_at hcs j u hu (by have := (List.getElem?_eq_some_iff.1 hu).1; rwa [cellsE1_len ⟨hxl, hxb⟩] at this)⟩)
    exact ⟨xs, some a, cap, by rw [hl], by rw [hl]; exact hr, hg⟩
end
theorem obj_under : Tryd.prog.underlying 30 = some (.struct (Tryd.prog.fieldsOf 30)) := by kernel_rfl
theorem obj_fields : (Tryd.prog.fieldsOf 30).toList.map (fun f => (f.type, f.offset)) = [(3, 0), (22, 1), (25, 2), (27, 3), (28, 35)] := by kernel_rfl
theorem oent_under : Tryd.prog.underlying 63 = some (.struct (Tryd.prog.fieldsOf 63)) := by kernel_rfl
theorem oent_fields : (Tryd.prog.fieldsOf 63).toList.map (fun f => (f.type, f.offset)) = [(9, 0), (27, 1)] := by kernel_rfl
theorem slice_of {H : Type} {enc : TypeId × Value → H} {P : Program} {W : World} {sp : Nat → Bool} {held : Bool} {t e : TypeId} {fuel : Nat} {v : Value} {y : DataW H × List MemPlace} (hs : P.underlying t = some (.slice e)) (hf : DataW.trod enc P W 0 sp held fuel t [v] = some y) : ∃ A n c, v = .slice A n c := by
  rcases DataW.trod_slice hs hf with ⟨hc, _⟩ | ⟨a, len, cap, _, _, _, _, hc, _⟩
  · exact ⟨none, 0, 0, by simpa using hc⟩
  · exact ⟨some a, len, cap, by simpa using hc⟩
theorem cells36 (L : List Value) (hcl : L.length = 36) (a b c d : Value) (X : List Value) (h0 : L[0] = a) (h1 : L[1] = b) (h2 : L[2] = c) (h3 : (L.drop 3).take 32 = X) (h4 : L[35] = d) : L = a :: b :: c :: (X ++ [d]) := by
  match L, hcl with
  | c0 :: c1 :: c2 :: L', hcl =>
    have hL' : L'.length = 33 := by simp at hcl; omega
    have e0 : c0 = a := h0
    have e1 : c1 = b := h1
    have e2 : c2 = c := h2
    have e3 : L'.take 32 = X := by simpa using h3
    have e4 : L'[32]'(by omega) = d := h4
    have e5 : L' = L'.take 32 ++ [L'[32]'(by omega)] := by
      have h := List.take_append_drop 32 L'
      rw [List.drop_eq_getElem_cons (by omega), List.drop_of_length_le (by omega)] at h
      exact h.symm
    rw [e0, e1, e2]
    rw [e3, e4] at e5
    rw [e5]
theorem open_ob {H : Type} {enc : TypeId × Value → H} {W : World} {held : Bool} {v : Value} {d : DataW H} {ps : List MemPlace}
    (hd : DataW.Trod enc Tryd.prog W 0 (fun _ => true) held 30 v d ps) :
    ∃ (o : Ob) (cs : Array Value) (T : Option Addr) (tc : Nat) (E : Option Addr) (ec : Nat) (Pp : Option Addr) (pc : Nat), v = .agg cs ∧ ObC W o cs T tc E ec Pp pc ∧ o.Fit := by
  obtain ⟨fuel, hf⟩ := hd
  obtain ⟨xs, n, _, _, hl, hlen, hx⟩ := DataW.trod_struct obj_under hf
  have hc36 : Tryd.prog.cellsOf 30 = 36 := by kernel_rfl
  rw [hc36] at hl
  have hv : ∃ cs, v = .agg cs := by
    cases v <;> first | exact ⟨_, rfl⟩ | (exfalso; simp [Value.cells] at hl)
  obtain ⟨cs, rfl⟩ := hv
  have hcl : cs.toList.length = 36 := hl
  have hcells : (Value.agg cs).cells.toList = cs.toList := rfl
  rw [hcells] at hx
  have hF := obj_fields
  have hsz : (Tryd.prog.fieldsOf 30).toList.length = 5 := by have := congrArg List.length hF; simpa using this
  have fld : ∀ i (h : i < 5) t o, [(3, 0), (22, 1), (25, 2), (27, 3), (28, 35)][i]? = some (t, o) → ∃ y, DataW.trod enc Tryd.prog W 0 (fun _ => true) held n t ((cs.toList.drop o).take (Tryd.prog.cellsOf t)) = some y := fun i h t o hq => by
    rw [← hF, List.getElem?_map] at hq
    simp only [Option.map_eq_some_iff] at hq
    obtain ⟨f, hfi, hft⟩ := hq
    have hfi' : (Tryd.prog.fieldsOf 30)[i]? = some f := by simpa using hfi
    have h2 := hx i f hfi'
    injection hft with e1 e2
    rw [e1, e2] at h2
    have h3 : i < xs.length := by rw [hlen, ← Array.length_toList, hsz]; exact h
    exact ⟨xs[i], by rw [h2, List.getElem?_eq_getElem h3]⟩
  obtain ⟨y0, k0⟩ := fld 0 (by omega) _ _ rfl
  obtain ⟨y1, k1⟩ := fld 1 (by omega) _ _ rfl
  obtain ⟨y2, k2⟩ := fld 2 (by omega) _ _ rfl
  obtain ⟨y3, k3⟩ := fld 3 (by omega) _ _ rfl
  obtain ⟨y4, k4⟩ := fld 4 (by omega) _ _ rfl
  rw [show Tryd.prog.cellsOf 3 = 1 by kernel_rfl, one_of (by omega)] at k0
  rw [show Tryd.prog.cellsOf 22 = 1 by kernel_rfl, one_of (by omega)] at k1
  rw [show Tryd.prog.cellsOf 25 = 1 by kernel_rfl, one_of (by omega)] at k2
  rw [show Tryd.prog.cellsOf 27 = 32 by kernel_rfl] at k3
  rw [show Tryd.prog.cellsOf 28 = 1 by kernel_rfl, one_of (by omega)] at k4
  obtain ⟨kd, q0, _, _⟩ := DataW.trod_int Tryd.underlying3 k0
  obtain ⟨tx, rT, bT, _⟩ := rd_of_ints Tryd.underlying22 Tryd.underlying5 (by kernel_rfl) k1
  obtain ⟨fs, hfs⟩ : ∃ f0 f1, Tryd.prog.fieldsOf 63 = #[f0, f1] := by
    have h := congrArg List.length oent_fields
    rw [List.length_map] at h
    match hq : (Tryd.prog.fieldsOf 63).toList, h with
    | [f0, f1], _ => exact ⟨f0, f1, by apply Array.ext'; rw [hq]⟩
  obtain ⟨f1, hfs⟩ := hfs
  have hef := oent_fields
  have heu := oent_under
  rw [hfs] at hef heu
  have hef2 : (fs.type = 9 ∧ fs.offset = 0) ∧ (f1.type = 27 ∧ f1.offset = 1) := by simpa using hef
  obtain ⟨es, EA, ec, vE, rE, gE⟩ := open_ents Tryd.underlying25 heu hef2.1 hef2.2 Tryd.underlying9 (by kernel_rfl) Tryd.underlying27 Tryd.underlying5 (by kernel_rfl) (by kernel_rfl) (by kernel_rfl) k2
  obtain ⟨tg, q3, lT, bG⟩ := trod_id Tryd.underlying27 Tryd.underlying5 (by kernel_rfl) (by kernel_rfl) k3
  obtain ⟨ps', PA, pc, vP, rP, gP⟩ := open_ids Tryd.underlying28 Tryd.underlying27 Tryd.underlying5 (by kernel_rfl) (by kernel_rfl) k4
  have rT2 := rT
  obtain ⟨TA, tc, vT, _, _⟩ := rT2
  refine ⟨⟨kd, tx, es, tg, ps'⟩, cs, TA, tc, EA, ec, PA, pc, rfl, ⟨?_, by rw [← vT]; exact rT, by rw [← vE]; exact rE, by rw [← vP]; exact rP⟩, ⟨bT, gE, ⟨lT, bG⟩, gP⟩⟩
  have h0 : cs.toList[0] = .int .i64 kd := by simpa using q0
  apply Array.ext'
  exact cells36 cs.toList hcl _ _ _ _ _ h0 vT vE q3 vP
end Go.Proofs.YtenodghocenjaaaDoor
