/- Arguments of laws, opened: objects. -/
import Derived.Test.YtlodalppnglclaaDoorMShaSums
import Derived.Test.YtlodalppnglclaaDoorMLawOpenBs
import Derived.Test.YtlodalppnglclaaDoorMOct14s
import Derived.Test.YtlodalppnglclaaDoorMCl23s
import Derived.Deep.Strs
namespace Go.Proofs.YtlodalppnglclaaDoor
open Go Go.RowKit Go.WideShapes Go.ChangeShapes
section
variable {H : Type} {enc : TypeId × Value → H} {P : Program} {W : World} {base : Nat} {sp : Nat → Bool} {held : Bool} {t e : TypeId} {n : Nat}
theorem mapM_cellsK {w : World} {a : Addr} : ∀ (L : List Nat) (cs : List Value), L.mapM (fun i => w.cell? (a.add i)) = some cs → ∀ j, j < L.length → ∃ v, cs[j]? = some v ∧ w.cell? (a.add (L.getD j 0)) = some v
  | [], _, _, j, hj => by simp at hj
  | i :: L, cs, h, j, hj => by
    rw [List.mapM_cons] at h
    simp only [bind, Option.bind_eq_some_iff, pure, Option.some.injEq] at h
    obtain ⟨y, hy, ys, hys, rfl⟩ := h
    cases j with
    | zero => exact ⟨y, rfl, by simpa using hy⟩
    | succ j =>
      obtain ⟨v, h1, h2⟩ := mapM_cellsK L ys hys j (by simpa using hj)
      exact ⟨v, by simpa using h1, by simpa using h2⟩

/-- Elements of k cells each that were read one by one. -/
theorem rdk_of {α : Type} (f : α → List Value) (k : Nat) (good : α → Prop) (hk : ∀ x, good x → (f x).length = k) (hk0 : 0 < k) (a : Addr) (len cap : Nat) (hl : len ≤ cap)
    (hx : ∀ i, i < len → ∃ x, good x ∧ ∀ j u, (f x)[j]? = some u → W.cell? ((a.add (i * k)).add j) = some u) :
    ∃ xs : List α, xs.length = len ∧ (∀ x ∈ xs, good x) ∧ RdK W (.slice (some a) len cap) len (xs.flatMap f) := by
  let g : Fin len → α := fun i => Classical.choose (hx i.1 i.2)
  have hg : ∀ i : Fin len, good (g i) ∧ ∀ j u, (f (g i))[j]? = some u → W.cell? ((a.add (i.1 * k)).add j) = some u := fun i => Classical.choose_spec (hx i.1 i.2)
  have hl2 : (List.ofFn g).length = len := List.length_ofFn
  have hgood : ∀ x ∈ List.ofFn g, good x := fun x hm => by
    obtain ⟨i, hi, rfl⟩ := List.mem_iff_getElem.1 hm
    rw [List.getElem_ofFn]
    exact (hg _).1
  have hfl := fun x hm => hk x (hgood x hm)
  refine ⟨List.ofFn g, hl2, hgood, some a, cap, rfl, hl, fun h0 => ?_⟩
  obtain ⟨b, o, s⟩ := a
  have hz := hg ⟨0, h0⟩
  have hc0 := hz.2 0 ((f (g ⟨0, h0⟩))[0]'(by rw [hk _ hz.1]; exact hk0)) (List.getElem?_eq_getElem _)
  have e0 : ((⟨b, o, s⟩ : Addr).add (0 * k)).add 0 = ⟨b, o, s⟩ := by simp [Addr.add]
  rw [e0] at hc0
  obtain rfl := spot_free hc0
  refine ⟨b, o, rfl, block_lt_of_cell hc0, fun j u hu => ?_⟩
  have hj : j < len * k := by
    have h := (List.getElem?_eq_some_iff.1 hu).1
    rwa [flat_len f k _ hfl, hl2] at h
  have hi : j / k < len := Nat.div_lt_of_lt_mul (by rw [Nat.mul_comm]; exact hj)
  have hm : j % k < k := Nat.mod_lt _ hk0
  have hjj : k * (j / k) + j % k = j := Nat.div_add_mod j k
  have hget := flat_get f k (List.ofFn g) hfl (j / k) (by rw [hl2]; exact hi) (j % k) hm
  rw [hjj, hu, List.getElem_ofFn] at hget
  have h := (hg ⟨j / k, hi⟩).2 (j % k) u hget.symm
  rw [Addr.add_mid, Addr.add_mid] at h
  rw [show o + j = o + j / k * k + j % k by rw [Nat.mul_comm]; omega]
  exact h
theorem cells_at {w : World} {a : Addr} {n : Nat} {cs : List Value} (h : w.cells? 0 a n = some cs) : ∀ j u, cs[j]? = some u → j < n → w.cell? (a.add j) = some u := fun j u hu hj => by
  unfold World.cells? at h
  split at h
  · obtain ⟨u', h1, h2⟩ := mapM_cellsK _ _ h j (by simpa using hj)
    rw [hu] at h1
    obtain rfl := Option.some.inj h1
    have e : (List.range n).getD j 0 = j := by simp [List.getD, hj]
    rwa [e] at h2
  · cases h
theorem one_of {l : List Value} {i : Nat} (h : i < l.length) : (l.drop i).take 1 = [l[i]] := by
  rw [List.drop_eq_getElem_cons h]; rfl
end
end Go.Proofs.YtlodalppnglclaaDoor
/- Arguments of laws, opened: rows of links. -/
namespace Go.Proofs.YtlodalppnglclaaDoor
open Go Go.RowKit Go.WideShapes Go.ChangeShapes Go.Deep
theorem link_under : Tryd.prog.underlying 76 = some (.struct (Tryd.prog.fieldsOf 76)) := by kernel_rfl
theorem link_fields : (Tryd.prog.fieldsOf 76).toList.map (fun f => (f.type, f.offset)) = [(3, 0), (74, 1), (5, 2)] := by kernel_rfl
theorem three_of {L : List Value} (h : L.length = 3) {a b c : Value} (h0 : L[0] = a) (h1 : L[1] = b) (h2 : L[2] = c) : L = [a, b, c] := by
  match L, h with
  | [x, y, z], _ =>
    have e0 : x = a := h0
    have e1 : y = b := h1
    have e2 : z = c := h2
    rw [e0, e1, e2]
def LkGood (W : World) (l : Cl.Lk) : Prop := l.n = l.to.length ∧ l.text < 256 ∧ l.n ≤ 9223372036854775807 ∧ (0 < l.n → ∃ b o, l.A = some ⟨b, o, none⟩ ∧ b < W.heap.size ∧ ∀ j z, l.to[j]? = some z → W.cell? ⟨b, o + j, none⟩ = some (.int .i64 z))
theorem open_irow2 {H : Type} {enc : TypeId × Value → H} {W : World} {held : Bool} {fuel : Nat} {v : Value} {y : DataW H × List MemPlace}
    (hf : DataW.trod enc Tryd.prog W 0 (fun _ => true) held fuel 74 [v] = some y) : ∃ (ns : List Int) (A : Option Addr) (n c : Nat), v = .slice A n c ∧ n = ns.length ∧ n ≤ 9223372036854775807 ∧ (0 < n → ∃ b o, A = some ⟨b, o, none⟩ ∧ b < W.heap.size ∧ ∀ j z, ns[j]? = some z → W.cell? ⟨b, o + j, none⟩ = some (.int .i64 z)) := by
  rcases open_ints Tryd.underlying74 Tryd.underlying3 (by kernel_rfl) hf with ⟨h0, _⟩ | ⟨a, len, cap, zs, h0, _, hl, hm, hz, _, hx, hw⟩
  · obtain rfl : v = .slice none 0 0 := by simpa using h0
    exact ⟨[], none, 0, 0, rfl, rfl, by omega, fun h => absurd h (by omega)⟩
  · obtain rfl : v = .slice (some a) len cap := by simpa using h0
    simp only [if_true] at hz
    have hl1 : (zs.take len).length = len := by rw [List.length_take]; omega
    refine ⟨zs.take len, some a, len, cap, rfl, hl1.symm, by unfold maxLen at hm; omega, fun hi => ?_⟩
    obtain ⟨b, o, s⟩ := a
    have hc0 := hx 0 (by omega)
    rw [show (⟨b, o, s⟩ : Addr).add 0 = ⟨b, o, s⟩ from by simp [Addr.add]] at hc0
    obtain rfl := spot_free hc0
    refine ⟨b, o, rfl, block_lt_of_cell hc0, fun j z hj => ?_⟩
    have hjl : j < len := by have := (List.getElem?_eq_some_iff.1 hj).1; rw [hl1] at this; exact this
    have e1 := hx j (by omega)
    rw [show (⟨b, o, none⟩ : Addr).add j = ⟨b, o + j, none⟩ from by simp [Addr.add]] at e1
    rw [e1]
    rw [List.getElem?_take, if_pos hjl] at hj
    rw [List.getD_eq_getElem?_getD, hj]
    rfl
set_option maxRecDepth 100000 in
theorem open_lks {H : Type} {enc : TypeId × Value → H} {W : World} {held : Bool} {r : Reach} {b0 : Nat} {v : Value} {d : DataW H} {ps : List MemPlace} (hval : Value.okWide Tryd.prog W r b0 33 v)
    (hd : DataW.Trod enc Tryd.prog W 0 (fun _ => true) held 33 v d ps) : ∃ (A : Option Addr) (n c : Nat) (ls : List Cl.Lk), v = .slice A n c ∧ LkT W A n ls := by
  obtain ⟨fuel, hf⟩ := hd
  rw [slice_cells Tryd.underlying33 hval] at hf
  rcases DataW.trod_slice Tryd.underlying33 hf with ⟨hc, _⟩ | ⟨a, len, cap, elems, rest, m, _, hc, _, hba, hlc, hcm, hlen, hel, _⟩
  · obtain rfl : v = .slice none 0 0 := by simpa using hc
    exact ⟨none, 0, 0, [], rfl, ⟨rfl, fun h => absurd h (by omega), fun l hl => (by cases hl)⟩⟩
  · obtain rfl : v = .slice (some a) len cap := by simpa using hc
    obtain ⟨f0, f1, f2, hfs⟩ : ∃ f0 f1 f2, Tryd.prog.fieldsOf 76 = #[f0, f1, f2] := by
      have h := congrArg List.length link_fields
      rw [List.length_map] at h
      match hq : (Tryd.prog.fieldsOf 76).toList, h with
      | [f0, f1, f2], _ => exact ⟨f0, f1, f2, by apply Array.ext'; rw [hq]⟩
    have hlf := link_fields
    have hlu := link_under
    rw [hfs] at hlf hlu
    have hlf2 : (f0.type = 3 ∧ f0.offset = 0) ∧ (f1.type = 74 ∧ f1.offset = 1) ∧ (f2.type = 5 ∧ f2.offset = 2) := by simpa using hlf
    rw [show Tryd.prog.cellsOf 76 = 3 by kernel_rfl] at hel
    obtain ⟨xs, hl, hg, hr⟩ := rdk_of (W := W) lkC 3 (LkGood W) (fun x _ => rfl) (by omega) a len cap hlc (fun i hi => by
      have h := hel i hi
      rw [List.getElem?_eq_getElem (by omega)] at h
      simp only [Option.bind_eq_some_iff] at h
      obtain ⟨cs, hcs, hy⟩ := h
      obtain ⟨y0, y1, y2, m', _, hcl, e0, e1, e2⟩ := trod_struct3 hlu hy
      rw [show Tryd.prog.cellsOf 76 = 3 by kernel_rfl] at hcl
      rw [hlf2.1.1, hlf2.1.2, show Tryd.prog.cellsOf 3 = 1 by kernel_rfl, one_of (by omega)] at e0
      rw [hlf2.2.1.1, hlf2.2.1.2, show Tryd.prog.cellsOf 74 = 1 by kernel_rfl, one_of (by omega)] at e1
      rw [hlf2.2.2.1, hlf2.2.2.2, show Tryd.prog.cellsOf 5 = 1 by kernel_rfl, one_of (by omega)] at e2
      obtain ⟨kd, q0, _, _⟩ := DataW.trod_int Tryd.underlying3 e0
      obtain ⟨ns, A, n, c, q1, q2, q3, q4⟩ := open_irow2 e1
      obtain ⟨tx, q5, _, q6⟩ := DataW.trod_int Tryd.underlying5 e2
      have hb : 0 ≤ tx ∧ tx ≤ 255 := by
        have h : (Lit.int .u8 tx).wf = true := by first | exact q6 | simpa using q6
        have h2 : (decide ((0 : Int) ≤ tx) && decide (tx ≤ 255)) = true := h
        simpa using h2
      refine ⟨⟨kd, A, n, c, ns, tx.toNat⟩, ⟨q2, by show tx.toNat < 256; omega, q3, q4⟩, fun j u hu => ?_⟩
      have e3 : cs = lkC ⟨kd, A, n, c, ns, tx.toNat⟩ := three_of hcl (by simpa using q0) q1 (by
        have h5 : cs[2] = .int .u8 tx := by simpa using q5
        rw [h5, show ((tx.toNat : Nat) : Int) = tx by omega])
      rw [← e3] at hu
      exact cells_at hcs j u hu (by have := (List.getElem?_eq_some_iff.1 hu).1; omega))
    obtain ⟨A', c', hv', _, hA⟩ := hr
    injection hv' with e1 e2 e3
    refine ⟨some a, len, cap, xs, rfl, ⟨hl.symm, fun h0 => ?_, fun l hl => hg l hl⟩⟩
    obtain ⟨b, o, ha, hb, hx⟩ := hA h0
    refine ⟨b, o, e1.trans ha, hb, fun i l hi j u hu => ?_⟩
    have hil := (List.getElem?_eq_some_iff.1 hi).1
    have hj : j < 3 := (List.getElem?_eq_some_iff.1 hu).1
    have h := hx (3 * i + j) u (by
      rw [flat_get lkC 3 xs (fun _ _ => rfl) i hil j hj]
      rw [(List.getElem?_eq_some_iff.1 hi).2]; exact hu)
    rw [show o + i * 3 + j = o + (3 * i + j) by omega]
    exact h
end Go.Proofs.YtlodalppnglclaaDoor
