/- Arguments of laws, opened: slices of fields. -/
import Derived.Test.YtedlfafbehhkdaaDoorLawOpenB
import Derived.Test.YtedlfafbehhkdaaDoorOct5
namespace Go.Proofs.YtedlfafbehhkdaaDoor
open Go Go.RowKit Go.WideShapes Go.ChangeShapes Go.Deep
section
variable {H : Type} {enc : TypeId × Value → H} {P : Program} {W : World} {held : Bool} {ts t tI tS q : TypeId} {f0 f1 : Field}
theorem mapM_cellsF {w : World} {a : Addr} : ∀ (L : List Nat) (cs : List Value), L.mapM (fun i => w.cell? (a.add i)) = some cs → ∀ j, j < L.length → ∃ v, cs[j]? = some v ∧ w.cell? (a.add (L.getD j 0)) = some v
  | [], _, _, j, hj => by simp at hj
  | i :: L, cs, h, j, hj => by
    rw [List.mapM_cons] at h
    simp only [bind, Option.bind_eq_some_iff, pure, Option.some.injEq] at h
    obtain ⟨y, hy, ys, hys, rfl⟩ := h
    cases j with
    | zero => exact ⟨y, rfl, by simpa using hy⟩
    | succ j =>
      obtain ⟨v, h1, h2⟩ := mapM_cellsF L ys hys j (by simpa using hj)
      exact ⟨v, by simpa using h1, by simpa using h2⟩
theorem open_flds (hs : P.underlying ts = some (.slice t)) (ht : P.underlying t = some (.struct #[f0, f1])) (g0 : f0.type = tI ∧ f0.offset = 0) (g1 : f1.type = tS ∧ f1.offset = 1) (hI : P.underlying tI = some (.int .i64)) (hS : P.underlying tS = some (.slice q)) (hq : P.underlying q = some (.int .u8))
    (cI : P.cellsOf tI = 1) (cS : P.cellsOf tS = 1) (cq : P.cellsOf q = 1) (ct : P.cellsOf t = 2) {r : Reach} {b0 : Nat} {v : Value} {d : DataW H} {ps : List MemPlace} (h0 : 0 < W.heap.size)
    (hval : Value.okWide P W r b0 ts v) (hd : DataW.Trod enc P W 0 (fun _ => true) held ts v d ps) : ∃ (A : Option Addr) (b o cap : Nat) (fs : List Fld), v = .slice A fs.length cap ∧ (0 < fs.length → A = some ⟨b, o, none⟩) ∧ FRow W b o fs ∧ ∀ f ∈ fs, Sha.Byte f.bs := by
  obtain ⟨fuel, hf⟩ := hd
  rw [slice_cells hs hval] at hf
  rcases DataW.trod_slice hs hf with ⟨hc, _⟩ | ⟨a, len, cap, elems, rest, m, _, hc, _, hba, hlc, hcm, hlen, hel, _⟩
  · obtain rfl : v = .slice none 0 0 := by simpa using hc
    exact ⟨none, 0, 0, 0, [], rfl, fun h => absurd h (by simp), ⟨fun i hi => absurd hi (by simp), fun i hi => absurd hi (by simp), fun f hf => (by cases hf), h0⟩, fun f hf => by cases hf⟩
  · obtain rfl : v = .slice (some a) len cap := by simpa using hc
    rw [ct] at hel
    have hx : ∀ i, i < len → ∃ f : Fld, W.cell? (a.add (i * 2)) = some (.int .i64 f.n) ∧ W.cell? ((a.add (i * 2)).add 1) = some (.slice f.A f.l f.c) ∧ Rd W (.slice f.A f.l f.c) f.bs ∧ f.bs.length = f.l ∧ Sha.Byte f.bs := fun i hi => by
      have h := hel i hi
      rw [List.getElem?_eq_getElem (by omega)] at h
      simp only [Option.bind_eq_some_iff] at h
      obtain ⟨cs, hcs, hy⟩ := h
      obtain ⟨y0, y1, m', _, hcl, e0, e1⟩ := trod_struct2 ht hy
      rw [ct] at hcl
      rw [g0.1, g0.2, cI] at e0
      rw [g1.1, g1.2, cS] at e1
      match cs, hcl with
      | [c0, c1], _ =>
        have e0' : DataW.trod enc P W 0 (fun _ => true) held m' tI [c0] = some y0 := e0
        have e1' : DataW.trod enc P W 0 (fun _ => true) held m' tS [c1] = some y1 := e1
        obtain ⟨z, ez, _, _⟩ := DataW.trod_int hI e0'
        obtain ⟨xs, hr, hbx, _⟩ := rd_of_ints hS hq cq e1'
        injection ez with ez _
        subst ez
        have hr2 := hr
        obtain ⟨A, c, rfl, _, _⟩ := hr2
        unfold World.cells? at hcs
        split at hcs
        · obtain ⟨u0, k1, k2⟩ := mapM_cellsF _ _ hcs 0 (by simp)
          obtain ⟨u1, k3, k4⟩ := mapM_cellsF _ _ hcs 1 (by simp)
          obtain rfl := Option.some.inj k1
          obtain rfl := Option.some.inj k3
          have n0 : (a.add (i * 2)).add ((List.range 2).getD 0 0) = a.add (i * 2) := by simp [Addr.add]
          rw [n0] at k2
          exact ⟨⟨z, A, xs.length, c, xs⟩, k2, k4, hr, rfl, hbx⟩
        · cases hcs
    let g : Nat → Fld := fun i => if h : i < len then Classical.choose (hx i h) else ⟨0, none, 0, 0, []⟩
    have hg : ∀ i, i < len → W.cell? (a.add (i * 2)) = some (.int .i64 (g i).n) ∧ W.cell? ((a.add (i * 2)).add 1) = some (.slice (g i).A (g i).l (g i).c) ∧ Rd W (.slice (g i).A (g i).l (g i).c) (g i).bs ∧ (g i).bs.length = (g i).l ∧ Sha.Byte (g i).bs := fun i hi => by
      have : g i = Classical.choose (hx i hi) := by simp only [g, hi, dif_pos]
      rw [this]; exact Classical.choose_spec (hx i hi)
    have hlen2 : ((List.range len).map g).length = len := by simp
    have hget : ∀ i (hi : i < ((List.range len).map g).length), ((List.range len).map g)[i] = g i := fun i hi => by simp
    rcases Nat.eq_zero_or_pos len with rfl | hpos
    · exact ⟨some a, 0, 0, cap, [], rfl, fun h => absurd h (by simp), ⟨fun i hi => absurd hi (by simp), fun i hi => absurd hi (by simp), fun f hf => (by cases hf), h0⟩, fun f hf => by cases hf⟩
    obtain ⟨b, o, s⟩ := a
    have hc0 := (hg 0 hpos).1
    rw [show (⟨b, o, s⟩ : Addr).add (0 * 2) = ⟨b, o, s⟩ from by simp [Addr.add]] at hc0
    obtain rfl := spot_free hc0
    refine ⟨some ⟨b, o, none⟩, b, o, cap, (List.range len).map g, by rw [hlen2], fun _ => rfl, ⟨fun i hi => ?_, fun i hi => ?_, fun f hf => ?_, block_lt_of_cell hc0⟩, fun f hf => ?_⟩
    · rw [hget i hi]
      have k := (hg i (by omega)).1
      rw [Addr.add_mid] at k
      rw [Nat.mul_comm 2 i]; exact k
    · rw [hget i hi]
      have k := (hg i (by omega)).2.1
      rw [Addr.add_mid, Addr.add_mid] at k
      rw [Nat.mul_comm 2 i]; exact k
    · obtain ⟨i, hi, rfl⟩ := List.mem_map.1 hf
      have hi := List.mem_range.1 hi
      exact ⟨(hg i hi).2.2.1, (hg i hi).2.2.2.1⟩
    · obtain ⟨i, hi, rfl⟩ := List.mem_map.1 hf
      have hi := List.mem_range.1 hi
      exact (hg i hi).2.2.2.2
end
end Go.Proofs.YtedlfafbehhkdaaDoor
