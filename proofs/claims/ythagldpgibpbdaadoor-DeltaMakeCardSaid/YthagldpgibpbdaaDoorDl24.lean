/- Bytes that are appended to and cut at their front; two lists of bytes of the call's own beside one another. -/
import Derived.Test.YthagldpgibpbdaaDoorDl23
import Derived.Deep.AppendLies
import Derived.Lib.SlFresh
namespace Go.Proofs.YthagldpgibpbdaaDoor
open Go Go.RowKit Go.Shelf
/-- bytes of the call's own that lie from some place of their block on -/
def FrO (w : World) (B : Nat) (v : Value) (xs : List Nat) : Prop :=
  ∃ g k cap cur, v = .slice (some ⟨g, k, none⟩) xs.length cap ∧ B ≤ g ∧ w.heap[g]? = some (.cells cur 5 (0, 0)) ∧ xs.length ≤ cap ∧ cap ≤ maxLen ∧ k + cap ≤ cur.size ∧ (cur.toList.drop k).take xs.length = cellsB xs
theorem cells_at {cur : Array Value} {k n : Nat} {xs : List Nat} (h : (cur.toList.drop k).take n = cellsB xs) (hn : n = xs.length) {i : Nat} (hi : i < xs.length) : cur[k + i]? = some (.int .u8 ((xs.getD i 0 : Nat) : Int)) := by
  have h1 := congrArg (fun l => l[i]?) h
  simp only [List.getElem?_take, hn, if_pos hi, List.getElem?_drop] at h1
  rw [show cur[k + i]? = cur.toList[k + i]? by simp, h1]
  exact cellsB_get hi
theorem FrO.rd {w : World} {B : Nat} {v : Value} {xs : List Nat} (h : FrO w B v xs) : Rd w v xs := by
  obtain ⟨g, k, cap, cur, rfl, hB, hg, hc, hm, hs, ht⟩ := h
  refine ⟨_, cap, rfl, hc, fun h0 => ⟨g, k, rfl, (Array.getElem?_eq_some_iff.1 hg).1, fun i hi => ?_⟩⟩
  rw [cell_of_row _ _ _ _ _ _ hg]
  exact cells_at ht rfl hi
theorem FrO.lt {w : World} {B : Nat} {v : Value} {xs : List Nat} (h : FrO w B v xs) : ∃ g, v.ownBlock = some g ∧ B ≤ g ∧ g < w.heap.size := by
  obtain ⟨g, k, cap, cur, rfl, hB, hg, _⟩ := h
  exact ⟨g, rfl, hB, (Array.getElem?_eq_some_iff.1 hg).1⟩
theorem FrO.kept {w w' : World} {B : Nat} {v : Value} {xs : List Nat} {row : Option Nat} (h : FrO w B v xs) (hg : w.grownBy w' row) (hr : v.ownBlock ≠ row) : FrO w' B v xs := by
  obtain ⟨g, k, cap, cur, rfl, hB, hh, r⟩ := h
  exact ⟨g, k, cap, cur, rfl, hB, (hg.block g (Array.getElem?_eq_some_iff.1 hh).1 hr).trans hh, r⟩
theorem FrO.cut {w : World} {B : Nat} {A : Option Addr} {n cap : Nat} {xs : List Nat} (h : FrO w B (.slice A n cap) xs) {k : Nat} (hk : k ≤ xs.length) :
    FrO w B (.slice (if cap = k then A else A.map (·.add k)) (n - k) (cap - k)) (xs.drop k) ∧ (Value.slice (if cap = k then A else A.map (·.add k)) (n - k) (cap - k)).ownBlock = (Value.slice A n cap).ownBlock := by
  obtain ⟨g, o, cap', cur, hv, hB, hg, hc, hm, hs, ht⟩ := h
  injection hv with e1 e2 e3
  subst e1 e2 e3
  by_cases hck : cap = k
  · rw [if_pos hck]
    have hx : xs.length = k := by omega
    refine ⟨⟨g, o, cap - k, cur, by rw [List.length_drop], hB, hg, by rw [List.length_drop]; omega, by omega, by omega, ?_⟩, rfl⟩
    rw [List.drop_eq_nil_of_le (by omega : xs.length ≤ k)]
    rfl
  · rw [if_neg hck]
    refine ⟨⟨g, o + k, cap - k, cur, by rw [List.length_drop, Option.map_some, Addr.add_mid], hB, hg, by rw [List.length_drop]; omega, by omega, by omega, ?_⟩, by rw [Option.map_some, Addr.add_mid]; rfl⟩
    have h1 := congrArg (List.drop k) ht
    rw [List.drop_take, List.drop_drop] at h1
    rw [List.length_drop, h1]
    simp [cellsB, List.map_drop]
theorem sl_exact (A : Option Addr) (len cap l : Nat) (h1 : l ≤ len) (w : World) : (Instr.slice 22 (.slice A len cap) (some (.int .i64 (l : Int))) none none).run Tryd.prog w = .ok (.slice (if cap = l then A else A.map (·.add l)) (len - l) (cap - l)) w := by
  cases hq : Tryd.prog.info? 5 with
  | none => have h : (Tryd.prog.info? 5).map (·.size) = some 1 := by kernel_rfl
            simp [hq] at h
  | some i =>
    have hs : i.size = 1 := by have h : (Tryd.prog.info? 5).map (·.size) = some 1 := by kernel_rfl
                               simpa [hq] using h
    have hn : ((l : Nat) : Int) ≤ len := by omega
    cases A <;> by_cases hc : cap = l <;> simp [Instr.slice, run_underlying Tryd.underlying22, Instr.sliceBounds, run_sliceBound, sizeOf, typeInfo, hq, hs, hn, hc]
/-- one byte more -/
theorem fr_append1 {w : World} {B : Nat} {v : Value} {xs : List Nat} (h : FrO w B v xs) (hB : B ≤ w.heap.size) (hx : xs.length ≤ 1000) (ty : TypeId) (ad : Addr) (c y : Nat) (hy : w.cell? ad = some (.int .u8 (y : Int))) :
    ∃ v' w', (Builtin.append_ #[22, 22] ty #[v, .slice (some ad) 1 c]).run Tryd.prog w = .ok v' w' ∧ FrO w' B v' (xs ++ [y]) ∧ (v'.ownBlock = v.ownBlock ∨ v'.ownBlock = some w.heap.size) ∧ w.grownBy w' v.ownBlock := by
  obtain ⟨g, k, cap, cur, rfl, hBg, hg, hc, hm, hs, ht⟩ := h
  obtain ⟨i0, hi0, hiz, his, hib⟩ := info_parts byte_info
  have hnews : ∀ j u, [Value.int .u8 (y : Int)][j]? = some u → w.cell? (ad.add j) = some u := fun j u hj => by
    cases j with
    | zero => simp at hj; subst hj; rw [show ad.add 0 = ad from rfl, hy]
    | succ j => simp at hj
  have hxl : (cellsB xs).length = xs.length := cellsB_len xs
  have hcB : cellsB (xs ++ [y]) = cellsB xs ++ [.int .u8 (y : Int)] := by simp [cellsB]
  by_cases hroom : xs.length + 1 ≤ cap
  · have hfit : (k + xs.length) + 0 + [Value.int .u8 (y : Int)].length ≤ cur.size := by simp; omega
    have hst := run_storeCells_at Tryd.prog g (k + xs.length) 5 [.int .u8 (y : Int)] 0 cur w hg hfit (by simp [Value.oneCell'])
    have hf := run_firstCells_some (P := Tryd.prog) w i0.size 1 ad 1 c [.int .u8 (y : Int)] (by simp [his]) hnews
    refine ⟨.slice (some ⟨g, k, none⟩) (xs.length + 1) cap, _, ?_, ⟨g, k, cap, _, by rw [List.length_append]; rfl, hBg, setRow_heap w g cur ((cur.toList.take (k + xs.length) ++ [Value.int .u8 (y : Int)] ++ cur.toList.drop (k + xs.length + 1)).toArray) _ _ hg, by simp; omega, hm, ?_, ?_⟩, .inl rfl, ⟨rfl, rfl, rfl, by simp, fun j _ hj => setRow_other w g j _ (fun e => hj (by simp [Value.ownBlock, e]))⟩⟩
    · simp only [Nat.add_zero, List.length_cons, List.length_nil, Nat.zero_add] at hst
      rw [his] at hf
      simp [Builtin.append_, run_underlying Tryd.underlying22, sizeOf, typeInfo, hi0, his, Builtin.lenOf, hroom, hf, Addr.add_mid, hst]
    · simp only [List.size_toArray, List.length_append, List.length_take, List.length_drop, List.length_cons, List.length_nil, Array.length_toList]
      omega
    · have hl : cur.toList.length = cur.size := Array.length_toList
      have e1 : (cur.toList.take (k + xs.length)).drop k = (cur.toList.drop k).take xs.length := by rw [List.drop_take, Nat.add_sub_cancel_left]
      rw [hcB, List.append_assoc, List.drop_append_of_le_length (by rw [List.length_take]; omega), e1, ht, ← List.append_assoc]
      rw [show (xs ++ [y]).length = (cellsB xs ++ [Value.int .u8 (y : Int)]).length by simp [hxl]]
      exact List.take_left
  · have holds : ∀ j u, (cellsB xs)[j]? = some u → w.cell? ((⟨g, k, none⟩ : Addr).add j) = some u := fun j u hj => by
      have hjl : j < xs.length := by have := (List.getElem?_eq_some_iff.1 hj).1; rwa [cellsB_len] at this
      rw [Addr.add_mid, cell_of_row _ _ _ _ _ _ hg, cells_at ht rfl hjl, ← cellsB_get hjl, hj]
    have hr := run_append_grow (P := Tryd.prog) w 22 ty 5 i0 (.int .u8 0) Tryd.underlying22 hi0 hiz ⟨g, k, none⟩ xs.length cap (cellsB xs) (by rw [hxl, his, Nat.mul_one]) holds ad 1 c [.int .u8 (y : Int)] (by simp [his]) hnews (by omega) (by omega) (growslice_fits (by omega) (by rw [hib]; omega))
    have hge := grownCap_ge w (xs.length + 1) cap 5
    have hcm : grownCap w (xs.length + 1) cap 5 ≤ maxLen := grownCap_le_maxLen w (xs.length + 1) cap 5 (by unfold maxLen; omega)
    refine ⟨_, _, hr, ⟨w.heap.size, 0, _, _, by rw [List.length_append]; rfl, hB, heap_alloc_new w.drew _, by rw [List.length_append]; exact hge, hcm, ?_, ?_⟩, .inr rfl, ⟨rfl, rfl, rfl, by simp, fun j hj _ => Below.heap_alloc w.drew _ j hj⟩⟩
    · simp [size_zeroCells, hxl, Value.cells]
      omega
    · rw [hcB, List.drop_zero]
      simp only [Array.toList_append, List.append_assoc]
      rw [← List.append_assoc, show (xs ++ [y]).length = (cellsB xs ++ [Value.int .u8 (y : Int)]).length by simp [hxl]]
      exact List.take_left
/-- two lists of bytes of the call's own, apart -/
def TwoR (w0 : World) (vo : Value) (ys : List Nat) (vf : Value) (fs : List Nat) (wr : World) : Prop :=
  (wr.ownsRow w0.heap.size 5 1 vo ys.length (cellsB ys) ∧ FrO wr w0.heap.size vf fs) ∧ vo.ownBlock ≠ vf.ownBlock ∧ Below w0.heap.size w0 wr
theorem TwoR.alloc {w0 : World} {vo vf : Value} {ys fs : List Nat} {wr : World} (h : TwoR w0 vo ys vf fs wr) (o : Obj) : TwoR w0 vo ys vf fs (wr.alloc o) :=
  ⟨⟨ownsRow_alloc h.1.1 _, by obtain ⟨g, k, cap, cur, e, hB, hg, r⟩ := h.1.2; exact ⟨g, k, cap, cur, e, hB, (Below.heap_alloc wr o g (Array.getElem?_eq_some_iff.1 hg).1).trans hg, r⟩⟩, h.2.1, h.2.2.alloc h.2.2.size _⟩
theorem TwoR.drewN {w0 : World} {vo vf : Value} {ys fs : List Nat} {wr : World} (h : TwoR w0 vo ys vf fs wr) (m : Nat) : TwoR w0 vo ys vf fs (wr.drewN m) :=
  ⟨⟨h.1.1, h.1.2⟩, h.2.1, below_drewN h.2.2 m⟩
/-- behind an append to the first one -/
theorem TwoR.out {w0 : World} {vo vf : Value} {ys fs ys2 : List Nat} {wr w' : World} {g n cap : Nat} (h : TwoR w0 vo ys vf fs wr) (ho : w'.ownsRow w0.heap.size 5 1 (.slice (some ⟨g, 0, none⟩) n cap) ys2.length (cellsB ys2)) (hg : wr.grownBy w' vo.ownBlock)
    (hb : vo.ownBlock = some g ∨ g = wr.heap.size) : TwoR w0 (.slice (some ⟨g, 0, none⟩) n cap) ys2 vf fs w' := by
  refine ⟨⟨ho, h.1.2.kept hg (Ne.symm h.2.1)⟩, ?_, below_ownB rfl h.2.2 h.1.1 hg⟩
  obtain ⟨gf, e, _, hlt⟩ := h.1.2.lt
  rcases hb with hb | hb
  · rw [show (Value.slice (some ⟨g, 0, none⟩) n cap).ownBlock = some g from rfl, ← hb]; exact h.2.1
  · rw [show (Value.slice (some ⟨g, 0, none⟩) n cap).ownBlock = some g from rfl, e]
    intro e2
    injection e2 with e2
    omega
/-- behind an append to the second one -/
theorem TwoR.fresh {w0 : World} {vo vf vf' : Value} {ys fs fs2 : List Nat} {wr w' : World} (h : TwoR w0 vo ys vf fs wr) (hf : FrO w' w0.heap.size vf' fs2) (hb : vf'.ownBlock = vf.ownBlock ∨ vf'.ownBlock = some wr.heap.size) (hg : wr.grownBy w' vf.ownBlock) :
    TwoR w0 vo ys vf' fs2 w' := by
  refine ⟨⟨h.1.1.kept hg ?_, hf⟩, ?_, ?_⟩
  · rcases h.1.1.2 with ⟨rfl, _⟩ | ⟨g, cap, cur, rfl, _⟩
    · exact .inl rfl
    · exact .inr h.2.1
  · rcases hb with hb | hb
    · rw [hb]; exact h.2.1
    · rw [hb]
      intro e
      have := (h.1.1.lt _ e).2
      omega
  · obtain ⟨gf, e, hB, hlt⟩ := h.1.2.lt
    exact ⟨hg.os.trans h.2.2.os, hg.tape.trans h.2.2.tape, hg.output.trans h.2.2.output, Nat.le_trans h.2.2.size hg.size, fun k hk => (hg.block k (Nat.lt_of_lt_of_le hk h.2.2.size) (fun er => by rw [e] at er; injection er with er; omega)).trans (h.2.2.block k hk)⟩
end Go.Proofs.YthagldpgibpbdaaDoor
