/- The document's own disk: Arm; what is seen (Seen). -/
import Derived.Test.YtpmadlkkldbceaaDoorRef43
namespace Go.Proofs.YtpmadlkkldbceaaDoor
open Go Go.RowKit
theorem own_cells {w : World} {B e n : Nat} {v : Value} {xs : List Value} (h : w.ownsRow B e 1 v n xs) (hn : 0 < n) : ∃ g cap, v = .slice (some ⟨g, 0, none⟩) n cap ∧ g < w.heap.size ∧ (∃ cs, w.heap[g]? = some (.cells cs e (0, 0))) ∧ ∀ (k : Nat) (u : Value), xs[k]? = some u → w.cell? ⟨g, k, none⟩ = some u := by
  rcases h.2 with ⟨_, h0⟩ | ⟨g, cap, cur, rfl, _, hh, _⟩
  · omega
  · refine ⟨g, cap, rfl, (Array.getElem?_eq_some_iff.1 hh).1, ⟨_, hh⟩, fun k u hu => ?_⟩
    have := h.cells (g := g) rfl k u hu
    rwa [Addr.add_mid, Nat.zero_add] at this
namespace Dk
def seenTo (S : D) (i k : Nat) : List Nat := seen { S with pend := S.pend.take k } i
theorem seen_snoc (S : D) (ps : List (Nat × List Nat)) (p : Nat × List Nat) (i : Nat) : seen { S with pend := ps ++ [p] } i = if p.1 = i then p.2 else seen { S with pend := ps } i := by
  unfold seen
  simp only [last_append]
  by_cases h : p.1 = i
  · rw [if_pos (by omega), if_pos h]
    simp
  · rw [if_neg (by omega), if_neg h]
    cases hk : last ps (i : Int) with
    | none => rfl
    | some k =>
      obtain ⟨q, hq, _⟩ := last_some hk
      simp only [List.getElem?_append_left (List.getElem?_eq_some_iff.1 hq).1]
theorem seenTo_step {S : D} {i k : Nat} {p : Nat × List Nat} (hp : S.pend[k]? = some p) : seenTo S i (k + 1) = if p.1 = i then p.2 else seenTo S i k := by
  unfold seenTo
  rw [List.take_add_one, hp]
  exact seen_snoc S _ p i
theorem seenTo_all (S : D) (i : Nat) : seenTo S i S.pend.length = seen S i := by unfold seenTo; rw [List.take_length]
theorem seenTo_zero (S : D) (i : Nat) : seenTo S i 0 = S.safe i := rfl
end Dk
section
variable {B BB : Nat} {r : Nat} {S : Dk.D} {vS vA vB : Value} {us ub : List Value}
theorem refarm_neg (n : Int) (w : World) (hn : n < 0) :
    Calls Tryd.prog 17 #[.pointer (some ⟨r, 0, none⟩), .int .i64 n] w fun e w' => e = .returned (.int .i64 1) ∧ w = w' := by
  go_enter Tryd.func17, Tryd.ntmps17
  go_wp2
  go_ret
  exact ⟨rfl, rfl⟩
theorem refarm_off (n : Int) (w : World) (h : RefAt B BB w r S vS vA vB us ub) (hn : 0 ≤ n) (ho : S.off = true) :
    Calls Tryd.prog 17 #[.pointer (some ⟨r, 0, none⟩), .int .i64 n] w fun e w' => e = .returned (.int .i64 16) ∧ w = w' := by
  have p4 : w.cell? ⟨r, 4, none⟩ = some (.bool true) := by have := h.blk.cell 4; rw [ho] at this; exact this
  have i0 : ¬ n < 0 := by omega
  clear h ho
  go_enter Tryd.func17, Tryd.ntmps17
  go_wp2
  go_ret
  exact ⟨rfl, rfl⟩
theorem refarm_ok (n : Nat) (w : World) (h : RefAt B BB w r S vS vA vB us ub) (ho : S.off = false) (hn : n ≤ 9223372036854775807) :
    Calls Tryd.prog 17 #[.pointer (some ⟨r, 0, none⟩), .int .i64 (n : Int)] w fun e w' => e = .returned (.int .i64 0) ∧ RefAt B BB w' r { S with armed := true, left := n } vS vA vB us ub ∧ w.grownBy w' (some r) := by
  have p4 : w.cell? ⟨r, 4, none⟩ = some (.bool false) := by have := h.blk.cell 4; rw [ho] at this; exact this
  have p3 : w.cell? ⟨r, 3, none⟩ = some (.int .i64 (Dk.lf S)) := h.blk.cell 3
  have z3 := h.blk.frozen 3
  have i0 : ¬ (n : Int) < 0 := by omega
  have HG : Hid (w.grownBy (w.setCell ⟨r, 3, none⟩ (.int .i64 (n : Int))) (some r)) := Lib.hid (set_own 3 _)
  have H : Hid (RefAt B BB (w.setCell ⟨r, 3, none⟩ (.int .i64 (n : Int))) r { S with armed := true, left := n } vS vA vB us ub) := Lib.hid (h.box rfl rfl rfl hn h.ok.deeds (h.blk.set_ 3 _) HG.out)
  clear h ho hn
  go_enter Tryd.func17, Tryd.ntmps17
  go_wp2
  go_ret
  exact ⟨rfl, H.out, HG.out⟩
set_option maxRecDepth 100000 in
theorem refseen_any (i : Nat) (w : World) (h : RefAt B BB w r S vS vA vB us ub) (hi : i < S.size) :
    Calls Tryd.prog 37 #[.pointer (some ⟨r, 0, none⟩), .int .i64 (i : Int)] w fun e w' => ∃ u, e = .returned u ∧ Sec B w u (Dk.seen S i) ∧ w = w' := by
  obtain ⟨gS, capS, eS, _, _, hS⟩ := own_cells h.rowS (by omega)
  obtain ⟨u0, hu0, hs0⟩ := h.secS i hi
  have p0 : w.cell? ⟨r, 0, none⟩ = some vS := h.blk.cell 0
  have p1 : w.cell? ⟨r, 1, none⟩ = some vA := h.blk.cell 1
  have p2 : w.cell? ⟨r, 2, none⟩ = some vB := h.blk.cell 2
  have q0 := hS i u0 hu0
  subst eS
  obtain ⟨AA, cA, rfl⟩ := row_slice h.rowA
  obtain ⟨AB, cB, rfl⟩ := row_slice h.rowB
  have H := Lib.hid h
  have HU : Hid (Sec B w u0 (Dk.seenTo S i 0)) := Lib.hid hs0
  have i1 : (0 : Int) ≤ (i : Int) := by omega
  have i2 : (i : Int) < (S.size : Int) := by omega
  have hfew := h.ok.few
  clear h hS hu0 hs0 hi
  go_enter Tryd.func37, Tryd.ntmps37
  go_wp2
  go_loopw [5, 20] (fun u j wr => ∃ k : Nat, k ≤ S.pend.length ∧ j = .int .i64 k ∧ Hid (Sec B w u (Dk.seenTo S i k)) ∧ wr = w) (fun _ j _ => S.pend.length - (intOf j).toNat)
  case atStart => exact ⟨0, Nat.zero_le _, rfl, HU, rfl⟩
  case round =>
    obtain ⟨k, hk, rfl, HK, hwr⟩ := hrel
    subst hwr
    by_cases hlt : k < S.pend.length
    · obtain ⟨p, hp⟩ : ∃ p, S.pend[k]? = some p := ⟨S.pend[k]'hlt, List.getElem?_eq_getElem _⟩
      obtain ⟨gA, capA, eA, _, _, hA⟩ := own_cells H.out.rowA (by omega)
      obtain ⟨gB, capB, eB, _, _, hB⟩ := own_cells H.out.rowB (by omega)
      injection eA with eA1 _ eA2
      injection eB with eB1 _ eB2
      subst eA1 eB1
      obtain ⟨u1, hu1, hs1⟩ := H.out.secB k p hp
      have qA : wr.cell? ⟨gA, k, none⟩ = some (.int .i64 (p.1 : Int)) := hA k _ (by simp [atCells, hp])
      have qB := hB k u1 hu1
      have i3 : ((k : Nat) : Int) < S.pend.length := by omega
      have i4 : (0 : Int) ≤ ((k : Nat) : Int) := by omega
      have HST := Lib.hid (Dk.seenTo_step (i := i) hp)
      have HS1 := Lib.hid hs1
      have HLT := Lib.hid hlt
      clear hp hA hB hu1 hs1 hlt hk
      by_cases he : p.1 = i
      · have b1 : (((p.1 : Nat) : Int) == (i : Int)) = true := by rw [he]; simp
        have HS2 : Hid (Sec B _ u1 (Dk.seenTo S i (k + 1))) := Lib.hid (by rw [HST.out, if_pos he]; exact HS1.out)
        clear he
        go_wp2
        exact ⟨⟨k + 1, HLT.out, by simp, HS2, trivial⟩, by have := HLT.out; simp [intOf]; omega⟩
      · have b1 : (((p.1 : Nat) : Int) == (i : Int)) = false := beq_false_of_ne (by omega)
        have HS2 : Hid (Sec B _ _ (Dk.seenTo S i (k + 1))) := Lib.hid (by rw [HST.out, if_neg he]; exact HK.out)
        clear he
        go_wp2
        exact ⟨⟨k + 1, HLT.out, by simp, HS2, trivial⟩, by have := HLT.out; simp [intOf]; omega⟩
    · obtain rfl : k = S.pend.length := by omega
      have i3 : ¬ ((S.pend.length : Nat) : Int) < S.pend.length := by omega
      go_wp2
      go_ret
      exact ⟨_, rfl, by rw [← Dk.seenTo_all]; exact HK.out, rfl⟩
end
end Go.Proofs.YtpmadlkkldbceaaDoor
