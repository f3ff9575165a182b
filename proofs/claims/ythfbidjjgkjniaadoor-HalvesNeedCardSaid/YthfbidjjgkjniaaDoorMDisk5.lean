/- A disk is written ((*Disk).Write). -/
import Derived.Test.YthfbidjjgkjniaaDoorMDisk4
import Derived.Laws.CopyOwn
import Derived.OrdersHeld
import Derived.StillTailTactics
namespace Go.Proofs.YthfbidjjgkjniaaDoor
open Go Go.RowKit
theorem run_neq_ev (a : Addr) (w : World) : (binOp .neq 27 (ev a) .nilIface).run Tryd.prog w = .ok (.bool true) w := by kernel_rfl
section
variable {B : Nat} {d ms ml c1 c2 : Nat} {S : Dk.D} {v : Value} {fS : Int → Option Value}
theorem write_off (i : Int) (b : Value) (aD : Addr) (w : World) (h : DiskAt B w d S ms ml v c1 c2 fS) (ho : S.off = true) (hD : w.cell? ⟨2, 0, none⟩ = some (ev aD)) :
    Calls Tryd.prog 63 #[.pointer (some ⟨d, 0, none⟩), .int .i64 i, b] w fun e w' => e = .returned (ev aD) ∧ w = w' := by
  have p4 : w.cell? ⟨d, 4, none⟩ = some (.bool true) := by have := h.blk.cell 4; rw [ho] at this; exact this
  clear h ho
  go_enter Tryd.func63, Tryd.ntmps63
  go_wp2
  go_ret
  exact ⟨rfl, rfl⟩
theorem write_no (i : Int) (b : Value) (aR : Addr) (w : World) (h : DiskAt B w d S ms ml v c1 c2 fS) (ho : S.off = false) (hi : ¬ (0 ≤ i ∧ i < S.size)) (hR : w.cell? ⟨0, 0, none⟩ = some (ev aR)) :
    Calls Tryd.prog 63 #[.pointer (some ⟨d, 0, none⟩), .int .i64 i, b] w fun e w' => e = .returned (ev aR) ∧ w = w' := by
  have p4 : w.cell? ⟨d, 4, none⟩ = some (.bool false) := by have := h.blk.cell 4; rw [ho] at this; exact this
  have CH := has_any i false w h (decide_eq_false hi).symm
  clear h ho
  go_enter Tryd.func63, Tryd.ntmps63
  go_wp2_with (go_at_call 78; refine CH.mono ?_; rintro e w' ⟨rfl, rfl⟩)
  go_ret
  exact ⟨rfl, rfl⟩
theorem has_yes (i : Nat) (w : World) (h : DiskAt B w d S ms ml v c1 c2 fS) (hi : i < S.size) : Calls Tryd.prog 78 #[.pointer (some ⟨d, 0, none⟩), .int .i64 (i : Int)] w fun e w' => e = .returned (.bool true) ∧ w = w' :=
  has_any (i : Int) true w h (decide_eq_true (⟨by omega, by omega⟩ : (0 : Int) ≤ (i : Int) ∧ (i : Int) < S.size)).symm
theorem write_long (i : Nat) (A : Option Addr) (n c : Nat) (aL : Addr) (w : World) (h : DiskAt B w d S ms ml v c1 c2 fS) (ho : S.off = false) (hi : i < S.size) (hn : 32 < n) (hL : w.cell? ⟨5, 0, none⟩ = some (ev aL)) :
    Calls Tryd.prog 63 #[.pointer (some ⟨d, 0, none⟩), .int .i64 (i : Int), .slice A n c] w fun e w' => e = .returned (ev aL) ∧ w = w' := by
  have p4 : w.cell? ⟨d, 4, none⟩ = some (.bool false) := by have := h.blk.cell 4; rw [ho] at this; exact this
  have CH := has_yes i w h hi
  have i0 : (32 : Int) < (n : Int) := by omega
  clear h ho
  go_enter Tryd.func63, Tryd.ntmps63
  go_wp2_with (go_at_call 78; refine CH.mono ?_; rintro e w' ⟨rfl, rfl⟩)
  go_ret
  exact ⟨rfl, rfl⟩
theorem write_dead (i : Nat) (A : Option Addr) (n c : Nat) (aD : Addr) (w : World) (h : DiskAt B w d S ms ml v c1 c2 fS) (ho : S.off = false) (hi : i < S.size) (hn : n ≤ 32) (ha : S.armed = true) (hl : S.left = 0) (hD : w.cell? ⟨2, 0, none⟩ = some (ev aD)) (hne : d ≠ 2) :
    Calls Tryd.prog 63 #[.pointer (some ⟨d, 0, none⟩), .int .i64 (i : Int), .slice A n c] w fun e w' => e = .returned (ev aD) ∧ DiskAt B w' d { S with off := true } ms ml v c1 c2 fS ∧ w.grownBy w' (some d) := by
  have p4 : w.cell? ⟨d, 4, none⟩ = some (.bool false) := by have := h.blk.cell 4; rw [ho] at this; exact this
  have CH := has_yes i w h hi
  have CD := deed_fail aD w h ha hl hD hne
  have i0 : ¬ (32 : Int) < (n : Int) := by omega
  have q0 := run_neq_ev aD
  clear h ho
  go_enter Tryd.func63, Tryd.ntmps63
  go_wp2_with (first | (go_at_call 78; refine CH.mono ?_; rintro e w' ⟨rfl, rfl⟩) | (go_at_call 64; refine CD.mono ?_; rintro e w' ⟨rfl, h1, h2⟩; have H1 := Lib.hid h1; have H2 := Lib.hid h2; clear h1 h2))
  go_ret
  exact ⟨rfl, H1.out, H2.out⟩
/-- a sector's bytes: what was given, noughts behind -/
def padB (bs : List Nat) : List Nat := bs ++ List.replicate (32 - bs.length) 0
theorem padB_len {bs : List Nat} (h : bs.length ≤ 32) : (padB bs).length = 32 := by simp [padB]; omega
def wcells (i : Nat) (ws : List Nat) : List Value := .int .i64 (i : Int) :: cellsB ws
theorem wcells_len (i : Nat) {ws : List Nat} (h : ws.length = 32) : (wcells i ws).length = 33 := by rw [wcells, List.length_cons, cellsB_len, h]
theorem wcells_one (i : Nat) (ws : List Nat) : ∀ u ∈ wcells i ws, u.oneCell' = true := fun u hu => by
  rcases List.mem_cons.1 hu with rfl | hu
  · rfl
  · exact cellsB_one ws u hu
theorem drop_zeros (n k : Nat) : (cellsB (List.replicate n 0)).drop k = cellsB (List.replicate (n - k) 0) := by simp [cellsB]
theorem splice_pad (i : Nat) {bs : List Nat} (_h : bs.length ≤ 32) : splice (wcells i (List.replicate 32 0)) 1 (cellsB bs) = wcells i (padB bs) := by
  unfold splice wcells padB
  rw [cellsB_len, Nat.add_comm 1, List.drop_succ_cons, drop_zeros]
  show Value.int .i64 (i : Int) :: (cellsB bs ++ _) = _
  rw [cellsB, cellsB, cellsB, List.map_append]
theorem write_size : (Tryd.prog.info? 72).map (·.size) = some 33 := by kernel_rfl
theorem write_info : (Tryd.prog.info? 72).map (fun i => (i.zero, i.size, i.bytes)) = some (some (.agg (wcells 0 (List.replicate 32 0)).toArray), 33, 40) := by kernel_rfl
end
end Go.Proofs.YthfbidjjgkjniaaDoor
