/- A disk's deeds: deed, Arm; what is read of it: Read. -/
import Derived.Test.YthfbidjjgkjniaaDoorMDisk2
namespace Go.Proofs.YthfbidjjgkjniaaDoor
open Go Go.RowKit
section
variable {B : Nat} {d ms ml c1 c2 : Nat} {S S' : Dk.D} {v : Value} {fS : Int → Option Value} {w w' : World}
/-- the switches and numbers alone have turned -/
theorem DiskAt.sw (h : DiskAt B w d S ms ml v c1 c2 fS) (e1 : S'.size = S.size) (e2 : S'.safe = S.safe) (e3 : S'.pend = S.pend) (hl : S'.left ≤ 9223372036854775807) (hd : S'.deeds ≤ 1000000)
    (hb : Blk w' d 58 #[.int .i64 (S'.size : Int), .map (some ms), v, .map (some ml), .bool S'.off, .bool S'.armed, .int .i64 (S'.left : Int), .int .i64 (S'.deeds : Int)]) (hg : w.grownBy w' (some d)) : DiskAt B w' d S' ms ml v c1 c2 fS :=
  ⟨hb, h.safe.kept hg (fun e => h.ne.2.1 (by injection e with e; exact e.symm)), fun i hi => by rw [e2]; exact h.safeAt i (e1 ▸ hi), by rw [e3]; exact h.last.kept hg (fun e => h.ne.2.2 (by injection e with e; exact e.symm)),
   by rw [e3]; exact h.row.kept hg (by cases hv : v.ownBlock with | none => exact Or.inl rfl | some g => exact Or.inr (fun e => h.rowNe.1 (by rw [hv, e]))),
   ⟨by rw [e1]; exact h.ok.size, by rw [e2]; exact h.ok.len, by rw [e2]; exact h.ok.byte, by rw [e3, e1]; exact h.ok.plen, by rw [e3]; exact h.ok.few, hl, hd⟩, h.bd, h.ne, h.c1, h.c2⟩
theorem set_own {w : World} {d : Nat} (k : Nat) (u : Value) : w.grownBy (w.setCell ⟨d, k, none⟩ u) (some d) := only_setCell (p := ⟨d, k, none⟩) (World.grownBy.refl w (some d)) (Or.inl rfl) _
theorem deed_fail (aD : Addr) (w : World) (h : DiskAt B w d S ms ml v c1 c2 fS) (ha : S.armed = true) (hl : S.left = 0) (hD : w.cell? ⟨2, 0, none⟩ = some (ev aD)) (hne : d ≠ 2) :
    Calls Tryd.prog 64 #[.pointer (some ⟨d, 0, none⟩)] w fun e w' => e = .returned (ev aD) ∧ DiskAt B w' d { S with off := true } ms ml v c1 c2 fS ∧ w.grownBy w' (some d) := by
  have p5 : w.cell? ⟨d, 5, none⟩ = some (.bool true) := by have := h.blk.cell 5; rw [ha] at this; exact this
  have p6 : w.cell? ⟨d, 6, none⟩ = some (.int .i64 0) := by have := h.blk.cell 6; rw [hl] at this; exact this
  have p4 : w.cell? ⟨d, 4, none⟩ = some (.bool S.off) := h.blk.cell 4
  have z4 := h.blk.frozen 4
  have pD : (w.setCell ⟨d, 4, none⟩ (.bool true)).cell? ⟨2, 0, none⟩ = some (ev aD) := (set_own 4 _).cell hD (fun e => hne (by injection e with e; exact e.symm))
  have H : Hid (DiskAt B (w.setCell ⟨d, 4, none⟩ (.bool true)) d { S with off := true } ms ml v c1 c2 fS) := Lib.hid (h.sw rfl rfl rfl h.ok.left h.ok.deeds (h.blk.set_ 4 (.bool true)) (set_own 4 _))
  have HG : Hid (w.grownBy (w.setCell ⟨d, 4, none⟩ (.bool true)) (some d)) := Lib.hid (set_own 4 _)
  clear h
  go_enter Tryd.func64, Tryd.ntmps64
  go_wp2
  go_ret
  exact ⟨rfl, H.out, HG.out⟩
theorem deed_free (w : World) (h : DiskAt B w d S ms ml v c1 c2 fS) (ha : S.armed = false) (hd : S.deeds + 1 ≤ 1000000) :
    Calls Tryd.prog 64 #[.pointer (some ⟨d, 0, none⟩)] w fun e w' => e = .returned .nilIface ∧ DiskAt B w' d { S with deeds := S.deeds + 1 } ms ml v c1 c2 fS ∧ w.grownBy w' (some d) := by
  have p5 : w.cell? ⟨d, 5, none⟩ = some (.bool false) := by have := h.blk.cell 5; rw [ha] at this; exact this
  have p7 : w.cell? ⟨d, 7, none⟩ = some (.int .i64 (S.deeds : Int)) := h.blk.cell 7
  have z7 := h.blk.frozen 7
  have W1 : IntKind.i64.wrap ((S.deeds : Int) + 1) = (S.deeds : Int) + 1 := IntWalk.i64_in _ (by omega)
  have H : Hid (DiskAt B (w.setCell ⟨d, 7, none⟩ (.int .i64 ((S.deeds : Int) + 1))) d { S with deeds := S.deeds + 1 } ms ml v c1 c2 fS) := Lib.hid (h.sw rfl rfl rfl h.ok.left hd (h.blk.set_ 7 (.int .i64 ((S.deeds : Int) + 1))) (set_own 7 _))
  have HG : Hid (w.grownBy (w.setCell ⟨d, 7, none⟩ (.int .i64 ((S.deeds : Int) + 1))) (some d)) := Lib.hid (set_own 7 _)
  clear h
  go_enter Tryd.func64, Tryd.ntmps64
  go_wp2
  go_ret
  exact ⟨rfl, H.out, HG.out⟩
theorem deed_armed (w : World) (h : DiskAt B w d S ms ml v c1 c2 fS) (ha : S.armed = true) (hl : 0 < S.left) (hd : S.deeds + 1 ≤ 1000000) :
    Calls Tryd.prog 64 #[.pointer (some ⟨d, 0, none⟩)] w fun e w' => e = .returned .nilIface ∧ DiskAt B w' d { S with left := S.left - 1, deeds := S.deeds + 1 } ms ml v c1 c2 fS ∧ w.grownBy w' (some d) := by
  have p5 : w.cell? ⟨d, 5, none⟩ = some (.bool true) := by have := h.blk.cell 5; rw [ha] at this; exact this
  have p6 : w.cell? ⟨d, 6, none⟩ = some (.int .i64 (S.left : Int)) := h.blk.cell 6
  have p7 : w.cell? ⟨d, 7, none⟩ = some (.int .i64 (S.deeds : Int)) := h.blk.cell 7
  have z6 := h.blk.frozen 6
  have z7 := h.blk.frozen 7
  have b0 : ((S.left : Int) == 0) = false := by simp; omega
  have hle := h.ok.left
  have W0 : IntKind.i64.wrap ((S.left : Int) - 1) = (S.left : Int) - 1 := IntWalk.i64_in _ (by omega)
  have W1 : IntKind.i64.wrap ((S.deeds : Int) + 1) = (S.deeds : Int) + 1 := IntWalk.i64_in _ (by omega)
  have el : ((S.left - 1 : Nat) : Int) = (S.left : Int) - 1 := by omega
  have HG : Hid (w.grownBy ((w.setCell ⟨d, 6, none⟩ (.int .i64 ((S.left : Int) - 1))).setCell ⟨d, 7, none⟩ (.int .i64 ((S.deeds : Int) + 1))) (some d)) := Lib.hid (only_trans (set_own 6 _) (set_own 7 _))
  have H : Hid (DiskAt B ((w.setCell ⟨d, 6, none⟩ (.int .i64 ((S.left : Int) - 1))).setCell ⟨d, 7, none⟩ (.int .i64 ((S.deeds : Int) + 1))) d { S with left := S.left - 1, deeds := S.deeds + 1 } ms ml v c1 c2 fS) := Lib.hid (h.sw rfl rfl rfl (by show S.left - 1 ≤ _; omega) hd (by
    have hb := (h.blk.set_ 6 (.int .i64 ((S.left : Int) - 1))).set_ 7 (.int .i64 ((S.deeds : Int) + 1))
    simp only [List.setIfInBounds_toArray, List.set_cons_zero, List.set_cons_succ] at hb
    show Blk _ d _ #[.int .i64 (S.size : Int), .map (some ms), v, .map (some ml), .bool S.off, .bool S.armed, .int .i64 ((S.left - 1 : Nat) : Int), .int .i64 ((S.deeds + 1 : Nat) : Int)]
    rw [el]
    exact hb) HG.out)
  clear h el
  go_enter Tryd.func64, Tryd.ntmps64
  go_wp2
  go_ret
  exact ⟨rfl, H.out, HG.out⟩
theorem arm_ok (n : Nat) (w : World) (h : DiskAt B w d S ms ml v c1 c2 fS) (hn : n ≤ 9223372036854775807) (ho : S.off = false) :
    Calls Tryd.prog 10 #[.pointer (some ⟨d, 0, none⟩), .int .i64 (n : Int)] w fun e w' => e = .returned .nilIface ∧ DiskAt B w' d { S with armed := true, left := n } ms ml v c1 c2 fS ∧ w.grownBy w' (some d) := by
  have p4 : w.cell? ⟨d, 4, none⟩ = some (.bool false) := by have := h.blk.cell 4; rw [ho] at this; exact this
  have p5 : w.cell? ⟨d, 5, none⟩ = some (.bool S.armed) := h.blk.cell 5
  have p6 : w.cell? ⟨d, 6, none⟩ = some (.int .i64 (S.left : Int)) := h.blk.cell 6
  have z5 := h.blk.frozen 5
  have z6 := h.blk.frozen 6
  have i0 : ¬ (n : Int) < 0 := by omega
  have HG : Hid (w.grownBy ((w.setCell ⟨d, 5, none⟩ (.bool true)).setCell ⟨d, 6, none⟩ (.int .i64 (n : Int))) (some d)) := Lib.hid (only_trans (set_own 5 _) (set_own 6 _))
  have H : Hid (DiskAt B ((w.setCell ⟨d, 5, none⟩ (.bool true)).setCell ⟨d, 6, none⟩ (.int .i64 (n : Int))) d { S with armed := true, left := n } ms ml v c1 c2 fS) := Lib.hid (h.sw rfl rfl rfl hn h.ok.deeds (by
    have hb := (h.blk.set_ 5 (.bool true)).set_ 6 (.int .i64 (n : Int))
    simp only [List.setIfInBounds_toArray, List.set_cons_zero, List.set_cons_succ] at hb
    exact hb) HG.out)
  clear h ho
  go_enter Tryd.func10, Tryd.ntmps10
  go_wp2
  go_ret
  exact ⟨rfl, H.out, HG.out⟩
theorem arm_neg (n : Int) (aR : Addr) (w : World) (hn : n < 0) (hR : w.cell? ⟨0, 0, none⟩ = some (ev aR)) :
    Calls Tryd.prog 10 #[.pointer (some ⟨d, 0, none⟩), .int .i64 n] w fun e w' => e = .returned (ev aR) ∧ w = w' := by
  go_enter Tryd.func10, Tryd.ntmps10
  go_wp2
  go_ret
  exact ⟨rfl, rfl⟩
theorem arm_off (n : Int) (aD : Addr) (w : World) (h : DiskAt B w d S ms ml v c1 c2 fS) (hn : 0 ≤ n) (ho : S.off = true) (hD : w.cell? ⟨2, 0, none⟩ = some (ev aD)) :
    Calls Tryd.prog 10 #[.pointer (some ⟨d, 0, none⟩), .int .i64 n] w fun e w' => e = .returned (ev aD) ∧ w = w' := by
  have p4 : w.cell? ⟨d, 4, none⟩ = some (.bool true) := by have := h.blk.cell 4; rw [ho] at this; exact this
  have i0 : ¬ n < 0 := by omega
  clear h
  go_enter Tryd.func10, Tryd.ntmps10
  go_wp2
  go_ret
  exact ⟨rfl, rfl⟩
end
end Go.Proofs.YthfbidjjgkjniaaDoor
