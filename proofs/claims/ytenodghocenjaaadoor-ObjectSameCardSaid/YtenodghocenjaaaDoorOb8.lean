/- The chapter's example of layer 6: strange, rightEntries, aims, Wanted. -/
import Derived.Test.YtenodghocenjaaaDoorOb5
namespace Go.Proofs.YtenodghocenjaaaDoor
open Go Go.RowKit
abbrev zeros32 : List Nat := List.replicate 32 0
/-- the blob x -/
def blobX : Ob := ⟨1, [120], [], zeros32, []⟩
theorem zeros_id : Id32 zeros32 := ⟨by simp, fun i => by
  rw [List.getD_eq_getElem?_getD]
  by_cases h : i < 32
  · simp [List.getElem?_replicate, h]
  · simp [List.getElem?_replicate, h]⟩
theorem blobX_fit : blobX.Fit := ⟨fun i => by
    rcases i with _ | i
    · decide
    · simp [blobX], fun e h => absurd h (by simp [blobX]), zeros_id, fun e h => absurd h (by simp [blobX])⟩
theorem wanted_any (k : Int) (w : World) : Calls Tryd.prog 16 #[.int .i64 k] w fun e w' => e = .returned (.int .i64 (if k = 3 then 2 else 0)) ∧ w = w' := by
  by_cases h : k = 3
  · subst h
    go_enter Tryd.func16, Tryd.ntmps16
    go_wp2
    go_ret
    exact ⟨rfl, rfl⟩
  · have HV := Lib.hid (show (if k = 3 then (2 : Int) else 0) = 0 from if_neg h)
    go_enter Tryd.func16, Tryd.ntmps16
    go_wp2
    go_ret
    exact ⟨rfl, rfl⟩
theorem aims_one (w : World) : Calls Tryd.prog 31 #[.int .i64 1] w fun e w' => e = .returned (.bool false) ∧ w = w' := by
  go_enter Tryd.func31, Tryd.ntmps31
  go_wp2
  go_ret
  exact ⟨rfl, rfl⟩
theorem rents_nil (A : Option Addr) (c : Nat) (w : World) : Calls Tryd.prog 30 #[.slice A 0 c] w fun e w' => e = .returned (.bool true) ∧ w = w' := by
  go_enter Tryd.func30, Tryd.ntmps30
  go_wp2
  go_loopw [10] (fun i wr => i = .int .i64 0 ∧ wr = w) (fun _ _ => 0)
  case atStart => exact ⟨rfl, rfl⟩
  case round =>
    obtain ⟨rfl, rfl⟩ := hrel
    go_wp2
    go_ret
    exact ⟨rfl, rfl⟩
set_option maxRecDepth 100000 in
set_option maxHeartbeats 1000000 in
theorem strange_blob (cs : Array Value) (T E P : Option Addr) (tc ec pc : Nat) (w : World) (h : ObC w blobX cs T tc E ec P pc) :
    Calls Tryd.prog 29 #[.agg cs] w fun e w' => e = .returned (.bool false) ∧ Below w.heap.size w w' := by
  obtain ⟨w2, hw2⟩ : ∃ w2, w2 = w.alloc (.cells cs 30) := ⟨_, rfl⟩
  have HBE := Lib.hid (show Below w.heap.size w w2 from hw2 ▸ (Below.refl _ _).alloc (Nat.le_refl _) _)
  have B1 : Blk w2 w.heap.size 30 cs := hw2 ▸ Blk.new w _ cs
  have a0 : w2.cell? ⟨w.heap.size, 0, none⟩ = some (.int .i64 1) := (B1.cell 0).trans h.c0
  have a1 : w2.cell? ⟨w.heap.size, 1, none⟩ = some (.slice T 1 tc) := (B1.cell 1).trans h.c1
  have a2 : w2.cell? ⟨w.heap.size, 2, none⟩ = some (.slice E 0 ec) := (B1.cell 2).trans h.c2
  have a3 : w2.cell? ⟨w.heap.size, 35, none⟩ = some (.slice P 0 pc) := (B1.cell 35).trans (h.c35 blobX_fit)
  have M1 := Lib.hid (h.mid B1)
  have n1 : (Tryd.prog.info? 27).map (·.size) = some (cellsB blobX.target).length := by rw [show (cellsB blobX.target).length = 32 from cellsP1_len zeros_id]; kernel_rfl
  have N1 := Lib.hid n1
  have q0 := id_eq w2 zeros32 zeros32 zeros_id zeros_id
  rw [eqv_self] at q0
  have hz : (cellsB zeros32).toArray = #[.int .u8 0, .int .u8 0, .int .u8 0, .int .u8 0, .int .u8 0, .int .u8 0, .int .u8 0, .int .u8 0, .int .u8 0, .int .u8 0, .int .u8 0, .int .u8 0, .int .u8 0, .int .u8 0, .int .u8 0, .int .u8 0, .int .u8 0, .int .u8 0, .int .u8 0, .int .u8 0, .int .u8 0, .int .u8 0, .int .u8 0, .int .u8 0, .int .u8 0, .int .u8 0, .int .u8 0, .int .u8 0, .int .u8 0, .int .u8 0, .int .u8 0, .int .u8 0] := rfl
  have hw3 := hw2.symm
  have HQ := Lib.hid q0
  clear h B1 hw2 n1 q0
  go_enter Tryd.func29, Tryd.ntmps29
  go_wp2_with (with_reducible (show wpList _ _ _ (Oper.mk _ (Op.load 27 _) _ _ _ _ :: _) _ _); refine pause ?_)
  unfold Paused
  refine wpList_mid_w (by rfl) 27 (.tmp 24) (by rfl) w.heap.size 3 (by rfl) _ _ M1.out Tryd.underlying27 (by rfl) N1.out ?_
  change wpList _ _ _ _ (Act.put _ _ (.agg (cellsB zeros32).toArray)) _
  rw [hz]
  have q1 := HQ.out
  rw [hz] at q1
  go_wp2
  go_ret
  exact ⟨rfl, HBE.out⟩
end Go.Proofs.YtenodghocenjaaaDoor
