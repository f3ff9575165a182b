/- Layer 5: the next serial. -/
import Derived.Test.YtdokojlgcplefaaDoorMHv10s
namespace Go.Proofs.YtdokojlgcplefaaDoor
open Go Go.RowKit
def halvesC (d z : Nat) : List Value := [.pointer (some ⟨d, 0, none⟩), .int .i64 0, .int .i64 (z : Int), .pointer (some ⟨d, 0, none⟩), .int .i64 (z : Int), .int .i64 (z : Int)]
theorem LogAt.range {B l d z used n next : Nat} {v : Value} {dead : Bool} {w : World} (h : LogAt B w l d z used n v next dead) : w.rangeAt l 0 (halvesC d z) := by
 refine fun j u hj => ?_
 have := (row_of_blk h.blk) j u (by
  rcases j with _ | _ | _ | _ | _ | _ | j <;> simp [halvesC] at hj ⊢ <;> exact hj)
 exact this
theorem pick_half0 (d z : Nat) (w : World) : (Instr.index 57 (.agg #[.pointer (some ⟨d, 0, none⟩), .int .i64 0, .int .i64 (z : Int), .pointer (some ⟨d, 0, none⟩), .int .i64 (z : Int), .int .i64 (z : Int)]) (.int .i64 0)).run Tryd.prog w = .ok (halfV d 0 z) w := by kernel_rfl
theorem pick_half1 (d z : Nat) (w : World) : (Instr.index 57 (.agg #[.pointer (some ⟨d, 0, none⟩), .int .i64 0, .int .i64 (z : Int), .pointer (some ⟨d, 0, none⟩), .int .i64 (z : Int), .int .i64 (z : Int)]) (.int .i64 1)).run Tryd.prog w = .ok (halfV d z z) w := by kernel_rfl
theorem pick_serial (s t : Nat) (w : World) : (Instr.field 74 (.agg #[.int .i64 (s : Int), .int .i64 (t : Int)]) 0).run Tryd.prog w = .ok (.int .i64 (s : Int)) w := by kernel_rfl
section
variable {B l d z used n next k : Nat} {v : Value} {dead : Bool} {S : Dk.D}
set_option maxRecDepth 100000 in
set_option maxHeartbeats 1000000 in
theorem nextSerial_any (a : Nat → Addr) (w0 w : World) (hL : LogAt B w l d z used n v next dead) (hD : DkX B w d S k) (ho : S.off = false) (hz : 1 ≤ z) (hi : z + z ≤ S.size) (hE : Env B a w0 w) (s0 t0 s1 t1 r : Nat) (h0 : Hv.headM (Dk.seen S 0) = (s0, t0)) (h1 : Hv.headM (Dk.seen S z) = (s1, t1)) (hr : r = max (max 1 (s0 + 1)) (s1 + 1)) (ht : r ≤ Hv.top) :
  Calls Tryd.prog 35 #[.pointer (some ⟨l, 0, none⟩)] w fun e w' => e = .returned (.int .i64 (r : Int)) ∧ Below w.heap.size w w' := by
 have HL := Lib.hid hL
 have HR := Lib.hid hL.range
 have HD := Lib.hid hD
 have HE := Lib.hid hE
 have C0 := fun w' (hb : Below w.heap.size w w') => xhead_any 0 z a w' (hD.below hb) ho (by omega) (hE.below hb).s (hE.below hb).t
 have C1 := fun w' (hb : Below w.heap.size w w') => xhead_any z z a w' (hD.below hb) ho (by omega) (hE.below hb).s (hE.below hb).t
 rw [h0] at C0
 rw [h1] at C1
 have hq0 := pick_half0 d z
 have hq1 := pick_half1 d z
 have ht' : r ≤ 1099511627776 := ht
 clear hL hD hE h0 h1 ht
 unfold halfV at C0 C1 hq0 hq1
 go_enter Tryd.func35, Tryd.ntmps35
 go_wp2_with (refine wpList_load_mid rfl 57 (.tmp 8) rfl l 0 rfl (halvesC d z) _ HR.out Tryd.underlying57 rfl (by kernel_rfl) ?_; unfold halvesC)
 refine wp_loop_rounds 3 ?_
 rw [rounds_succ]
 go_wp2_with fail
 refine (C0 _ (below_al w _)).mono ?_
 rintro e w1 ⟨rfl, hb1⟩
 have HB1 : Hid (Below w.heap.size w w1) := Lib.hid (below_then (below_al w _) hb1)
 have W0 : IntKind.i64.wrap ((s0 : Int) + 1) = ((s0 + 1 : Nat) : Int) := by rw [IntWalk.i64_in _ (by omega)]; omega
 have W1 : IntKind.i64.wrap ((s1 : Int) + 1) = ((s1 + 1 : Nat) : Int) := by rw [IntWalk.i64_in _ (by omega)]; omega
 have hf0 := pick_serial s0 t0
 have hf1 := pick_serial s1 t1
 clear hb1 C0
 go_wp2_with fail
 rw [rounds_succ]
 go_wp2_with fail
 refine (C1 _ (HB1.out.trans ((Below.refl _ _).alloc HB1.out.size _))).mono ?_
 rintro e w2 ⟨rfl, hb2⟩
 have HB2 : Hid (Below w.heap.size w w2) := Lib.hid (below_then (HB1.out.trans ((Below.refl _ _).alloc HB1.out.size _)) hb2)
 clear hb2 C1
 go_wp2_with fail
 rw [rounds_succ]
 go_wp2_with fail
 go_ret
 have e : max 1 (max (s0 : Int) (s1 : Int) + 1) = (r : Int) := by
  rw [hr]
  rcases Nat.le_total s0 s1 with h | h <;> simp [h] <;> omega
 exact ⟨by rw [← e]; rfl, HB2.out⟩
end
end Go.Proofs.YtdokojlgcplefaaDoor
