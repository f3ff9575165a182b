/- Layer 5: a log in memory; what leaves a call (attempt). -/
import Derived.Test.YtdokojlgcplefaaDoorMHv8s
import Derived.Recover
import Derived.Lib.Builder
namespace Go.Proofs.YtdokojlgcplefaaDoor
open Go Go.RowKit
def logCells (d z used n : Nat) (v : Value) (next : Nat) (dead : Bool) : Array Value := #[.pointer (some ⟨d, 0, none⟩), .int .i64 0, .int .i64 (z : Int), .pointer (some ⟨d, 0, none⟩), .int .i64 (z : Int), .int .i64 (z : Int), .int .i64 (used : Int), .int .i64 (n : Int), v, .int .i64 (next : Int), .bool dead]
structure LogAt (B : Nat) (w : World) (l d z used n : Nat) (v : Value) (next : Nat) (dead : Bool) : Prop where
 blk : Blk w l 59 (logCells d z used n v next dead)
 low : B ≤ l
section
variable {B l d z used n next : Nat} {v : Value} {dead : Bool} {w w' : World}
theorem LogAt.tfr {B' : Nat} (h : LogAt B w l d z used n v next dead) (ht : TFr B' w w') : LogAt B w' l d z used n v next dead := ⟨ht.typed _ _ _ h.blk (by decide) (by decide), h.low⟩
theorem LogAt.below (h : LogAt B w l d z used n v next dead) (hb : Below w.heap.size w w') : LogAt B w' l d z used n v next dead := ⟨h.blk.below hb h.blk.lt, h.low⟩
theorem ldead_any (w : World) (h : LogAt B w l d z used n v next dead) : Calls Tryd.prog 11 #[.pointer (some ⟨l, 0, none⟩)] w fun e w' => e = .returned (.bool dead) ∧ w = w' := by
 have p : w.cell? ⟨l, 10, none⟩ = some (.bool dead) := h.blk.cell 10
 clear h
 go_enter Tryd.func11, Tryd.ntmps11
 go_wp2
 go_ret
 exact ⟨rfl, rfl⟩
theorem lserial_any (w : World) (h : LogAt B w l d z used n v next dead) : Calls Tryd.prog 17 #[.pointer (some ⟨l, 0, none⟩)] w fun e w' => e = .returned (.int .i64 (n : Int)) ∧ w = w' := by
 have p : w.cell? ⟨l, 7, none⟩ = some (.int .i64 (n : Int)) := h.blk.cell 7
 clear h
 go_enter Tryd.func17, Tryd.ntmps17
 go_wp2
 go_ret
 exact ⟨rfl, rfl⟩
theorem lroom_any (w : World) (h : LogAt B w l d z used n v next dead) (hu : used = 0 ∨ used = 1) (hn : next ≤ z) (hz : z ≤ 100000) : Calls Tryd.prog 23 #[.pointer (some ⟨l, 0, none⟩)] w fun e w' => e = .returned (.int .i64 ((z - next : Nat) : Int)) ∧ ∃ m, w' = w.drewN m := by
 have p6 : w.cell? ⟨l, 6, none⟩ = some (.int .i64 (used : Int)) := h.blk.cell 6
 have p2 : w.cell? ⟨l, 2, none⟩ = some (.int .i64 (z : Int)) := h.blk.cell 2
 have p5 : w.cell? ⟨l, 5, none⟩ = some (.int .i64 (z : Int)) := h.blk.cell 5
 have p9 : w.cell? ⟨l, 9, none⟩ = some (.int .i64 (next : Int)) := h.blk.cell 9
 have e : ((z - next : Nat) : Int) = (z : Int) - (next : Int) := by omega
 rw [e]
 have W1 : IntKind.i64.wrap ((z : Int) - (next : Int)) = (z : Int) - (next : Int) := IntWalk.i64_in _ (by omega)
 clear h
 rcases hu with rfl | rfl
 ·go_enter Tryd.func23, Tryd.ntmps23
  go_wp2_with fail
  go_quiet (fail)
  go_wp2_with fail
  go_ret
  exact ⟨rfl, _, rfl⟩
 ·go_enter Tryd.func23, Tryd.ntmps23
  go_wp2_with fail
  go_quiet (fail)
  go_wp2_with fail
  go_ret
  exact ⟨rfl, _, rfl⟩
end
theorem slots16 (x y v : Value) : #[x, y] ++ (Array.replicate 14 undef).setIfInBounds 3 v = #[x, y, undef, undef, undef, v, undef, undef, undef, undef, undef, undef, undef, undef, undef, undef] := by kernel_rfl
theorem ev_eql20 (a : Addr) (w : World) : (binOp .eql 20 (ev a) .nilIface).run Tryd.prog w = .ok (.bool false) w := by kernel_rfl
theorem ev_assert78 (a : Addr) (w : World) : (Instr.typeAssert (ev a) 20 72 true).run Tryd.prog w = .ok (.tuple #[.agg #[.nilIface], .bool false]) w := by kernel_rfl
theorem catchA_idle (q b : Nat) (w : World) :
  CallsD Tryd.prog 33 #[.pointer (some ⟨q, 0, none⟩), .pointer (some ⟨b, 0, none⟩)] .returning w fun e u' w' => e = .returned (.tuple #[]) ∧ u' = .returning ∧ w' = w := by
 refine callsD_of_wpS Tryd.func33 rfl fun c₀ cs hu => ?_
 apply wpS_seq
 apply wpS_region
 simp [wpOpsS, go_sem, recoverD, hu, Tryd.ntmps33, Exit.thenS]
 rw [slots16]
 refine wpS_of_wp ?_
 go_wp2
 exact ⟨rfl, _, by rw [← hu], _, results_none rfl _ _ _, rfl, rfl, rfl⟩
set_option maxRecDepth 100000 in
theorem catchA_down (q b l : Nat) (ae aD : Addr) (older : List PanicEntry) (w : World) (x : Bool) (c0 : Value) (hb : w.cell? ⟨b, 0, none⟩ = some (.pointer (some ⟨l, 0, none⟩))) (hl : w.cell? ⟨l, 10, none⟩ = some (.bool x)) (zl : w.frozen? ⟨l, 10, none⟩ = false) (hq : w.cell? ⟨q, 0, none⟩ = some c0) (zq : w.frozen? ⟨q, 0, none⟩ = false) (_hne : q ≠ l)
  (hD : w.cell? ⟨2, 0, none⟩ = some (ev aD)) :
  CallsD Tryd.prog 33 #[.pointer (some ⟨q, 0, none⟩), .pointer (some ⟨b, 0, none⟩)] (.panicking ({ v := ev ae, recovered := false } :: older)) w fun e u' w' =>
   e = .returned (.tuple #[]) ∧ u' = .panicking ({ v := ev ae, recovered := true } :: older) ∧ w' = (w.setCell ⟨l, 10, none⟩ (.bool true)).setCell ⟨q, 0, none⟩ (ev aD) := by
 refine callsD_of_wpS Tryd.func33 rfl fun c₀ cs hu => ?_
 apply wpS_seq
 apply wpS_region
 simp [wpOpsS, go_sem, recoverD, hu, Tryd.ntmps33, Exit.thenS]
 rw [slots16]
 refine wpS_of_wp ?_
 have h1 := ev_eql20 ae
 have h2 := ev_assert78 ae
 go_wp2
 refine ⟨rfl, .panicking ({ v := ev ae, recovered := true } :: older), rfl, .tuple #[], ?_, rfl, rfl, rfl⟩
 exact results_none rfl _ _ _
theorem results_cell_err {fn : Func} {p : Tmp} (h : fn.results = #[.cell p 27]) (tmps : Array Value) (w : World) (g : Nat) (c : Value) (hp : tmps.getD p undef = .pointer (some ⟨g, 0, none⟩)) (hg : w.cell? ⟨g, 0, none⟩ = some c) : (results fn tmps).run Tryd.prog w = .ok c w := by
 have hp' : tmps[p]?.getD undef = .pointer (some ⟨g, 0, none⟩) := by simpa using hp
 simp [results, h, hp', asAddr, go_sem, hg]
abbrev attBox (w : World) (l : Nat) : World := (w.alloc (.cells #[.pointer (some ⟨l, 0, none⟩)] 30)).alloc (.cells #[.nilIface] 27)
theorem below_attBox (w : World) (l : Nat) : Below w.heap.size w (attBox w l) := ((Below.refl _ _).alloc (Nat.le_refl _) _).alloc (by simp) _
theorem attempt_ok (K : Nat) (first cap : Array Value) (l : Nat) (w : World) (R : World → Prop) (hK : ∀ args w, (callFunc K args).run Tryd.prog w = .ok (.enter K args) w)
  (hwork : Calls Tryd.prog K (first ++ cap) (attBox w l) fun e w' => e = .returned (.tuple #[]) ∧ R w') (hR : ∀ a, R a → ∃ c, Blk a (w.heap.size + 1) 27 #[c]) (hR2 : ∀ a u, R a → R (a.setCell ⟨w.heap.size + 1, 0, none⟩ u)) :
  Calls Tryd.prog 20 #[.pointer (some ⟨l, 0, none⟩), .func (.func K) first cap] w fun e w' => e = .returned .nilIface ∧ R w' := by
 have hmf : ∀ (fn : Fn) (first cap : Array Value) (w : World), (Instr.makeFunc fn first cap).run Tryd.prog w = .ok (.func fn first cap) w := fun _ _ _ _ => rfl
 have HR := Lib.hid hR
 have HR2 := Lib.hid hR2
 clear hR hR2
 go_enter_defers Tryd.func20, Tryd.ntmps20
 go_wp2_with fail
 refine hwork.mono ?_
 rintro e w1 ⟨rfl, hr⟩
 obtain ⟨c1, hc1⟩ := HR.out _ hr
 have HK1 := Lib.hid hc1
 have p0 := hc1.cell 0
 have z0 := hc1.frozen 0
 have HRR := Lib.hid hr
 clear hr hc1 hwork
 go_wp2_with fail
 refine leaves_cons (f := 33) (args := #[.pointer (some ⟨w.heap.size + 1, 0, none⟩), .pointer (some ⟨w.heap.size, 0, none⟩)]) (by simp) (by simp [go_sem]) ?_
 refine (catchA_idle (w.heap.size + 1) w.heap.size _).mono ?_
 rintro e u' w'' ⟨rfl, rfl, rfl⟩
 refine ⟨_, results_cell_err rfl _ _ (w.heap.size + 1) .nilIface rfl ((HK1.out.set_ 0 .nilIface).cell 0), ?_⟩
 exact ⟨rfl, HR2.out _ _ HRR.out⟩
theorem attempt_down (K : Nat) (first cap : Array Value) (l : Nat) (ae aD : Addr) (w : World) (R : World → Prop) (hK : ∀ args w, (callFunc K args).run Tryd.prog w = .ok (.enter K args) w)
  (hwork : Calls Tryd.prog K (first ++ cap) (attBox w l) fun e w' => e = .panicked [{ v := ev ae, recovered := false }] ∧ R w') (hR : ∀ a, R a → Blk a (w.heap.size + 1) 27 #[.nilIface] ∧ Blk a w.heap.size 30 #[.pointer (some ⟨l, 0, none⟩)] ∧ (∃ x, a.cell? ⟨l, 10, none⟩ = some (.bool x)) ∧ a.frozen? ⟨l, 10, none⟩ = false ∧ a.cell? ⟨2, 0, none⟩ = some (ev aD)) (hl : l < w.heap.size) :
  Calls Tryd.prog 20 #[.pointer (some ⟨l, 0, none⟩), .func (.func K) first cap] w fun e w' => e = .returned (ev aD) ∧ ∃ a, R a ∧ w' = (a.setCell ⟨l, 10, none⟩ (.bool true)).setCell ⟨w.heap.size + 1, 0, none⟩ (ev aD) := by
 have hmf : ∀ (fn : Fn) (first cap : Array Value) (w : World), (Instr.makeFunc fn first cap).run Tryd.prog w = .ok (.func fn first cap) w := fun _ _ _ _ => rfl
 have HR := Lib.hid hR
 clear hR
 go_enter_defers Tryd.func20, Tryd.ntmps20
 go_wp2_with fail
 refine hwork.mono ?_
 rintro e w1 ⟨rfl, hr⟩
 obtain ⟨k1, k2, ⟨x, k3⟩, k4, k5⟩ := HR.out _ hr
 have HRR := Lib.hid hr
 clear hr hwork
 refine leaves_cons (f := 33) (args := #[.pointer (some ⟨w.heap.size + 1, 0, none⟩), .pointer (some ⟨w.heap.size, 0, none⟩)]) (by simp) (by simp [go_sem]) ?_
 refine (catchA_down (w.heap.size + 1) w.heap.size l ae aD [] w1 x .nilIface (k2.cell 0) k3 k4 (k1.cell 0) (k1.frozen 0) (by omega) k5).mono ?_
 rintro e u' w'' ⟨rfl, rfl, rfl⟩
 have hk : Blk (w1.setCell ⟨l, 10, none⟩ (.bool true)) (w.heap.size + 1) 27 #[.nilIface] := k1.far (by show w.heap.size + 1 ≠ l; omega) _
 refine ⟨_, results_cell_err rfl _ _ (w.heap.size + 1) (ev aD) rfl ((hk.set_ 0 (ev aD)).cell 0), ?_⟩
 exact ⟨rfl, w1, HRR.out, rfl⟩
end Go.Proofs.YtdokojlgcplefaaDoor
/- Layer 5: one record is read, where it fills one sector at most. -/
namespace Go.Proofs.YtdokojlgcplefaaDoor
open Go Go.RowKit
namespace Hv
def lenOf (bs : List Nat) : Nat := bs.getD 0 0 * 256 + bs.getD 1 0
def sectors (S : Dk.D) (i : Nat) : Nat → List Nat
 | 0 => []
 | k + 1 => sectors S i k ++ Dk.seen S (i + k)
def recordM (S : Dk.D) (f z at_ n p : Nat) : Option (List Nat) :=
 if z ≤ at_ then none else
 if need (lenOf (Dk.seen S (f + at_)) : Int) = 0 ∨ z - at_ < need (lenOf (Dk.seen S (f + at_)) : Int) then none else
 if sectors S (f + at_) (need (lenOf (Dk.seen S (f + at_)) : Int)) = recB n p (((sectors S (f + at_) (need (lenOf (Dk.seen S (f + at_)) : Int))).drop 10).take (lenOf (Dk.seen S (f + at_)))) then some (((sectors S (f + at_) (need (lenOf (Dk.seen S (f + at_)) : Int))).drop 10).take (lenOf (Dk.seen S (f + at_)))) else none
end Hv
theorem or_nat (a b : Nat) (hb : b < 256) : a * 256 ||| b = a * 256 + b := by
 have h := Nat.shiftLeft_add_eq_or_of_lt (i := 8) (b := b) (by omega) a
 rw [Nat.shiftLeft_eq] at h
 exact h.symm
theorem i64_or (a b : Nat) (ha : a < 256) (hb : b < 256) : bits .or .i64 (((a * 256 : Nat)) : Int) (b : Int) = ((a * 256 + b : Nat) : Int) := by
 have h1 := ofInt_u 64 (a * 256) (by omega)
 have h2 := ofInt_u 64 b (by omega)
 have e : bits .or .i64 (((a * 256 : Nat)) : Int) (b : Int) = IntKind.i64.wrap ((BitVec.ofInt 64 ((a * 256 : Nat) : Int) ||| BitVec.ofInt 64 (b : Int)).toNat : Int) := rfl
 rw [e, BitVec.toNat_or, h1, h2, or_nat a b hb, IntWalk.i64_in _ (by omega)]
theorem sector_lt {bs : List Nat} (hb : Sha.Byte bs) : Hv.lenOf bs < 65536 := by
 have h0 := hb 0
 have h1 := hb 1
 unfold Hv.lenOf
 omega
section
variable {B d k : Nat} {S : Dk.D}
set_option maxRecDepth 100000 in
theorem hrecord_out (f z at_ n p : Nat) (w : World) (hz : z ≤ at_) : Calls Tryd.prog 51 #[halfV d f z, .int .i64 (at_ : Int), .int .i64 (n : Int), .int .i64 (p : Int)] w fun e w' => e = .returned (.slice none 0 0) ∧ Below w.heap.size w w' := by
 have HB : Hid (Below w.heap.size w (halfBox w d f z)) := Lib.hid (below_halfBox w d f z)
 have i0 : (z : Int) ≤ (at_ : Int) := by omega
 unfold halfV
 go_enter Tryd.func51, Tryd.ntmps51
 go_wp2_with fail
 go_ret
 exact ⟨rfl, HB.out⟩
set_option maxRecDepth 100000 in
theorem hrecord_bad (f z at_ n p : Nat) (w : World) (h : DkX B w d S k) (ho : S.off = false) (hz : at_ < z) (hi : f + z ≤ S.size) (hb : Hv.need (Hv.lenOf (Dk.seen S (f + at_)) : Int) = 0 ∨ z - at_ < Hv.need (Hv.lenOf (Dk.seen S (f + at_)) : Int)) :
  Calls Tryd.prog 51 #[halfV d f z, .int .i64 (at_ : Int), .int .i64 (n : Int), .int .i64 (p : Int)] w fun e w' => e = .returned (.slice none 0 0) ∧ Below w.heap.size w w' := by
 have HB : Hid (Below w.heap.size w (halfBox w d f z)) := Lib.hid (below_halfBox w d f z)
 have HX : Hid (Blk (halfBox w d f z) w.heap.size 56 #[.pointer (some ⟨d, 0, none⟩), .int .i64 (f : Int), .int .i64 (z : Int)]) := Lib.hid (Blk.new w _ _)
 have HD := Lib.hid (h.below HB.out)
 have CR := xread_any f z at_ (halfBox w d f z) HD.out ho (by omega)
 have hsz := h.ok.size
 obtain ⟨bs, hbs⟩ : ∃ bs, bs = Dk.seen S (f + at_) := ⟨_, rfl⟩
 rw [← hbs] at CR hb
 have HBL : Hid (bs.length = 32) := Lib.hid (by rw [hbs]; exact seen_len h.ok _)
 have hby : Sha.Byte bs := by rw [hbs]; exact seen_byte h.ok _
 have h0 := hby 0
 have h1 := hby 1
 have HLO : Hid (Hv.lenOf bs = bs.getD 0 0 * 256 + bs.getD 1 0) := Lib.hid rfl
 have HLT : Hid (Hv.lenOf bs < 65536) := Lib.hid (sector_lt hby)
 generalize hy0 : bs.getD 0 0 = y0 at h0 HLO
 generalize hy1 : bs.getD 1 0 = y1 at h1 HLO
 have HY0 := Lib.hid hy0
 have HY1 := Lib.hid hy1
 obtain ⟨ln, hln⟩ : ∃ ln, ln = Hv.lenOf bs := ⟨_, rfl⟩
 rw [← hln] at hb HLO HLT
 have hor : bits .or .i64 ((y0 : Int) * 256) (y1 : Int) = (ln : Int) := by rw [HLO.out, ← i64_or y0 y1 h0 h1, Int.natCast_mul]; rfl
 obtain ⟨nd, hnd⟩ : ∃ nd, nd = Hv.need (ln : Int) := ⟨_, rfl⟩
 rw [← hnd] at hb
 have CN := need_any (ln : Int)
 rw [← hnd] at CN
 have i0 : ¬ (z : Int) ≤ (at_ : Int) := by omega
 clear h hbs hy0 hy1 hln hnd hby
 unfold halfV
 go_enter Tryd.func51, Tryd.ntmps51
 go_wp2_with (refine wpList_load_row rfl 56 (.tmp 4) rfl w.heap.size rfl 56 _ (0,0) _ HX.out Tryd.underlying56 rfl (by kernel_rfl) ?_)
 go_at_call 47
 refine CR.mono ?_
 rintro e w1 ⟨g, rfl, hk1, hg1, hb1⟩
 have p0 : w1.cell? ⟨g, 0, none⟩ = some (.int .u8 (y0 : Int)) := by rw [hk1.cell 0, u8s_get _ _ (by rw [HBL.out]; omega), HY0.out]
 have p1 : w1.cell? ⟨g, 1, none⟩ = some (.int .u8 (y1 : Int)) := by rw [hk1.cell 1, u8s_get _ _ (by rw [HBL.out]; omega), HY1.out]
 have HX1 := Lib.hid (HX.out.below hb1 HX.out.lt)
 have HB1 := Lib.hid (below_then HB.out hb1)
 clear hk1 hg1 hb1 CR
 go_wp2_with fail
 go_quiet (fail)
 obtain ⟨w2, hw2⟩ : ∃ w2, w2 = w1.drewN nq := ⟨_, rfl⟩
 have HB2 : Hid (Below w.heap.size w w2) := Lib.hid (by rw [hw2]; exact below_drewN HB1.out _)
 have HX2 : Hid (Blk w2 w.heap.size 56 #[.pointer (some ⟨d, 0, none⟩), .int .i64 (f : Int), .int .i64 (z : Int)]) := Lib.hid (by rw [hw2]; exact HX1.out)
 have c2 : w2.cell? ⟨w.heap.size, 2, none⟩ = some (.int .i64 (z : Int)) := HX2.out.cell 2
 rw [← hw2]
 clear hw2 p0 p1
 go_wp2_with fail
 go_at_call 22
 refine (CN w2 (WalkArith.wf_i64 (by have := HLT.out; omega))).mono ?_
 rintro e wn ⟨rfl, rfl⟩
 by_cases h3 : nd = 0
 ·subst h3
  clear hb
  go_wp2_with fail
  go_ret
  exact ⟨rfl, HB2.out⟩
 ·have h4 : z - at_ < nd := hb.resolve_left h3
  have b0 : ((nd : Int) == 0) = false := by simp; omega
  have i4 : (z : Int) - (at_ : Int) < (nd : Int) := by omega
  clear hb
  go_wp2_with fail
  go_ret
  exact ⟨rfl, HB2.out⟩
set_option maxRecDepth 100000 in
theorem hrecord_one (f z at_ n p : Nat) (w : World) (h : DkX B w d S k) (ho : S.off = false) (hz : at_ < z) (hi : f + z ≤ S.size) (hb : Hv.need (Hv.lenOf (Dk.seen S (f + at_)) : Int) = 1) (a : Nat → Addr) (w0 : World) (hE : Env B a w0 w) (hn : n ≤ Hv.top) (hp : p ≤ 1000000) :
  Calls Tryd.prog 51 #[halfV d f z, .int .i64 (at_ : Int), .int .i64 (n : Int), .int .i64 (p : Int)] w fun e w' => Below w.heap.size w w' ∧ ((Hv.recordM S f z at_ n p = none ∧ e = .returned (.slice none 0 0)) ∨ ∃ b g c, Hv.recordM S f z at_ n p = some b ∧ e = .returned (.slice (some g) b.length c) ∧ RdU w.heap.size w' (.slice (some g) b.length c) b) := by
 have HB : Hid (Below w.heap.size w (halfBox w d f z)) := Lib.hid (below_halfBox w d f z)
 have HX : Hid (Blk (halfBox w d f z) w.heap.size 56 #[.pointer (some ⟨d, 0, none⟩), .int .i64 (f : Int), .int .i64 (z : Int)]) := Lib.hid (Blk.new w _ _)
 have HD := Lib.hid (h.below HB.out)
 have CR := xread_any f z at_ (halfBox w d f z) HD.out ho (by omega)
 have hsz := h.ok.size
 obtain ⟨bs, hbs⟩ : ∃ bs, bs = Dk.seen S (f + at_) := ⟨_, rfl⟩
 have HRM : Hid (Hv.recordM S f z at_ n p = if bs = Hv.recB n p ((bs.drop 10).take (Hv.lenOf bs)) then some ((bs.drop 10).take (Hv.lenOf bs)) else none) := Lib.hid (by
  unfold Hv.recordM
  have e1 : Hv.sectors S (f + at_) 1 = bs := by rw [hbs]; simp [Hv.sectors]
  rw [if_neg (by omega), hb, if_neg (by omega), e1, ← hbs])
 obtain ⟨rm, hrm⟩ : ∃ rm, rm = Hv.recordM S f z at_ n p := ⟨_, rfl⟩
 rw [← hrm] at HRM ⊢
 rw [← hbs] at CR hb
 clear hrm
 have HBL : Hid (bs.length = 32) := Lib.hid (by rw [hbs]; exact seen_len h.ok _)
 have hby : Sha.Byte bs := by rw [hbs]; exact seen_byte h.ok _
 have HBYT := Lib.hid hby
 have h0 := hby 0
 have h1 := hby 1
 have HLO : Hid (Hv.lenOf bs = bs.getD 0 0 * 256 + bs.getD 1 0) := Lib.hid rfl
 have HLT : Hid (Hv.lenOf bs < 65536) := Lib.hid (sector_lt hby)
 generalize hy0 : bs.getD 0 0 = y0 at h0 HLO
 generalize hy1 : bs.getD 1 0 = y1 at h1 HLO
 have HY0 := Lib.hid hy0
 have HY1 := Lib.hid hy1
 obtain ⟨ln, hln⟩ : ∃ ln, ln = Hv.lenOf bs := ⟨_, rfl⟩
 rw [← hln] at hb HLO HLT HRM
 have hor : bits .or .i64 ((y0 : Int) * 256) (y1 : Int) = (ln : Int) := by rw [HLO.out, ← i64_or y0 y1 h0 h1, Int.natCast_mul]; rfl
 obtain ⟨nd, hnd⟩ : ∃ nd, nd = Hv.need (ln : Int) := ⟨_, rfl⟩
 rw [← hnd] at hb
 have CN := need_any (ln : Int)
 rw [← hnd] at CN
 have i0 : ¬ (z : Int) ≤ (at_ : Int) := by omega
 have HEN := Lib.hid (hE)
 have hln22 : 1 ≤ ln ∧ ln ≤ 22 := by
  have h9 : Hv.need (ln : Int) = 1 := by rw [← hnd]; exact hb
  unfold Hv.need at h9
  split at h9
  ·omega
  ·omega
 clear h hbs hy0 hy1 hln hnd hby hE
 unfold halfV
 go_enter Tryd.func51, Tryd.ntmps51
 go_wp2_with (refine wpList_load_row rfl 56 (.tmp 4) rfl w.heap.size rfl 56 _ (0,0) _ HX.out Tryd.underlying56 rfl (by kernel_rfl) ?_)
 go_at_call 47
 refine CR.mono ?_
 rintro e w1 ⟨g, rfl, hk1, hg1, hb1⟩
 have p0 : w1.cell? ⟨g, 0, none⟩ = some (.int .u8 (y0 : Int)) := by rw [hk1.cell 0, u8s_get _ _ (by rw [HBL.out]; omega), HY0.out]
 have p1 : w1.cell? ⟨g, 1, none⟩ = some (.int .u8 (y1 : Int)) := by rw [hk1.cell 1, u8s_get _ _ (by rw [HBL.out]; omega), HY1.out]
 have HX1 := Lib.hid (HX.out.below hb1 HX.out.lt)
 have HK1 := Lib.hid hk1
 have HB1 := Lib.hid (below_then HB.out hb1)
 clear hk1 hg1 hb1 CR
 go_wp2_with fail
 go_quiet (fail)
 obtain ⟨w2, hw2⟩ : ∃ w2, w2 = w1.drewN nq := ⟨_, rfl⟩
 have HB2 : Hid (Below w.heap.size w w2) := Lib.hid (by rw [hw2]; exact below_drewN HB1.out _)
 have HX2 : Hid (Blk w2 w.heap.size 56 #[.pointer (some ⟨d, 0, none⟩), .int .i64 (f : Int), .int .i64 (z : Int)]) := Lib.hid (by rw [hw2]; exact HX1.out)
 have HK2 : Hid (Blk w2 g 66 (u8s bs)) := Lib.hid (by rw [hw2]; exact HK1.out)
 have c2 : w2.cell? ⟨w.heap.size, 2, none⟩ = some (.int .i64 (z : Int)) := HX2.out.cell 2
 rw [← hw2]
 clear hw2 p0 p1
 go_wp2_with fail
 subst hb
 have CN1 : Calls Tryd.prog 22 #[.int .i64 (ln : Int)] w2 fun e w' => e = .returned (.int .i64 1) ∧ w2 = w' := CN w2 (WalkArith.wf_i64 (by omega))
 go_at_call 22
 refine CN1.mono ?_
 rintro e wn ⟨rfl, rfl⟩
 have i4 : ¬ (z : Int) - (at_ : Int) < 1 := by omega
 have hsl : ∀ w, (Instr.sliceAt 39 (.slice (some ⟨g, 0, none⟩) 32 32) (some (.int .i64 10)) (some (.int .i64 (10 + (ln : Int)))) none).run Tryd.prog w = .ok (.slice (some ⟨g, 10, none⟩) ln 22) w := fun w => by
  rw [run_sliceLH Tryd.underlying39 (by kernel_rfl) _ _ _ 10 (10 + ln) (by omega) (by omega) (by rfl) (by omega)]
  rw [if_neg (by omega), show 10 + ln - 10 = ln by omega]
  rfl
 obtain ⟨rb, hrb⟩ : ∃ rb, rb = (bs.drop 10).take ln := ⟨_, rfl⟩
 rw [← hrb] at HRM
 have hrl : rb.length = ln := by rw [hrb, List.length_take, List.length_drop, HBL.out]; omega
 have HRL := Lib.hid hrl
 have HRB : Hid (Rd w2 (.slice (some ⟨g, 10, none⟩) ln 22) rb) := Lib.hid ⟨_, _, by rw [hrl], by omega, fun _ => ⟨g, 10, rfl, HK2.out.lt, fun i hi => by
  rw [HK2.out.cell (10 + i), u8s_get _ _ (by rw [HBL.out]; omega), hrb]
  congr 3
  simp only [List.getD, List.getElem?_take, if_pos (show i < ln by omega), List.getElem?_drop]⟩⟩
 have HRY : Hid (Sha.Byte rb) := Lib.hid (by rw [hrb]; exact byte_sub HBYT.out 10 ln)
 have HE2 := Lib.hid (HEN.out.below HB2.out)
 have hn62 : n ≤ 4611686018427387903 := by have : n ≤ 1099511627776 := hn; omega
 have CB := recordBytes_any n p (some ⟨g, 10, none⟩) ln 22 rb (a 6) (a 0) w2 hn62 (by omega) hrl (by omega) (by omega) HRB.out HRY.out HE2.out.t (HE2.out.s 6 (by omega)).var (HE2.out.s 0 (by omega)).var
 rw [show Hv.need (ln : Int) = 1 by rw [Hv.need_of (by omega) (by omega)]; omega, Nat.mul_one] at CB
 have HA32 : Hid (Rd w2 (.slice (some ⟨g, 0, none⟩) 32 32) bs) := Lib.hid (rd_of_sec HK2.out HBL.out)
 have HYR : Hid (Sha.Byte (Hv.recB n p rb)) := Lib.hid (recB_byte HRY.out (by omega))
 have HLR : Hid ((Hv.recB n p rb).length = 32) := Lib.hid (by rw [recB_len (by omega) (by omega), hrl, Hv.need_of (by omega) (by omega)]; omega)
 clear hrb hrl CN CN1
 go_wp2_with fail
 refine wp_loop_rounds 1 ?_
 rw [rounds_succ]
 go_wp2_with fail
 go_at_call 40
 refine CB.mono ?_
 rintro e w3 ⟨g3, rfl, hk3, hg3, hb3⟩
 have HB3 := Lib.hid (below_then HB2.out hb3)
 have HR3 := Lib.hid (rd_of_sec hk3 HLR.out)
 have hb3' := hb3
 have CE := bequal_any _ _ bs (Hv.recB n p rb) w3 (HA32.out.below hb3' (Nat.le_refl _)) HR3.out HBYT.out HYR.out
 generalize hq : (bs == Hv.recB n p rb) = bq at CE
 have HB3' := Lib.hid hb3
 clear hk3 hg3 hb3 hb3' CB
 go_wp2_with fail
 go_at_call 49
 refine CE.mono ?_
 rintro e w4 ⟨rfl, rfl⟩
 cases bq
 ·have hrm : rm = none := by rw [HRM.out, if_neg (by simpa using hq)]
  clear hq
  go_wp2_with fail
  go_ret
  exact ⟨HB3.out, .inl ⟨hrm, rfl⟩⟩
 ·have hrm : rm = some rb := by rw [HRM.out, if_pos (by simpa using hq)]
  clear hq
  have CC := cloneU_any _ rb w3 (HRB.out.below HB3'.out (Nat.le_refl _)) (by rw [HRL.out]; omega)
  go_wp2_with fail
  go_at_call 27
  refine CC.mono ?_
  rintro e w5 ⟨A5, c5, rfl, hr5, hb5⟩
  have HB5 := Lib.hid (below_then HB3.out hb5)
  have HRR5 := Lib.hid hr5
  obtain ⟨A, c, e1, _, hA⟩ := hr5
  injection e1 with e1 e2 e3
  subst e1 e3
  obtain ⟨g5, o5, cs5, rfl, _⟩ := hA (by rw [HRL.out]; omega)
  clear hA hb5 CC
  go_wp2_with fail
  go_ret
  exact ⟨HB5.out, .inr ⟨rb, _, _, hrm, rfl, HRR5.out.mono (by have := HB3.out.size; omega)⟩⟩
end
end Go.Proofs.YtdokojlgcplefaaDoor
/- Layer 5: all records of a half are read. -/
namespace Go.Proofs.YtdokojlgcplefaaDoor
open Go Go.RowKit
namespace Hv
def pos (ls : List (List Nat)) : Nat → Nat
 | 0 => 1
 | i + 1 => pos ls i + need ((ls.getD i []).length : Int)
def rows : Value → Nat
 | .slice _ n _ => n
 | _ => 0
end Hv
theorem Blk.ofGrown {w w' : World} {b t base n : Nat} {cs : Array Value} {v : Value} {us : List Value} (hb : Blk w b t cs) (ho : w.ownsRow base 39 1 v n us) (hg : w.grownBy w' v.ownBlock) (ht : t ≠ 39) : Blk w' b t cs := by
 refine hb.stands (hg.block b hb.lt fun e => ?_)
 rcases ho.2 with ⟨rfl, _⟩ | ⟨g, cap, cur, rfl, _, hgg, _⟩
 ·simp [Value.ownBlock] at e
 ·simp [Value.ownBlock] at e
  subst e
  have := (show w.heap[b]? = some (Obj.cells cs t (0, 0)) from hb).symm.trans hgg
  injection this with this
  injection this with _ e _
  exact ht e
def Answers (w : World) (r : Option (List Nat)) (e : Ending) (w' : World) : Prop :=
 Below w.heap.size w w' ∧ ((r = none ∧ e = .returned (.slice none 0 0)) ∨ ∃ b g c, r = some b ∧ e = .returned (.slice (some g) b.length c) ∧ RdU w.heap.size w' (.slice (some g) b.length c) b)
theorem some_eql (a : Addr) (n c : Nat) (w : World) : (binOp .eql 39 (.slice (some a) n c) (.slice none 0 0)).run Tryd.prog w = .ok (.bool false) w := by kernel_rfl
theorem none_eql (w : World) : (binOp .eql 39 (.slice none 0 0) (.slice none 0 0)).run Tryd.prog w = .ok (.bool true) w := by kernel_rfl
section
variable {B d k : Nat} {S : Dk.D}
set_option maxRecDepth 100000 in
set_option maxHeartbeats 1000000 in
theorem hrecords_any (f z n : Nat) (w : World) (ls : List (List Nat)) (hn : ls.length ≤ 100000) (hz : ∀ i, i ≤ ls.length → Hv.pos ls i ≤ 100000) (hl : ∀ i, (ls.getD i []).length ≤ 3000)
  (hr : ∀ i, i ≤ ls.length → ∀ w', Below w.heap.size w w' → Calls Tryd.prog 51 #[halfV d f z, .int .i64 (Hv.pos ls i : Int), .int .i64 (n : Int), .int .i64 (i : Int)] w' fun e w'' => Answers w' ls[i]? e w'') :
  Calls Tryd.prog 38 #[halfV d f z, .int .i64 (n : Int)] w fun e w' => ∃ v, e = .returned (.tuple #[v, .int .i64 (Hv.pos ls ls.length : Int)]) ∧ (∃ us, Recs w.heap.size w' v us ls) ∧ Below w.heap.size w w' := by
 have HB : Hid (Below w.heap.size w (halfBox w d f z)) := Lib.hid (below_halfBox w d f z)
 have HX : Hid (Blk (halfBox w d f z) w.heap.size 56 #[.pointer (some ⟨d, 0, none⟩), .int .i64 (f : Int), .int .i64 (z : Int)]) := Lib.hid (Blk.new w _ _)
 have HR := Lib.hid hr
 have HZ := Lib.hid hz
 have HL := Lib.hid hl
 clear hr hz hl
 unfold halfV at HR ⊢
 go_enter Tryd.func38, Tryd.ntmps38
 go_wp2_with fail
 go_loopw [6, 7] (fun v j wr => ∃ i : Nat, i ≤ ls.length ∧ j = .int .i64 (Hv.pos ls i : Int) ∧ ∃ A c us, v = .slice A i c ∧ Hid (wr.ownsRow w.heap.size 39 1 (.slice A i c) i us) ∧ Hid (∀ i u, us[i]? = some u → RdU w.heap.size wr u (ls.getD i [])) ∧ Hid (Blk wr w.heap.size 56 #[.pointer (some ⟨d, 0, none⟩), .int .i64 (f : Int), .int .i64 (z : Int)]) ∧ Hid (Below w.heap.size w wr)) (fun v _ _ => ls.length - Hv.rows v)
 case atStart => exact ⟨0, Nat.zero_le _, rfl, none, 0, [], rfl, Lib.hid ⟨by simp, .inl ⟨rfl, rfl⟩⟩, Lib.hid (fun i u hu => by simp at hu), HX, HB⟩
 case round =>
  obtain ⟨i, hi, rfl, A, c, us, rfl, HO, HU, HK, HBR⟩ := hrel
  have CR := HR.out i hi wr HBR.out
  obtain ⟨o, ho⟩ : ∃ o, o = ls[i]? := ⟨_, rfl⟩
  rw [← ho] at CR
  obtain ⟨ps, hps⟩ : ∃ ps, ps = Hv.pos ls i := ⟨_, rfl⟩
  rw [← hps] at CR ⊢
  have hps5 : ps ≤ 100000 := by rw [hps]; exact HZ.out i hi
  have HPS := Lib.hid hps
  have HO1 := Lib.hid ho
  have HI := Lib.hid hi
  clear hps ho hi
  go_wp2_with (refine wpList_load_row rfl 56 (.tmp 2) rfl w.heap.size rfl 56 _ (0,0) _ HK.out Tryd.underlying56 rfl (by kernel_rfl) ?_)
  go_at_call 51
  refine CR.mono ?_
  rintro e w1 ⟨hb1, (⟨ho1, rfl⟩ | ⟨b, g, cb, ho1, rfl, hru⟩)⟩
  ·have hil : ls.length ≤ i := by rw [HO1.out] at ho1; exact List.getElem?_eq_none_iff.1 ho1
   have hie : i = ls.length := Nat.le_antisymm HI.out hil
   have HB1 := Lib.hid (below_then HBR.out hb1)
   have HOb : Hid (w1.ownsRow w.heap.size 39 1 (.slice A i c) i us) := Lib.hid (by
    refine ⟨HO.out.1, ?_⟩
    rcases HO.out.2 with hn | ⟨g, cap, cur, e, hb, hg, hr⟩
    ·exact .inl hn
    ·exact .inr ⟨g, cap, cur, e, hb, (show Blk wr g _ cur from hg).below hb1 (show Blk wr g _ cur from hg).lt, hr⟩)
   have HUb : Hid (∀ i u, us[i]? = some u → RdU w.heap.size w1 u (ls.getD i [])) := Lib.hid (fun i u h => (HU.out i u h).below hb1)
   have hq := none_eql
   clear CR hb1 ho1
   go_wp2_with fail
   subst hie
   rw [HPS.out]
   go_ret2
   exact ⟨.slice A ls.length c, rfl, ⟨us, HOb.out, HUb.out⟩, HB1.out⟩
  ·have hib : ∃ h : i < ls.length, ls[i] = b := by rw [HO1.out] at ho1; exact List.getElem?_eq_some_iff.1 ho1
   obtain ⟨hil, hbb⟩ := hib
   have hgd : ls.getD i [] = b := by rw [List.getD, List.getElem?_eq_getElem hil, hbb]; rfl
   have hbl : b.length ≤ 3000 := by rw [← hgd]; exact HL.out i
   have hps1 : Hv.pos ls (i + 1) = ps + Hv.need (b.length : Int) := by show Hv.pos ls i + Hv.need ((ls.getD i []).length : Int) = _; rw [hgd, HPS.out]
   have hps6 : ps + Hv.need (b.length : Int) ≤ 100000 := by rw [← hps1]; exact HZ.out _ hil
   have HP1 := Lib.hid hps1
   obtain ⟨bl, hbl2⟩ : ∃ bl, bl = b.length := ⟨_, rfl⟩
   rw [← hbl2] at hbl hps6 HP1 hru ⊢
   have CN := need_any (bl : Int)
   obtain ⟨nd, hnd⟩ : ∃ nd, nd = Hv.need (bl : Int) := ⟨_, rfl⟩
   rw [← hnd] at CN hps6 HP1
   have HB1 := Lib.hid (below_then HBR.out hb1)
   have HOb : Hid (w1.ownsRow w.heap.size 39 1 (.slice A i c) i us) := Lib.hid (by
    refine ⟨HO.out.1, ?_⟩
    rcases HO.out.2 with hn | ⟨g, cap, cur, e, hb, hg, hr⟩
    ·exact .inl hn
    ·exact .inr ⟨g, cap, cur, e, hb, (show Blk wr g _ cur from hg).below hb1 (show Blk wr g _ cur from hg).lt, hr⟩)
   have HUb : Hid (∀ i u, us[i]? = some u → RdU w.heap.size w1 u (ls.getD i [])) := Lib.hid (fun i u h => (HU.out i u h).below hb1)
   have HKb := Lib.hid (HK.out.below hb1 HK.out.lt)
   have HRU := Lib.hid (RdU.mono hru HBR.out.size)
   have HGD := Lib.hid hgd
   have HIL := Lib.hid hil
   obtain ⟨i0, hi0, hiz, his, hib⟩ := info_parts bsl_info5
   have HF : Hid (i + 1 ≤ maxLen ∧ (i + 1) * 24 ≤ 140737488355328) := Lib.hid ⟨by unfold maxLen; omega, by omega⟩
   have HLB := Lib.hid hbl2
   have hq := some_eql g bl cb
   clear CR hb1 ho1 hbb hgd hil hru hnd hps1 hbl2
   have c1 : Hid (∀ j u, ([.slice (some g) bl cb] : List Value)[j]? = some u → (w1.alloc (.cells #[.slice (some g) bl cb] 39)).cell? ((⟨w1.heap.size, 0, none⟩ : Addr).add j) = some u) := Lib.hid (fun j u hj => by
    rcases j with _ | j
    ·rw [Addr.add_mid, Nat.zero_add]
     exact ((Blk.new w1 39 #[.slice (some g) bl cb]).cell 0).trans (by simpa using hj)
    ·simp at hj)
   have c3 : Hid (w.heap.size ≤ (w1.alloc (.cells #[.slice (some g) bl cb] 39)).heap.size) := Lib.hid (by have := HB1.out.size; simp; omega)
   go_wp2_with (first | (refine wpList_append_own (w1.alloc (.cells #[.slice (some g) bl cb] 39)) rfl (.tmp 19) (.tmp 21) 33 rfl w.heap.size 39 i0 _ 1 24 Tryd.underlying33 hi0 hiz his hib rfl (by decide) (.slice A i c) i us rfl (HOb.out.alloc _) ⟨w1.heap.size, 0, none⟩ 1 1 [.slice (some g) bl cb] rfl rfl c1.out (by simp [Value.oneCell']) HF.out.1 HF.out.2 c3.out ?_; intro v' w2 ho hg _; obtain ⟨A2, c2, rfl⟩ := row_slice ho; have HO2 := Lib.hid ho; have HG2 := Lib.hid hg; clear ho hg))
   have HALL : Hid (∀ b t cs, Blk w1 b t cs → t ≠ 39 → Blk w2 b t cs) := Lib.hid (fun b t cs hb ht => (hb.alloc _).ofGrown (HOb.out.alloc _) HG2.out ht)
   have HB2 : Hid (Below w.heap.size w w2) := Lib.hid (below_own (HB1.out.trans ((Below.refl _ _).alloc HB1.out.size _)) (HOb.out.alloc _) (Nat.le_refl _) HG2.out)
   have HK2 := Lib.hid (HALL.out _ _ _ HKb.out (by decide))
   have HU2 : Hid (∀ j u, (us ++ [Value.slice (some g) bl cb])[j]? = some u → RdU w.heap.size w2 u (ls.getD j [])) := Lib.hid (fun j u hj => by
    have hul : us.length = i := by have := HOb.out.1; omega
    rcases Nat.lt_or_ge j us.length with h4 | h4
    ·rw [List.getElem?_append_left h4] at hj
     exact (HUb.out j u hj).of fun b cs h => HALL.out _ _ _ h (by decide)
    ·rw [List.getElem?_append_right h4] at hj
     have h5 : j - us.length < 1 := (List.getElem?_eq_some_iff.1 hj).1
     have h6 : j = i := by omega
     rw [show j - us.length = 0 by omega] at hj
     obtain rfl := Option.some.inj hj
     rw [h6, HGD.out]
     exact HRU.out.of fun b cs h => HALL.out _ _ _ h (by decide))
   clear c1 c3
   go_at_call 22
   refine (CN w2 (WalkArith.wf_i64 (by omega))).mono ?_
   rintro e wn ⟨rfl, rfl⟩
   have W1 : IntKind.i64.wrap ((ps : Int) + (nd : Int)) = ((ps + nd : Nat) : Int) := by rw [IntWalk.i64_in _ (by omega)]; omega
   clear CN
   go_wp2_with fail
   exact ⟨⟨i + 1, HIL.out, by rw [HP1.out, Int.natCast_add], A2, c2, _, rfl, HO2, HU2, HK2, HB2⟩, by have := HIL.out; simp [Hv.rows]; omega⟩
end
end Go.Proofs.YtdokojlgcplefaaDoor
