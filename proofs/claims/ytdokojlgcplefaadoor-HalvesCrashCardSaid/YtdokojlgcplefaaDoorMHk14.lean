/- The document's record: its first ten bytes. -/
import Derived.Test.YtdokojlgcplefaaDoorMSum12s
import Derived.Test.YtdokojlgcplefaaDoorMLawOpen3s
import Derived.Test.YtdokojlgcplefaaDoorMHk6s
import Derived.Test.YtdokojlgcplefaaDoorMOct4s
import Derived.Test.YtdokojlgcplefaaDoorMHv17s
namespace Go.Proofs.YtdokojlgcplefaaDoor
open Go Go.RowKit
set_option maxRecDepth 100000 in
theorem rnumB_any (s n : Nat) (w : World) (hs : s ≤ 8) (hn : n ≤ 4611686018427387903) :
  Calls Tryd.prog 45 #[.int .i64 (n : Int), .int .i64 (s : Int)] w fun e w' => ∃ g, e = .returned (.slice (some ⟨g, 0, none⟩) s s) ∧ Rd w' (.slice (some ⟨g, 0, none⟩) s s) (Oc.nums s n) ∧ Below w.heap.size w w' := by
 obtain ⟨i0, hi0, hiz, his, hib⟩ := info_parts byte_info
 have hmk : ∀ w' : World, (Instr.makeSlice 39 (.int .i64 (s : Int)) (.int .i64 (s : Int))).run Tryd.prog w' = .ok (.slice (some ⟨w'.heap.size, 0, none⟩) s s) (w'.alloc (.cells (u8s (Oc.numsFrom s n 0)) 5)) := fun w' => by
  have h := run_make (P := Tryd.prog) w' 39 5 i0 _ Tryd.underlying39 hi0 hiz .i64 .i64 (s : Int) (s : Int) (by omega) (by omega) (by rw [hib]; omega) (by omega)
  rw [his, Int.toNat_natCast, Nat.mul_one] at h
  rw [h, Oc.numsFrom_zero, show (Value.int .u8 0).cells = #[.int .u8 0] from rfl, madeOne]
  simp [u8s]
 clear hi0 hiz his hib
 have W0 : IntKind.i64.wrap ((s : Int) - 1) = (s : Int) - 1 := IntWalk.i64_in _ (by omega)
 go_enter Tryd.func45, Tryd.ntmps45
 go_wp2
 go_loopw [0, 6] (fun x i wr => ∃ j : Nat, j ≤ s ∧ x = .int .i64 ((n / 2^(8 * j) : Nat) : Int) ∧ i = .int .i64 ((s : Int) - 1 - (j : Int)) ∧ Blk wr w.heap.size 5 (u8s (Oc.numsFrom s n j)) ∧ Below w.heap.size w wr) (fun _ i _ => (intOf i + 1).toNat)
 case atStart => exact ⟨0, by omega, by simp, by simp, Blk.new w _ _, (Below.refl _ _).alloc (Nat.le_refl _) _⟩
 case round =>
  obtain ⟨j, hj, rfl, rfl, hB, hb⟩ := hrel
  have HB := Lib.hid hB
  have HBel := Lib.hid hb
  clear hB hb
  by_cases hlt : j < s
  ·obtain ⟨k, hk⟩ : ∃ k : Nat, k = s - 1 - j := ⟨_, rfl⟩
   have hki : (s : Int) - 1 - (j : Int) = (k : Int) := by omega
   rw [hki]
   have HK := Lib.hid hk
   have HST := Lib.hid (Oc.numsFrom_set s n j hlt)
   rw [← hk] at HST
   have HQ : Hid (n / 2^(8 * j) / 256 = n / 2^(8 * (j + 1))) := Lib.hid (by rw [Nat.div_div_eq_div_mul, show 8 * (j + 1) = 8 * j + 8 by omega, Nat.pow_add])
   have hy : n / 2^(8 * j) ≤ 4611686018427387903 := Nat.le_trans (Nat.div_le_self _ _) hn
   generalize n / 2^(8 * j) = y at hy HST HQ
   have hks : k < s := by omega
   have hcell : wr.cell? ⟨w.heap.size, k, none⟩ = some (.int .u8 ((((Oc.numsFrom s n j).getD k 0 : Nat)) : Int)) := by
    rw [HB.out.cell k, u8s_get _ _ (by rw [Oc.numsFrom_len]; exact hks)]
   have hfr := HB.out.frozen k
   have W1 : IntKind.i64.wrap ((k : Int) - 1) = (k : Int) - 1 := IntWalk.i64_in _ (by omega)
   generalize (Oc.numsFrom s n j).getD k 0 = old at hcell
   clear hki hk
   have i0 : (k : Int) < s := by omega
   go_wp2
   refine ⟨⟨j + 1, by omega, ?_, ?_, ?_, HBel.out.setCell (Nat.le_refl _) _⟩, ?_⟩
   ·rw [← HQ.out]; rfl
   ·have := HK.out
    rw [show (k : Int) - 1 = (s : Int) - 1 - ((j + 1 : Nat) : Int) by omega]
   ·have h := HB.out.set_ k (.int .u8 ((y % 256 : Nat) : Int))
    rw [u8s_set, HST.out] at h
    exact h
   ·simp [intOf]
  ·obtain rfl : j = s := by omega
   have H : Hid (Rd wr (.slice (some ⟨w.heap.size, 0, none⟩) j j) (Oc.nums j n)) := Lib.hid (by
    rw [Oc.numsFrom_all] at HB
    exact ⟨_, _, by rw [Oc.nums_len], by rw [Oc.nums_len]; omega, fun _ => ⟨_, _, rfl, HB.out.lt, fun i hi => by rw [Nat.zero_add, HB.out.cell i, u8s_get _ _ hi]⟩⟩)
   have W1 : ¬ (0 : Int) ≤ (j : Int) - 1 - (j : Int) := by omega
   go_wp2
   go_ret
   exact ⟨_, rfl, H.out, HBel.out⟩
set_option maxRecDepth 100000 in
theorem wp_appendFull {o : Oper} {a : Act} {w : World} {K : Act → World → Prop} {Q : Exit → Act → World → Prop} (s x : Operand)
  (ho : o.op = .call { callee := .builtin .append, args := #[s, x], argTypes := #[39, 39] }) (g n : Nat) (ys : List Nat) (hs : a.eval s = .slice (some ⟨g, 0, none⟩) n n) (hys : Rd w (.slice (some ⟨g, 0, none⟩) n n) ys) (hy0 : 0 < ys.length)
  (u : Value) (hx : a.eval x = u) (xs : List Nat) (hu : Rd w u xs) (hx0 : 0 < xs.length) (hz : ys.length + xs.length ≤ 70368744177664)
  (h : ∀ v' w', w'.ownsRow w.heap.size 5 1 v' (ys ++ xs).length (cellsB (ys ++ xs)) → w.grownBy w' none → K (a.put o.dst v') w') : o.wp Tryd.prog a w K Q := by
 obtain ⟨i0, hi0, hiz, his, hib⟩ := info_parts byte_info
 obtain ⟨A, c, rfl, hc, hAA⟩ := hu
 obtain ⟨b, o', rfl, hbl, hxx⟩ := hAA hx0
 obtain ⟨A2, c2, e2, hc2, hA2⟩ := hys
 injection e2 with x1 x2 x3
 subst x1 x2 x3
 obtain ⟨g2, o2, e3, _, hyy⟩ := hA2 hy0
 injection e3 with e3
 injection e3 with y1 y2 _
 subst y1 y2
 obtain ⟨v', w', hrun, h1, h2⟩ := run_append_arg_grows (P := Tryd.prog) w 39 o.type 5 i0 _ 1 1 Tryd.underlying39 hi0 hiz his hib rfl (by decide) ⟨g, 0, none⟩ ys.length ys.length (cellsB ys) (by rw [cellsB_len, Nat.mul_one]) (fun j t hj => by
  have hjl : j < ys.length := by have := (List.getElem?_eq_some_iff.1 hj).1; rwa [cellsB_len] at this
  rw [cellsB_get hjl] at hj
  rw [Addr.add_mid, hyy j hjl, hj]) ⟨b, o', none⟩ xs.length c (cellsB xs) (by rw [cellsB_len, Nat.mul_one]) (fun j t hj => by
  have hjl : j < xs.length := by have := (List.getElem?_eq_some_iff.1 hj).1; rwa [cellsB_len] at this
  rw [cellsB_get hjl] at hj
  rw [Addr.add_mid, hxx j hjl, hj]) (by omega) (by unfold maxLen; omega) (by omega)
 have e0 : cellsB ys ++ cellsB xs = cellsB (ys ++ xs) := by simp [cellsB]
 rw [e0, ← List.length_append] at h1
 unfold Oper.wp execOp
 simp only [ho, resolve, invoke, builtin, Sem.run_bind, Sem.run_pure, Result.andThen_ok, List.map_toArray, List.map_cons, List.map_nil, hs, hx, hrun]
 exact h v' w' h1 h2
theorem wpList_appendFull {ops : Array Oper} {rest : List Oper} {o : Oper} {a : Act} {w : World} {Q : Exit → Act → World → Prop} (hgd : o.guard = none) (s x : Operand)
  (ho : o.op = .call { callee := .builtin .append, args := #[s, x], argTypes := #[39, 39] }) (g n : Nat) (ys : List Nat) (hs : a.eval s = .slice (some ⟨g, 0, none⟩) n n) (hys : Rd w (.slice (some ⟨g, 0, none⟩) n n) ys) (hy0 : 0 < ys.length)
  (u : Value) (hx : a.eval x = u) (xs : List Nat) (hu : Rd w u xs) (hx0 : 0 < xs.length) (hz : ys.length + xs.length ≤ 70368744177664)
  (h : ∀ v' w', w'.ownsRow w.heap.size 5 1 v' (ys ++ xs).length (cellsB (ys ++ xs)) → w.grownBy w' none → wpList Tryd.prog ops Q rest (a.put o.dst v') w') : wpList Tryd.prog ops Q (o :: rest) a w :=
 wpList_plain hgd fun _ hK => wp_appendFull s x ho g n ys hs hys hy0 u hx xs hu hx0 hz fun v' w' h1 h2 => hK _ _ (h v' w' h1 h2)
theorem rd_marked (w : World) (l : List Nat) (t : TypeId) (fr : Nat × Nat) (c : Nat) (hc : l.length ≤ c) : Rd (w.alloc (.cells (u8s l) t fr)) (.slice (some ⟨w.heap.size, 0, none⟩) l.length c) l := by
 have hB : (w.alloc (.cells (u8s l) t fr)).heap[w.heap.size]? = some (.cells (u8s l) t fr) := heap_alloc_new w _
 refine ⟨_, _, rfl, hc, fun _ => ⟨w.heap.size, 0, rfl, (Array.getElem?_eq_some_iff.1 hB).1, fun i hi => ?_⟩⟩
 rw [Nat.zero_add]
 show (match (w.alloc (.cells (u8s l) t fr)).heap[w.heap.size]? with | some (.cells c _ _) => if (none : Option Nat).isSome then none else c[i]? | _ => none) = _
 rw [hB]
 exact u8s_get _ _ hi
theorem below_grown {w0 w w' : World} (hb : Below w0.heap.size w0 w) (h : w.grownBy w' none) : Below w0.heap.size w0 w' :=
 ⟨h.os.trans hb.os, h.tape.trans hb.tape, h.output.trans hb.output, Nat.le_trans hb.size h.size, fun k hk => (h.block k (Nat.lt_of_lt_of_le hk hb.size) (by simp)).trans (hb.block k hk)⟩
def laidT (n p : Nat) (b : List Nat) : List Nat := (Hv.wRecord ++ Oc.nums 8 n) ++ Oc.nums 8 p ++ b
def laidH (n p : Nat) (b : List Nat) : List Nat := Oc.nums 2 b.length ++ (Sha.sum (laidT n p b)).take 8
theorem laidH_len (n p : Nat) (b : List Nat) : (laidH n p b).length = 10 := by
 unfold laidH
 rw [List.length_append, Oc.nums_len, List.length_take, sum_len]
 rfl
theorem laidH_recB {n p : Nat} {b : List Nat} (h : b.length < 65536) : (Hv.recB n p b).take 10 = laidH n p b := by
 obtain ⟨r, hr⟩ := Hv.recB_is n p b
 have e1 : Oc.nums 2 b.length = [b.length / 256, b.length % 256] := by
  show [b.length / 2 ^ (8 * 1) % 256, b.length / 2 ^ (8 * 0) % 256] = _
  rw [show 2 ^ (8 * 1) = 256 from rfl, show 2 ^ (8 * 0) = 1 from rfl, Nat.div_one, Nat.mod_eq_of_lt (show b.length / 256 < 256 by omega)]
 have e2 : Hv.sum8 Hv.wRecord [Hv.said2 n p, b].flatten = (Sha.sum (laidT n p b)).take 8 := by
  unfold Hv.sum8 laidT Hv.said2
  simp only [List.flatten_cons, List.flatten_nil, List.append_nil, List.append_assoc]
 have e3 : (Hv.sum8 Hv.wRecord [Hv.said2 n p, b].flatten).length = 8 := Hv.sum8_len _ _
 rw [hr, ← e1, e2]
 rw [e2] at e3
 unfold laidH
 have h2 : (Oc.nums 2 b.length).length = 2 := Oc.nums_len _ _
 rw [← List.append_assoc, List.take_append_of_le_length (by rw [List.length_append, h2, e3]; decide), List.take_of_length_le (by rw [List.length_append, h2, e3]; decide)]
def LaidP (w : World) (n p : Nat) (b : List Nat) (e : Ending) (w' : World) : Prop := ∃ g m c r, e = .returned (.slice (some ⟨g, 0, none⟩) m c) ∧ 10 ≤ m ∧ Rd w' (.slice (some ⟨g, 0, none⟩) m c) (laidH n p b ++ r) ∧ Below w.heap.size w w'
set_option maxRecDepth 100000 in
set_option maxHeartbeats 1000000 in
theorem rlaid_any (n p : Nat) (A : Option Addr) (l c : Nat) (b : List Nat) (w : World) (hn : n ≤ 4611686018427387903) (hp : p ≤ 4611686018427387903) (hl : b.length = l) (h1 : 1 ≤ l) (h2 : l ≤ 3000) (hr : Rd w (.slice A l c) b) (hb : Sha.Byte b) :
  Calls Tryd.prog 32 #[.int .i64 (n : Int), .int .i64 (p : Int), .slice A l c] w (LaidP w n p b) := by
 have HR := Lib.hid hr
 have HBY := Lib.hid hb
 have HLL := Lib.hid hl
 have C1 := fun w => rnumB_any 8 n w (by omega) hn
 have C2 := fun w => rnumB_any 8 p w (by omega) hp
 have C3 := fun w => rnumB_any 2 l w (by omega) (by omega)
 obtain ⟨w1, hw1⟩ : ∃ w1, w1 = w.alloc (.cells (u8s Hv.wRecord) 5 (6, 7)) := ⟨_, rfl⟩
 have HW1 := Lib.hid hw1
 have HB1 : Hid (Below w.heap.size w w1) := Lib.hid (by rw [hw1]; exact (Below.refl _ _).alloc (Nat.le_refl _) _)
 have HG1 : Hid (Rd w1 (.slice (some ⟨w.heap.size, 0, none⟩) 6 6) Hv.wRecord) := Lib.hid (by rw [hw1]; exact rd_marked w Hv.wRecord _ _ 6 (by decide))
 have hc := conv_const w (u8s Hv.wRecord) 6 6
 have hc2 : (convert 39 39 (.slice (some ⟨w.heap.size, 0, none⟩) 6 6)).run Tryd.prog (w.alloc (.cells #[.int .u8 114, .int .u8 101, .int .u8 99, .int .u8 111, .int .u8 114, .int .u8 100] 5)) = .ok (.slice (some ⟨w.heap.size, 0, none⟩) 6 6) w1 := by rw [hw1]; exact hc
 clear hr hb hl hn hp hw1 hc
 go_enter Tryd.func32, Tryd.ntmps32
 go_wp2_with fail
 go_at_call 45
 refine (C1 _).mono ?_
 rintro e w2 ⟨g2, rfl, hr2, hb2⟩
 have HB2 := Lib.hid (below_then HB1.out hb2)
 have HG2 := Lib.hid (HG1.out.below hb2 (Nat.le_refl _))
 have HN2 := Lib.hid hr2
 have HL8 : Hid ((Oc.nums 8 n).length = 8) := Lib.hid (Oc.nums_len _ _)
 have HL9 : Hid ((Oc.nums 8 p).length = 8) := Lib.hid (Oc.nums_len _ _)
 clear hr2 hb2 C1 hc2
 go_wp2_with (with_reducible (show wpList _ _ _ (Oper.mk _ (Op.call (Call.mk (Callee.builtin Builtin.append) _ _)) _ _ _ _ :: _) _ _); refine pause ?_)
 unfold Paused
 refine wpList_appendFull rfl (.tmp 11) (.tmp 13) rfl w.heap.size 6 Hv.wRecord rfl HG2.out (by decide) _ rfl _ HN2.out (by rw [HL8.out]; decide) (by rw [HL8.out]; decide) ?_
 intro v3 w3 ho3 hg3
 obtain ⟨A3, c3, hv3⟩ := row_slice ho3
 obtain ⟨m3, hm3⟩ : ∃ m, m = (Hv.wRecord ++ Oc.nums 8 n).length := ⟨_, rfl⟩
 rw [show ((Hv.wRecord ++ Oc.nums 8 n)).length = m3 from hm3.symm] at hv3
 have HM3 := Lib.hid hm3
 subst hv3
 clear hm3
 have HB3 := Lib.hid (below_grown HB2.out hg3)
 have HO3 : Hid (w3.ownsRow w2.heap.size 5 1 (.slice A3 m3 c3) (Hv.wRecord ++ Oc.nums 8 n).length (cellsB (Hv.wRecord ++ Oc.nums 8 n))) := Lib.hid ho3
 have HD3 : Hid (Below w2.heap.size w2 w3) := Lib.hid (below_grown (Below.refl _ _) hg3)
 clear ho3 hg3 HG2 HN2
 go_wp2_with fail
 go_at_call 45
 refine (C2 _).mono ?_
 rintro e w4 ⟨g4, rfl, hr4, hb4⟩
 have HB4 := Lib.hid (below_then HB3.out hb4)
 have HD4 := Lib.hid (below_then HD3.out hb4)
 have HN4 := Lib.hid hr4
 have HO4 : Hid (w4.ownsRow w2.heap.size 5 1 (.slice A3 m3 c3) (Hv.wRecord ++ Oc.nums 8 n).length (cellsB (Hv.wRecord ++ Oc.nums 8 n))) := Lib.hid (HO3.out.kept (only_of_below hb4 none) (by cases hv : (Value.slice A3 m3 c3).ownBlock with | none => exact Or.inl rfl | some g => exact Or.inr (by simp)))
 clear hr4 hb4 C2 HO3
 go_wp2_with (with_reducible (show wpList _ _ _ (Oper.mk _ (Op.call (Call.mk (Callee.builtin Builtin.append) _ _)) _ _ _ _ :: _) _ _); refine pause ?_)
 unfold Paused
 refine wpList_appendB rfl (.tmp 15) (.tmp 17) rfl w2.heap.size _ (Hv.wRecord ++ Oc.nums 8 n) rfl HO4.out HD4.out.size _ rfl _ HN4.out (by rw [List.length_append, HL8.out, HL9.out]; decide) ?_
 intro v5 w5 ho5 hg5
 obtain ⟨A5, c5, hv5⟩ := row_slice ho5
 obtain ⟨m5, hm5⟩ : ∃ m, m = ((Hv.wRecord ++ Oc.nums 8 n) ++ Oc.nums 8 p).length := ⟨_, rfl⟩
 rw [show (((Hv.wRecord ++ Oc.nums 8 n) ++ Oc.nums 8 p)).length = m5 from hm5.symm] at hv5
 have HM5 := Lib.hid hm5
 subst hv5
 clear hm5
 have HD5 : Hid (Below w2.heap.size w2 w5) := Lib.hid (below_ownB rfl HD4.out HO4.out hg5)
 have HB5 : Hid (Below w.heap.size w w5) := Lib.hid (below_then HB2.out HD5.out)
 have HO5 : Hid (w5.ownsRow w2.heap.size 5 1 (.slice A5 m5 c5) ((Hv.wRecord ++ Oc.nums 8 n) ++ Oc.nums 8 p).length (cellsB ((Hv.wRecord ++ Oc.nums 8 n) ++ Oc.nums 8 p))) := Lib.hid ho5
 have HR5 := Lib.hid (HR.out.below HB5.out (Nat.le_refl _))
 clear ho5 hg5 HO4 HN4
 go_wp2_with (with_reducible (show wpList _ _ _ (Oper.mk _ (Op.call (Call.mk (Callee.builtin Builtin.append) _ _)) _ _ _ _ :: _) _ _); refine pause ?_)
 unfold Paused
 refine wpList_appendB rfl (.tmp 18) (.tmp 19) rfl w2.heap.size _ ((Hv.wRecord ++ Oc.nums 8 n) ++ Oc.nums 8 p) rfl HO5.out HD5.out.size _ rfl b HR5.out (by rw [List.length_append, List.length_append, HL8.out, HL9.out, HLL.out]; show 6 + 8 + 8 + l ≤ _; omega) ?_
 intro v6 w6 ho6 hg6
 obtain ⟨A6, c6, hv6⟩ := row_slice ho6
 obtain ⟨m6, hm6⟩ : ∃ m, m = (laidT n p b).length := ⟨_, rfl⟩
 rw [show ((Hv.wRecord ++ Oc.nums 8 n) ++ Oc.nums 8 p ++ b).length = m6 from hm6.symm] at hv6
 have HM6 := Lib.hid hm6
 subst hv6
 clear hm6
 have HD6 : Hid (Below w2.heap.size w2 w6) := Lib.hid (below_ownB rfl HD5.out HO5.out hg6)
 have HB6 : Hid (Below w.heap.size w w6) := Lib.hid (below_then HB2.out HD6.out)
 have HRT : Hid (Rd w6 (.slice A6 m6 c6) (laidT n p b)) := Lib.hid (rd_of_own ho6 rfl)
 have HTY : Hid (Sha.Byte (laidT n p b)) := Lib.hid (byte_append (byte_append (byte_append (byte_of (show ∀ x ∈ Hv.wRecord, x < 256 by decide)) (byte_of (Oc.nums_bytes _ _))) (byte_of (Oc.nums_bytes _ _))) HBY.out)
 have HTL : Hid ((laidT n p b).length = 22 + l) := Lib.hid (by unfold laidT; rw [List.length_append, List.length_append, List.length_append, HL8.out, HL9.out, HLL.out]; show 6 + 8 + 8 + l = _; omega)
 clear ho6 hg6 HO5
 have CS := refsum_any (.slice A6 m6 c6) (laidT n p b) w6 HRT.out HTY.out (by rw [HTL.out]; omega)
 go_wp2_with fail
 go_at_call 46
 refine CS.mono ?_
 rintro e w7 ⟨rfl, hb7⟩
 have HB7 := Lib.hid (below_then HB6.out hb7)
 obtain ⟨os, hos⟩ : ∃ os, os = Sha.sum (laidT n p b) := ⟨_, rfl⟩
 rw [← hos]
 have HOS := Lib.hid hos
 have HOL : Hid (os.length = 32) := Lib.hid (by rw [hos]; exact sum_len _)
 have HK7 : Hid (Blk (w7.alloc (.cells (u8s (List.replicate 32 0)) 65)) w7.heap.size 65 (u8s (List.replicate 32 0))) := Lib.hid (Blk.new w7 _ _)
 clear hb7 CS HRT hos
 go_wp2_with (refine wpList_store_row rfl 65 (.tmp 8) (.tmp 22) rfl w7.heap.size (u8s os) rfl rfl 65 _ HK7.out (by rw [u8s_size, HOL.out]; kernel_rfl) (by rw [u8s_size, u8s_size, HOL.out]; rfl) (u8s_one _) ?_)
 obtain ⟨w8, hw8⟩ : ∃ w8, w8 = (w7.alloc (.cells (u8s (List.replicate 32 0)) 65)).setRow w7.heap.size (u8s os) := ⟨_, rfl⟩
 have HK8 : Hid (Blk w8 w7.heap.size 65 (u8s os)) := Lib.hid (by rw [hw8]; exact HK7.out.row _)
 have HB8 : Hid (Below w.heap.size w w8) := Lib.hid (by rw [hw8]; exact below_then HB7.out (below_row ((Below.refl _ _).alloc (Nat.le_refl _) _) (Nat.le_refl _) _))
 change Code.wp _ _ _ _ ((w7.alloc (.cells (u8s (List.replicate 32 0)) 65)).setRow w7.heap.size (u8s os))
 rw [← hw8]
 clear hw8 HK7
 generalize w7.heap.size = g8 at HK8 ⊢
 simp only [Act.put]
 go_wp2_with fail
 obtain ⟨w9, hw9⟩ : ∃ w9, w9 = w8.drew := ⟨_, rfl⟩
 have HB9 : Hid (Below w.heap.size w w9) := Lib.hid (by rw [hw9]; exact below_drewN HB8.out 1)
 have HK9 : Hid (Blk w9 g8 65 (u8s os)) := Lib.hid (by rw [hw9]; exact HK8.out.drewN 1)
 have hsl : ∀ w, (Instr.sliceAt 65 (.pointer (some ⟨g8, 0, none⟩)) none (some (.int .i64 8)) none).run Tryd.prog w = .ok (.slice (some ⟨g8, 0, none⟩) 8 32) w := fun w => by kernel_rfl
 refine wp_region_upto (S := (fun _ => True)) (b := 99) (by kernel_rfl) ?_
 change Upto _ _ _ _ _ _ _ _ _ w8.drew
 rw [← hw9]
 clear hw9
 refine Upto.takeY (i := 0) (v := ?_) rfl (by kernel_rfl) (by kernel_rfl) (by kernel_rfl) (by kernel_rfl) (fun _ _ _ h => h) (Or.inl ⟨by rfl, ?_⟩) (fun _ => trivial) ?_
 rotate_left
 ·intro w _; go_simp; with_reducible rfl
 try simp only [Act.put, List.getElem_toArray, List.getElem_cons_zero, List.setIfInBounds_toArray, List.set_cons_zero, List.set_cons_succ]
 refine Upto.takeY (i := 1) (v := ?_) rfl (by kernel_rfl) (by kernel_rfl) (by kernel_rfl) (by kernel_rfl) (fun _ _ _ h => h) (Or.inl ⟨by rfl, ?_⟩) (fun _ => trivial) ?_
 rotate_left
 ·intro w _; go_simp; with_reducible rfl
 try simp only [Act.put, List.getElem_toArray, List.getElem_cons_zero, List.getElem_cons_succ, List.setIfInBounds_toArray, List.set_cons_zero, List.set_cons_succ]
 refine Upto.takeY (i := 5) (v := ?_) rfl (by kernel_rfl) (by kernel_rfl) (by kernel_rfl) (by kernel_rfl) (fun _ _ _ h => h) (Or.inl ⟨by rfl, ?_⟩) (fun _ => trivial) ?_
 rotate_left
 ·intro w _; go_simp; with_reducible rfl
 try simp only [Act.put, List.getElem_toArray, List.getElem_cons_zero, List.getElem_cons_succ, List.setIfInBounds_toArray, List.set_cons_zero, List.set_cons_succ]
 refine Upto.takeY (i := 3) (v := .slice (some ⟨g8, 0, none⟩) 8 32) rfl (by kernel_rfl) (by kernel_rfl) (by kernel_rfl) (by kernel_rfl) (fun _ _ _ h => h) (Or.inl ⟨by rfl, ?_⟩) (fun _ => trivial) ?_
 ·intro w' _; go_simp; first | done | rw [hsl]
 try simp only [Act.put, List.getElem_toArray, List.getElem_cons_zero, List.getElem_cons_succ, List.setIfInBounds_toArray, List.set_cons_zero, List.set_cons_succ]
 refine Upto.one (i := 2) (by kernel_rfl) rfl (by rfl) (fun K hK => ?_)
 go_simp
 refine (C3 _).mono ?_
 rintro e w10 ⟨g10, rfl, hr10, hb10⟩
 have HB10 := Lib.hid (below_then HB9.out hb10)
 have HK10 := Lib.hid (HK9.out.below hb10 HK9.out.lt)
 have HR10 := Lib.hid hr10
 dsimp only
 refine hK _ _ (fun _ _ => trivial) ?_; clear hK K C3 hr10 hb10
 try simp only [Act.put, List.getElem_toArray, List.getElem_cons_zero, List.getElem_cons_succ, List.setIfInBounds_toArray, List.set_cons_zero, List.set_cons_succ]
 have HO10 : Hid (Rd w10 (.slice (some ⟨g8, 0, none⟩) 8 32) (os.take 8)) := Lib.hid ⟨_, 32, by rw [List.length_take, HOL.out]; rfl, by rw [List.length_take, HOL.out]; decide, fun _ => ⟨g8, 0, rfl, HK10.out.lt, fun i hi => by
  rw [List.length_take, HOL.out] at hi
  rw [Nat.zero_add, HK10.out.cell i, u8s_get _ _ (by rw [HOL.out]; omega)]
  congr 3
  simp only [List.getD, List.getElem?_take, if_pos (show i < 8 by omega)]⟩⟩
 have HN2 : Hid ((Oc.nums 2 l).length = 2) := Lib.hid (Oc.nums_len _ _)
 have HN8 : Hid ((os.take 8).length = 8) := Lib.hid (by rw [List.length_take, HOL.out]; rfl)
 refine Upto.one (i := 4) (by kernel_rfl) rfl (by rfl) (fun K hK => ?_)
 refine wp_appendFull (.tmp 25) (.tmp 26) rfl g10 2 (Oc.nums 2 l) rfl HR10.out (by rw [HN2.out]; decide) _ rfl _ HO10.out (by rw [HN8.out]; decide) (by rw [HN2.out, HN8.out]; decide) ?_
 intro v11 w11 ho11 hg11
 have HB11 := Lib.hid (below_grown HB10.out hg11)
 have HD11 : Hid (Below w10.heap.size w10 w11) := Lib.hid (below_grown (Below.refl _ _) hg11)
 have HO11 : Hid (w11.ownsRow w10.heap.size 5 1 v11 (Oc.nums 2 l ++ os.take 8).length (cellsB (Oc.nums 2 l ++ os.take 8))) := Lib.hid ho11
 have HR11 := Lib.hid (HR.out.below HB11.out (Nat.le_refl _))
 refine hK _ _ (fun _ _ => trivial) ?_; clear hK K ho11 hg11
 try simp only [Act.put, List.getElem_toArray, List.getElem_cons_zero, List.getElem_cons_succ, List.setIfInBounds_toArray, List.set_cons_zero, List.set_cons_succ]
 refine Upto.one (i := 6) (by kernel_rfl) rfl (by rfl) (fun K hK => ?_)
 refine wp_appendB (.tmp 27) (.tmp 28) rfl w10.heap.size _ (Oc.nums 2 l ++ os.take 8) rfl HO11.out HD11.out.size _ rfl b HR11.out (by rw [List.length_append, HN2.out, HN8.out, HLL.out]; omega) ?_
 intro v12 w12 ho12 hg12
 have HD12 : Hid (Below w10.heap.size w10 w12) := Lib.hid (below_ownB rfl HD11.out HO11.out hg12)
 have HB12 : Hid (Below w.heap.size w w12) := Lib.hid (below_then HB10.out HD12.out)
 obtain ⟨h0, hh0⟩ : ∃ h0, h0 = Oc.nums 2 l ++ os.take 8 ++ b := ⟨_, rfl⟩
 have HHL : Hid (h0.length = 10 + l) := Lib.hid (by rw [hh0, List.length_append, List.length_append, HN2.out, HN8.out, HLL.out])
 have HHE : Hid (h0 = laidH n p b ++ b) := Lib.hid (by rw [hh0, HOS.out, ← HLL.out]; rfl)
 rw [← hh0] at ho12
 have HO12 : Hid (w12.ownsRow w10.heap.size 5 1 v12 h0.length (cellsB h0)) := Lib.hid ho12
 refine hK _ _ (fun _ _ => trivial) ?_; clear hK K ho12 hg12 hh0 HO11 HR11 HO10 HR10 HN2 HN8
 try simp only [Act.put, List.getElem_toArray, List.getElem_cons_zero, List.getElem_cons_succ, List.setIfInBounds_toArray, List.set_cons_zero, List.set_cons_succ]
 refine Upto.one (i := 7) (by kernel_rfl) rfl (by rfl) (fun K hK => ?_)
 go_simp
 refine hK _ _ (fun _ _ => trivial) ?_; clear hK K
 try simp only [Act.put, List.getElem_toArray, List.getElem_cons_zero, List.getElem_cons_succ, List.setIfInBounds_toArray, List.set_cons_zero, List.set_cons_succ]
 refine Upto.done (by kernel_rfl) ?_ _
 obtain ⟨pd, hpd⟩ : ∃ pd, pd = (32 - h0.length % 32) % 32 := ⟨_, rfl⟩
 have HPD := Lib.hid hpd
 obtain ⟨A12, c12, hv12⟩ := row_slice HO12.out
 obtain ⟨m12, hm12⟩ : ∃ m, m = h0.length := ⟨_, rfl⟩
 rw [← hm12] at hv12
 subst hv12
 have HM12 : Hid (m12 = h0.length + 0) := Lib.hid hm12
 have HO0 : Hid (w12.ownsRow w10.heap.size 5 1 (.slice A12 m12 c12) (h0 ++ List.replicate 0 0).length (cellsB (h0 ++ List.replicate 0 0))) := Lib.hid (by rw [List.replicate_zero, List.append_nil]; exact HO12.out)
 clear hpd hm12 HO12
 go_wp2_with fail
 go_loopw [9] (fun v wr => ∃ (k mm : Nat) (A' : Option Addr) (c' : Nat), k ≤ pd ∧ v = .slice A' mm c' ∧ Hid (mm = h0.length + k) ∧ Hid (wr.ownsRow w10.heap.size 5 1 (.slice A' mm c') (h0 ++ List.replicate k 0).length (cellsB (h0 ++ List.replicate k 0))) ∧ Hid (Below w10.heap.size w10 wr)) (fun v _ => 3100 - (match v with | .slice _ n _ => n | _ => 0))
 case atStart => exact ⟨0, m12, A12, c12, Nat.zero_le _, rfl, HM12, HO0, HD12⟩
 case round =>
  obtain ⟨k, mm, A', c', hk, rfl, HMM, HO, HD⟩ := hrel
  have hmz : (mm : Int) ≤ 3050 := by have := HMM.out; have := HHL.out; have := HPD.out; omega
  have hml : mm ≤ 3050 := by omega
  obtain ⟨r, hr⟩ : ∃ r, r = mm % 32 := ⟨_, rfl⟩
  have t1 : ((mm : Int)).tmod 32 = (r : Int) := by rw [hr, Int.tmod_eq_emod_of_nonneg (by omega)]; omega
  have t2 : (mm : Int) % 32 = (r : Int) := by rw [hr]; omega
  by_cases hlt : k < pd
  ·have hr0 : r ≠ 0 := by rw [hr, HMM.out]; have := HPD.out; omega
   have b1 : ((r : Int) == 0) = false := by simp; omega
   have b2 : ((r : Int) != 0) = true := by simp; omega
   have HR1 := Lib.hid hlt
   have HML := Lib.hid hml
   clear hr hr0 hlt hk hml
   go_wp2_with (with_reducible (show wpList _ _ _ (Oper.mk _ (Op.call (Call.mk (Callee.builtin Builtin.append) _ _)) _ _ _ _ :: _) _ _); refine pause ?_)
   unfold Paused
   have HN := Lib.hid (Blk.new wr 5 #[.int .u8 0])
   have HO2 : Hid ((wr.alloc (.cells #[.int .u8 0] 5)).ownsRow w10.heap.size 5 1 (.slice A' mm c') (h0 ++ List.replicate k 0).length (cellsB (h0 ++ List.replicate k 0))) := Lib.hid (ownsRow_alloc HO.out _)
   have HD2 : Hid (Below w10.heap.size w10 (wr.alloc (.cells #[.int .u8 0] 5))) := Lib.hid (below_then HD.out (below_al wr _))
   have HRD : Hid (Rd (wr.alloc (.cells #[.int .u8 0] 5)) (.slice (some ⟨wr.heap.size, 0, none⟩) 1 1) [0]) := Lib.hid ⟨_, 1, rfl, Nat.le_refl _, fun _ => ⟨wr.heap.size, 0, rfl, HN.out.lt, fun i hi => by
    obtain rfl : i = 0 := by simpa using hi
    exact HN.out.cell 0⟩⟩
   refine wpList_appendB rfl (.tmp 34) (.tmp 35) rfl w10.heap.size _ (h0 ++ List.replicate k 0) rfl HO2.out HD2.out.size _ rfl [0] HRD.out (by rw [List.length_append, List.length_replicate, HHL.out]; have := HPD.out; have := HR1.out; show _ + 1 ≤ _; omega) ?_
   intro v13 w13 ho13 hg13
   have HD13 : Hid (Below w10.heap.size w10 w13) := Lib.hid (below_ownB rfl HD2.out HO2.out hg13)
   rw [show h0 ++ List.replicate k 0 ++ [0] = h0 ++ List.replicate (k + 1) 0 by rw [List.append_assoc, List.replicate_succ']] at ho13
   obtain ⟨A13, c13, hv13⟩ := row_slice ho13
   have HM13 : Hid (mm + 1 = h0.length + (k + 1)) := Lib.hid (by have := HMM.out; omega)
   have hml2 : (h0 ++ List.replicate (k + 1) 0).length = mm + 1 := by rw [List.length_append, List.length_replicate, HM13.out]
   rw [hml2] at hv13
   subst hv13
   have HO13 := Lib.hid ho13
   clear hml2 ho13 hg13 HRD HO2 HD2 HN t1 t2 b1 b2
   go_wp2
   go_roundw
   case rel => exact ⟨k + 1, mm + 1, A13, c13, HR1.out, rfl, HM13, HO13, HD13⟩
   case measure => have := HML.out; dsimp only; omega
  ·obtain rfl : k = pd := by omega
   have hr0 : r = 0 := by rw [hr, HMM.out]; have := HPD.out; omega
   subst hr0
   have HR13 : Hid (Rd wr (.slice A' mm c') (h0 ++ List.replicate k 0)) := Lib.hid (rd_of_own HO.out rfl)
   have HAA : Hid (∃ g, A' = some ⟨g, 0, none⟩) := Lib.hid (by
    rcases HO.out.2 with ⟨e, h⟩ | ⟨g, cap, cur, e, _⟩
    ·rw [List.length_append] at h
     have := HHL.out
     omega
    ·injection e with e _ _
     exact ⟨g, e⟩)
   have HMB : Hid (10 ≤ mm) := Lib.hid (by have := HMM.out; have := HHL.out; omega)
   have HBF : Hid (Below w.heap.size w wr) := Lib.hid (below_then HB10.out HD.out)
   clear hr hk hlt HO
   go_wp2_with fail
   go_ret
   obtain ⟨g, rfl⟩ := HAA.out
   exact ⟨g, mm, c', b ++ List.replicate k 0, rfl, HMB.out, by rw [← List.append_assoc, ← HHE.out]; exact HR13.out, HBF.out⟩
end Go.Proofs.YtdokojlgcplefaaDoor
