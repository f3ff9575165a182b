/- Layer 5: one record is read, of however many sectors. -/
import Derived.Test.YtdokojlgcplefaaDoorMHk1s
import Derived.ArgAppend
import Derived.Test.YtdokojlgcplefaaDoorMDisk10s
import Derived.Lib.SlBytesConst
import Derived.Test.YtdokojlgcplefaaDoorMBases
namespace Go.Proofs.YtdokojlgcplefaaDoor
open Go Go.RowKit
def Alls (B : Nat) (w : World) (v : Value) (ys : List Nat) : Prop :=
 (∃ g, v = .slice (some ⟨g, 0, none⟩) 32 32 ∧ ys.length = 32 ∧ Blk w g 66 (u8s ys)) ∨ w.ownsRow B 5 1 v ys.length (cellsB ys)
section
variable {B : Nat} {w w' : World} {v : Value} {ys : List Nat}
theorem Alls.rd (h : Alls B w v ys) : Rd w v ys := by
 rcases h with ⟨g, rfl, hl, hg⟩ | h
 ·exact rd_of_sec hg hl
 ·exact rd_of_own h rfl
theorem Alls.below (h : Alls B w v ys) (hb : Below w.heap.size w w') : Alls B w' v ys := by
 rcases h with ⟨g, rfl, hl, hg⟩ | h
 ·exact .inl ⟨g, rfl, hl, hg.below hb hg.lt⟩
 ·exact .inr (h.kept (only_of_below hb none) (by cases hv : v.ownBlock with | none => exact Or.inl rfl | some g => exact Or.inr (by simp)))
theorem Alls.slice (h : Alls B w v ys) : ∃ g c, v = .slice (some ⟨g, 0, none⟩) ys.length c ∨ ys.length = 0 := by
 rcases h with ⟨g, rfl, hl, _⟩ | h
 ·exact ⟨g, 32, .inl (by rw [hl])⟩
 ·rcases h.2 with ⟨_, h0⟩ | ⟨g, cap, cur, hv, _⟩
  ·exact ⟨0, 0, .inr h0⟩
  ·exact ⟨g, cap, .inl hv⟩
end
set_option maxRecDepth 100000 in
theorem wpList_appendAll {ops : Array Oper} {rest : List Oper} {o : Oper} {a : Act} {w0 w : World} {Q : Exit → Act → World → Prop} (hgd : o.guard = none) (s x : Operand)
  (ho : o.op = .call { callee := .builtin .append, args := #[s, x], argTypes := #[39, 39] }) (v : Value) (ys : List Nat) (hs : a.eval s = v) (hA : Alls w0.heap.size w v ys) (hb : Below w0.heap.size w0 w)
  (u : Value) (hx : a.eval x = u) (xs : List Nat) (hu : Rd w u xs) (hx0 : 0 < xs.length) (hz : ys.length + xs.length ≤ 70368744177664)
  (h : ∀ v' w', Alls w0.heap.size w' v' (ys ++ xs) → Below w0.heap.size w0 w' → wpList Tryd.prog ops Q rest (a.put o.dst v') w') : wpList Tryd.prog ops Q (o :: rest) a w := by
 rcases hA with ⟨g, rfl, hl, hg⟩ | hA
 ·obtain ⟨i0, hi0, hiz, his, hib⟩ := info_parts byte_info
  obtain ⟨A, c, rfl, hc, hAA⟩ := hu
  obtain ⟨b, o', rfl, hbl, hxx⟩ := hAA hx0
  refine wpList_append_grows w hgd s x 39 ho 5 i0 _ 1 1 Tryd.underlying39 hi0 hiz his hib rfl (by decide) (some ⟨g, 0, none⟩) 32 32 (cellsB ys) hs (fun e => by cases e) (by rw [cellsB_len, hl]) (fun b2 e j t hj => ?_) ⟨b, o', none⟩ xs.length c (cellsB xs) hx (by rw [cellsB_len, Nat.mul_one]) (fun j t hj => ?_) (cellsB_one _) (by omega) (by unfold maxLen; omega) (by omega) (fun v' w' h1 h2 => ?_)
  ·injection e with e
   subst e
   have hjl : j < ys.length := by have := (List.getElem?_eq_some_iff.1 hj).1; rwa [cellsB_len] at this
   rw [cellsB_get hjl] at hj
   rw [Addr.add_mid, Nat.zero_add, hg.cell j, u8s_get _ _ hjl, hj]
  ·have hjl : j < xs.length := by have := (List.getElem?_eq_some_iff.1 hj).1; rwa [cellsB_len] at this
   rw [cellsB_get hjl] at hj
   rw [Addr.add_mid, hxx j hjl, hj]
  ·have e0 : cellsB ys ++ cellsB xs = cellsB (ys ++ xs) := by simp [cellsB]
   have e1 : 32 + xs.length = (ys ++ xs).length := by rw [List.length_append, hl]
   rw [e0, e1] at h1
   have hsz := hb.size
   refine h v' w' (.inr (ownsRow_base h1 hsz)) ⟨h2.os.trans hb.os, h2.tape.trans hb.tape, h2.output.trans hb.output, Nat.le_trans hb.size h2.size, fun k hk => (h2.block k (by omega) (by simp)).trans (hb.block k hk)⟩
 ·refine wpList_appendB hgd s x ho w0.heap.size v ys hs hA hb.size u hx xs hu hz (fun v' w' h1 h2 => h v' w' (.inr h1) (below_ownB rfl hb hA h2))
section
variable {B d k : Nat} {S : Dk.D}
set_option maxRecDepth 100000 in
set_option maxHeartbeats 1000000 in
theorem hrecord_any (f z at_ n p : Nat) (w : World) (h : DkX B w d S k) (ho : S.off = false) (hz : at_ < z) (hi : f + z ≤ S.size) (hb0 : Hv.need (Hv.lenOf (Dk.seen S (f + at_)) : Int) ≠ 0) (hb1 : Hv.need (Hv.lenOf (Dk.seen S (f + at_)) : Int) ≤ z - at_) (a : Nat → Addr) (w0 : World) (hE : Env B a w0 w) (hn : n ≤ Hv.top) (hp : p ≤ 1000000) :
  Calls Tryd.prog 51 #[halfV d f z, .int .i64 (at_ : Int), .int .i64 (n : Int), .int .i64 (p : Int)] w fun e w' => Answers w (Hv.recordM S f z at_ n p) e w' := by
 have HB : Hid (Below w.heap.size w (halfBox w d f z)) := Lib.hid (below_halfBox w d f z)
 have HX : Hid (Blk (halfBox w d f z) w.heap.size 56 #[.pointer (some ⟨d, 0, none⟩), .int .i64 (f : Int), .int .i64 (z : Int)]) := Lib.hid (Blk.new w _ _)
 have HD := Lib.hid (h.below HB.out)
 have CR := xread_any f z at_ (halfBox w d f z) HD.out ho (by omega)
 have hsz := h.ok.size
 have HOK := Lib.hid h.ok
 obtain ⟨bs, hbs⟩ : ∃ bs, bs = Dk.seen S (f + at_) := ⟨_, rfl⟩
 obtain ⟨nd, hnd⟩ : ∃ nd, nd = Hv.need (Hv.lenOf bs : Int) := ⟨_, rfl⟩
 obtain ⟨xs, hxs⟩ : ∃ xs, xs = Hv.sectors S (f + at_) nd := ⟨_, rfl⟩
 rw [← hbs] at hb0 hb1
 rw [← hnd] at hb0 hb1
 have HRM : Hid (Hv.recordM S f z at_ n p = if xs = Hv.recB n p ((xs.drop 10).take (Hv.lenOf bs)) then some ((xs.drop 10).take (Hv.lenOf bs)) else none) := Lib.hid (by
  unfold Hv.recordM
  rw [if_neg (by omega), ← hbs, ← hnd, if_neg (by omega), ← hxs])
 obtain ⟨rm, hrm⟩ : ∃ rm, rm = Hv.recordM S f z at_ n p := ⟨_, rfl⟩
 rw [← hrm] at HRM ⊢
 rw [← hbs] at CR
 clear hrm
 have HBL : Hid (bs.length = 32) := Lib.hid (by rw [hbs]; exact seen_len h.ok _)
 have hby : Sha.Byte bs := by rw [hbs]; exact seen_byte h.ok _
 have HXL : Hid (xs.length = 32 * nd) := Lib.hid (by rw [hxs]; exact Hv.sectors_len h.ok _ _)
 have HXY : Hid (Sha.Byte xs) := Lib.hid (by rw [hxs]; exact Hv.sectors_byte h.ok _ _)
 have HXS := Lib.hid hxs
 have HS1 : Hid (bs = Hv.sectors S (f + at_) 1) := Lib.hid (by rw [hbs]; simp [Hv.sectors])
 have h0 := hby 0
 have h1 := hby 1
 have HLO : Hid (Hv.lenOf bs = bs.getD 0 0 * 256 + bs.getD 1 0) := Lib.hid rfl
 have HLT : Hid (Hv.lenOf bs < 65536) := Lib.hid (sector_lt hby)
 generalize hy0 : bs.getD 0 0 = y0 at h0 HLO
 generalize hy1 : bs.getD 1 0 = y1 at h1 HLO
 have HY0 := Lib.hid hy0
 have HY1 := Lib.hid hy1
 obtain ⟨ln, hln⟩ : ∃ ln, ln = Hv.lenOf bs := ⟨_, rfl⟩
 rw [← hln] at HLO HLT HRM hnd
 have hor : bits .or .i64 ((y0 : Int) * 256) (y1 : Int) = (ln : Int) := by rw [HLO.out, ← i64_or y0 y1 h0 h1, Int.natCast_mul]; rfl
 have CN := need_any (ln : Int)
 rw [← hnd] at CN
 have i0 : ¬ (z : Int) ≤ (at_ : Int) := by omega
 have iz : (z : Int) ≤ 4096 := by omega
 have HEN := Lib.hid (hE)
 have hlb := Hv.need_bounds (n := ln) (by rw [← hnd]; exact hb0)
 have hnd2 : nd = (ln + 41) / 32 := by rw [hnd]; exact Hv.need_of hlb.1 hlb.2
 have HND := Lib.hid hnd2
 have HLB := Lib.hid hlb
 have hnd95 : nd ≤ 95 := by omega
 have HF : Hid (f + z ≤ S.size ∧ S.size ≤ 4096) := Lib.hid ⟨hi, hsz⟩
 have HO := Lib.hid ho
 have HP := Lib.hid (⟨hn, hp⟩ : n ≤ Hv.top ∧ p ≤ 1000000)
 have HZ : Hid (at_ + nd ≤ z) := Lib.hid (by omega)
 have HN1 : Hid (1 ≤ nd ∧ nd ≤ 95) := Lib.hid (by omega)
 clear h hbs hy0 hy1 hln hnd hby hE hxs hnd2 hlb hi hsz ho hn hp
 unfold halfV
 go_enter Tryd.func51, Tryd.ntmps51
 go_wp2_with (refine wpList_load_row rfl 56 (.tmp 4) rfl w.heap.size rfl 56 _ (0,0) _ HX.out Tryd.underlying56 rfl (by kernel_rfl) ?_)
 go_at_call 47
 refine CR.mono ?_
 rintro e w1 ⟨g, rfl, hk1, hg1, hb1'⟩
 have p0 : w1.cell? ⟨g, 0, none⟩ = some (.int .u8 (y0 : Int)) := by rw [hk1.cell 0, u8s_get _ _ (by rw [HBL.out]; omega), HY0.out]
 have p1 : w1.cell? ⟨g, 1, none⟩ = some (.int .u8 (y1 : Int)) := by rw [hk1.cell 1, u8s_get _ _ (by rw [HBL.out]; omega), HY1.out]
 have HX1 := Lib.hid (HX.out.below hb1' HX.out.lt)
 have HK1 := Lib.hid hk1
 have HB1 := Lib.hid (below_then HB.out hb1')
 have HD1 := Lib.hid (HD.out.below hb1')
 clear hk1 hg1 hb1' CR
 go_wp2_with fail
 go_quiet (fail)
 obtain ⟨w2, hw2⟩ : ∃ w2, w2 = w1.drewN nq := ⟨_, rfl⟩
 have HB2 : Hid (Below w.heap.size w w2) := Lib.hid (by rw [hw2]; exact below_drewN HB1.out _)
 have HX2 : Hid (Blk w2 w.heap.size 56 #[.pointer (some ⟨d, 0, none⟩), .int .i64 (f : Int), .int .i64 (z : Int)]) := Lib.hid (by rw [hw2]; exact HX1.out)
 have HK2 : Hid (Blk w2 g 66 (u8s bs)) := Lib.hid (by rw [hw2]; exact HK1.out)
 have HD2 : Hid (DkX B w2 d S k) := Lib.hid (by rw [hw2]; exact HD1.out.below (below_drewN (Below.refl _ _) _))
 have c2 : w2.cell? ⟨w.heap.size, 2, none⟩ = some (.int .i64 (z : Int)) := HX2.out.cell 2
 rw [← hw2]
 clear hw2 p0 p1
 go_wp2_with fail
 have b0 : ((nd : Int) == 0) = false := by have := HN1.out; simp; omega
 have i4 : ¬ (z : Int) - (at_ : Int) < (nd : Int) := by have := HZ.out; omega
 have b4 : decide ((z : Int) - (at_ : Int) < (nd : Int)) = false := by simp only [decide_eq_false_iff_not]; exact i4
 go_at_call 22
 refine (CN w2 (WalkArith.wf_i64 (by have := HLT.out; omega))).mono ?_
 rintro e wn ⟨rfl, rfl⟩
 have HG2 : Hid (Alls w2.heap.size w2 (.slice (some ⟨g, 0, none⟩) 32 32) (Hv.sectors S (f + at_) (0 + 1))) := Lib.hid (by rw [Nat.zero_add, ← HS1.out]; exact .inl ⟨g, rfl, HBL.out, HK2.out⟩)
 obtain ⟨m, hm⟩ : ∃ m, nd = m + 1 := ⟨nd - 1, by have := HN1.out; omega⟩
 have HM := Lib.hid hm
 have im : (nd : Int) - 1 = (m : Int) := by omega
 have im2 : wrap64 ((nd : Int) - 1) = (m : Int) := by rw [im]; exact IntWalk.wrap64_in _ (by have := HN1.out; omega)
 clear CN hm hb0 hb1
 go_wp2_with fail
 have HBW : Hid (Below w2.heap.size w2 w2) := Lib.hid (Below.refl _ _)
 go_loopw [9, 45] (fun v j wr => ∃ k' : Nat, k' ≤ m ∧ j = .int .i64 (k' : Int) ∧ ∃ u : Value, u = v ∧ Hid (Alls w2.heap.size wr u (Hv.sectors S (f + at_) (k' + 1))) ∧ Hid (Below w2.heap.size w2 wr)) (fun _ j _ => m - (intOf j).toNat)
 case atStart => exact ⟨0, Nat.zero_le _, rfl, _, rfl, HG2, HBW⟩
 case round =>
  obtain ⟨k', hk', rfl, v, rfl, HG, HW⟩ := hrel
  by_cases hlt : k' < m
  ·have HXr := Lib.hid (HX2.out.below HW.out HX2.out.lt)
   have CR := xread_any f z (at_ + 1 + k') wr (HD2.out.below HW.out) HO.out (by have := HF.out; have := HZ.out; have := HM.out; omega)
   have e3 : ((at_ + 1 + k' : Nat) : Int) = (at_ : Int) + 1 + (k' : Int) := by omega
   rw [e3] at CR
   have i5 : (k' : Int) < (m : Int) := by omega
   have i6 : (m : Int) < 95 := by have := HN1.out; have := HM.out; omega
   have HK := Lib.hid hlt
   clear e3 hlt hk'
   go_wp2_with (refine wpList_load_row rfl 56 (.tmp 4) rfl w.heap.size rfl 56 _ (0,0) _ HXr.out Tryd.underlying56 rfl (by kernel_rfl) ?_)
   go_at_call 47
   refine CR.mono ?_
   rintro e w3 ⟨g3, rfl, hk3, hg3, hb3⟩
   have HA3 := Lib.hid (HG.out.below hb3)
   have HB3 := Lib.hid (below_then HW.out hb3)
   have HRD3 : Hid (Rd w3 (.slice (some ⟨g3, 0, none⟩) 32 32) (Dk.seen S (f + (at_ + 1 + k')))) := Lib.hid (rd_of_sec hk3 (seen_len HOK.out _))
   have HL3 : Hid ((Dk.seen S (f + (at_ + 1 + k'))).length = 32) := Lib.hid (seen_len HOK.out _)
   have HLS : Hid ((Hv.sectors S (f + at_) (k' + 1)).length = 32 * (k' + 1)) := Lib.hid (Hv.sectors_len HOK.out _ _)
   have HSS : Hid (Hv.sectors S (f + at_) (k' + 1) ++ Dk.seen S (f + (at_ + 1 + k')) = Hv.sectors S (f + at_) (k' + 1 + 1)) := Lib.hid (by
    show _ = Hv.sectors S (f + at_) (k' + 1) ++ Dk.seen S (f + at_ + (k' + 1))
    rw [show f + (at_ + 1 + k') = f + at_ + (k' + 1) by omega])
   clear hk3 hg3 hb3 CR HG HW
   go_wp2_with (refine wpList_appendAll (w0 := w2) (by rfl) (.tmp 48) (.tmp 54) (by rfl) _ _ (by rfl) HA3.out HB3.out _ (by rfl) _ HRD3.out (by rw [HL3.out]; decide) (by rw [HL3.out, HLS.out]; have := HK.out; have := HN1.out; have := HM.out; omega) (fun v' w4 h4 hb4 => ?_))
   rw [HSS.out] at h4
   have HA4 := Lib.hid h4
   have HB4 := Lib.hid hb4
   clear h4 hb4 HSS HLS HL3 HRD3 HA3 HB3
   go_wp2
   go_roundw
   case rel => exact ⟨k' + 1, HK.out, by go_num, _, rfl, HA4, HB4⟩
   case measure => have := HK.out; simp [intOf]; omega
  ·obtain rfl : k' = m := by omega
   clear hlt hk'
   have HA : Hid (Alls w2.heap.size wr v xs) := Lib.hid (by
    have h := HG.out
    rwa [← HM.out, ← HXS.out] at h)
   obtain ⟨g6, c6, hv⟩ := HA.out.slice
   have hv := hv.resolve_right (by rw [HXL.out]; have := HN1.out; omega)
   subst hv
   have HRX : Hid (Rd wr (.slice (some ⟨g6, 0, none⟩) xs.length c6) xs) := Lib.hid HA.out.rd
   have hc6 : xs.length ≤ c6 ∧ (0 < xs.length → g6 < wr.heap.size ∧ ∀ i, i < xs.length → wr.cell? ⟨g6, 0 + i, none⟩ = some (.int .u8 ((xs.getD i 0 : Nat) : Int))) := by
    obtain ⟨A, c, e1, e2, e3⟩ := HRX.out
    injection e1 with x1 x2 x3
    subst x1 x3
    refine ⟨e2, fun h0 => ?_⟩
    obtain ⟨b, o, e4, e5, e6⟩ := e3 h0
    injection e4 with e4
    injection e4 with y1 y2 y3
    subst y1 y2
    exact ⟨e5, e6⟩
   have HC6 := Lib.hid hc6
   have hln : 10 + ln ≤ c6 := by have h1 := hc6.1; rw [HXL.out] at h1; have := HND.out; have := HLB.out; omega
   have hsl : ∀ w, (Instr.sliceAt 39 (.slice (some ⟨g6, 0, none⟩) xs.length c6) (some (.int .i64 10)) (some (.int .i64 (10 + (ln : Int)))) none).run Tryd.prog w = .ok (.slice (some ⟨g6, 10, none⟩) ln (c6 - 10)) w := fun w => by
    rw [run_sliceLH Tryd.underlying39 (by kernel_rfl) _ _ _ 10 (10 + ln) (by omega) hln (by rfl) (by omega)]
    rw [if_neg (by have := HLB.out; omega), show 10 + ln - 10 = ln by omega]
    rfl
   obtain ⟨rb, hrb⟩ : ∃ rb, rb = (xs.drop 10).take ln := ⟨_, rfl⟩
   rw [← hrb] at HRM
   have hx10 : 10 + ln ≤ xs.length := by rw [HXL.out]; have := HND.out; have := HLB.out; omega
   have hrl : rb.length = ln := by rw [hrb, List.length_take, List.length_drop]; omega
   have HRL := Lib.hid hrl
   have HRB : Hid (Rd wr (.slice (some ⟨g6, 10, none⟩) ln (c6 - 10)) rb) := Lib.hid ⟨_, _, by rw [hrl], by rw [hrl]; omega, fun h0 => ⟨g6, 10, rfl, (hc6.2 (by omega)).1, fun i hi => by
    rw [show 10 + i = 0 + (10 + i) by omega, (hc6.2 (by omega)).2 (10 + i) (by omega), hrb]
    congr 3
    simp only [List.getD, List.getElem?_take, if_pos (show i < ln by omega), List.getElem?_drop]⟩⟩
   have HRY : Hid (Sha.Byte rb) := Lib.hid (by rw [hrb]; exact byte_sub HXY.out 10 ln)
   have HWB : Hid (Below w.heap.size w wr) := Lib.hid (below_then HB2.out HW.out)
   have HE2 := Lib.hid (HEN.out.below HWB.out)
   have hn62 : n ≤ 4611686018427387903 := by have := HP.out.1; have : n ≤ 1099511627776 := this; omega
   have CB := recordBytes_any n p (some ⟨g6, 10, none⟩) ln (c6 - 10) rb (a 6) (a 0) wr hn62 (by have := HP.out; omega) hrl HLB.out.1 HLB.out.2 HRB.out HRY.out HE2.out.t (HE2.out.s 6 (by omega)).var (HE2.out.s 0 (by omega)).var
   have HNN : Hid (Hv.need (ln : Int) = nd) := Lib.hid (by rw [Hv.need_of HLB.out.1 HLB.out.2, HND.out])
   rw [HNN.out] at CB
   have HYR : Hid (Sha.Byte (Hv.recB n p rb)) := Lib.hid (recB_byte HRY.out (by rw [hrl]; exact HLB.out.2))
   have HLR : Hid ((Hv.recB n p rb).length = 32 * nd) := Lib.hid (by rw [recB_len (by rw [hrl]; exact HLB.out.1) (by rw [hrl]; exact HLB.out.2), hrl, HNN.out])
   have iln : (ln : Int) ≤ 3000 := by have := HLB.out; omega
   clear hrb hrl hc6 hx10 hn62 hln
   go_wp2_with fail
   go_at_call 40
   refine CB.mono ?_
   rintro e w3 ⟨g3, rfl, hk3, hg3, hb3⟩
   have HB3 := Lib.hid (below_then HWB.out hb3)
   have HR3 : Hid (Rd w3 (.slice (some ⟨g3, 0, none⟩) (32 * nd) (32 * nd)) (Hv.recB n p rb)) := Lib.hid ⟨_, _, by rw [HLR.out], by rw [HLR.out]; exact Nat.le_refl _, fun _ => ⟨g3, 0, rfl, hk3.lt, fun i hi => by rw [Nat.zero_add, hk3.cell i, u8s_get _ _ hi]⟩⟩
   have CE := bequal_any _ _ xs (Hv.recB n p rb) w3 (HRX.out.below hb3 (Nat.le_refl _)) HR3.out HXY.out HYR.out
   generalize hq : (xs == Hv.recB n p rb) = bq at CE
   have HB3' := Lib.hid hb3
   clear hk3 hg3 hb3 CB
   go_wp2_with fail
   go_at_call 49
   refine CE.mono ?_
   rintro e w4 ⟨rfl, rfl⟩
   cases bq
   ·have hrm : rm = none := by rw [HRM.out, if_neg (by simpa using hq)]
    clear hq
    go_wp2_with fail
    go_ret
    exact ⟨HB3.out, .inl ⟨hrm, rfl⟩⟩
   ·have hrm : rm = some rb := by rw [HRM.out, if_pos (by simpa using hq)]
    clear hq
    have CC := cloneU_any _ rb w3 (HRB.out.below HB3'.out (Nat.le_refl _)) (by rw [HRL.out]; have := HLB.out; omega)
    go_wp2_with fail
    go_at_call 27
    refine CC.mono ?_
    rintro e w5 ⟨A5, c5, rfl, hr5, hb5⟩
    have HB5 := Lib.hid (below_then HB3.out hb5)
    have HRR5 := Lib.hid hr5
    obtain ⟨A, c, e1, _, hA⟩ := hr5
    injection e1 with e1 e2 e3
    subst e1 e3
    obtain ⟨g5, o5, cs5, rfl, _⟩ := hA (by rw [HRL.out]; exact HLB.out.1)
    clear hA hb5 CC
    go_wp2_with fail
    go_ret
    exact ⟨HB5.out, .inr ⟨rb, _, _, hrm, rfl, HRR5.out.mono (by have := HB3.out.size; omega)⟩⟩
theorem hrecord_all (f z at_ n p : Nat) (w : World) (h : DkX B w d S k) (ho : S.off = false) (hi : f + z ≤ S.size) (a : Nat → Addr) (w0 : World) (hE : Env B a w0 w) (hn : n ≤ Hv.top) (hp : p ≤ 1000000) :
  Calls Tryd.prog 51 #[halfV d f z, .int .i64 (at_ : Int), .int .i64 (n : Int), .int .i64 (p : Int)] w fun e w' => Answers w (Hv.recordM S f z at_ n p) e w' := by
 rcases Nat.lt_or_ge at_ z with hz | hz
 ·by_cases hb : Hv.need (Hv.lenOf (Dk.seen S (f + at_)) : Int) = 0 ∨ z - at_ < Hv.need (Hv.lenOf (Dk.seen S (f + at_)) : Int)
  ·refine (hrecord_bad f z at_ n p w h ho hz hi hb).mono ?_
   rintro e w' ⟨rfl, hb'⟩
   exact ⟨hb', .inl ⟨by unfold Hv.recordM; rw [if_neg (by omega), if_pos hb], rfl⟩⟩
  ·exact hrecord_any f z at_ n p w h ho hz hi (fun e => hb (Or.inl e)) (Nat.le_of_not_lt fun e => hb (Or.inr e)) a w0 hE hn hp
 ·refine (hrecord_out f z at_ n p w hz).mono ?_
  rintro e w' ⟨rfl, hb'⟩
  exact ⟨hb', .inl ⟨Hv.record_out hz, rfl⟩⟩
theorem reads_of {f z n : Nat} {ls : List (List Nat)} (hf : f + z ≤ S.size) (hn : n ≤ Hv.top) (hl : ls.length ≤ 1000000) (h1 : ∀ i, i < ls.length → Hv.recordM S f z (Hv.pos ls i) n i = some (ls.getD i [])) (h2 : Hv.recordM S f z (Hv.pos ls ls.length) n ls.length = none) : Reads S f z n ls := by
 intro i hi B d k a w0 w hD hE ho
 have h := hrecord_all f z (Hv.pos ls i) n i w hD ho hf a w0 hE hn (by omega)
 have e : Hv.recordM S f z (Hv.pos ls i) n i = ls[i]? := by
  rcases Nat.lt_or_ge i ls.length with h3 | h3
  ·rw [h1 i h3, List.getD_eq_getElem?_getD, List.getElem?_eq_getElem h3]
   rfl
  ·obtain rfl : i = ls.length := by omega
   rw [h2, List.getElem?_eq_none h3]
 rwa [e] at h
end
end Go.Proofs.YtdokojlgcplefaaDoor
/- The chapter's example (alive); errors' numbers of a deed. -/
namespace Go.Proofs.YtdokojlgcplefaaDoor
open Go Go.RowKit
namespace Dk
def al1 : D := wrote (fresh 3) 1 [97]
def al2 : D := { al1 with armed := true, left := 0 }
def al3 : D := syncs al2
def al4 : D := crashed al3 (keptTo al3.pend [] al3.pend.length)
end Dk
theorem run_eql_ev (a : Addr) (w : World) : (binOp .eql 27 (ev a) .nilIface).run Tryd.prog w = .ok (.bool false) w := by kernel_rfl
theorem conv_const (w : World) (C : Array Value) (n c : Nat) : (convert 39 39 (.slice (some ⟨w.heap.size, 0, none⟩) n c)).run Tryd.prog (w.alloc (.cells C 5)) = .ok (.slice (some ⟨w.heap.size, 0, none⟩) n c) (w.alloc (.cells C 5 (C.size, C.size + 1))) :=
 Lib.run_convert_bytes_const w 39 5 C n c Tryd.underlying39 Tryd.underlying5
end Go.Proofs.YtdokojlgcplefaaDoor
/- A goal set aside: the walk stands still at it. -/
namespace Go.Proofs.YtdokojlgcplefaaDoor
def Paused (p : Prop) : Prop := p
theorem pause {p : Prop} (h : Paused p) : p := h
end Go.Proofs.YtdokojlgcplefaaDoor
