/- Layer 5: a record's sectors are written. -/
import Derived.Test.YtdokojlgcplefaaDoorMHv7
namespace Go.Proofs.YtdokojlgcplefaaDoor
open Go Go.RowKit
namespace Hv
def putN (f at_ : Nat) (all : List Nat) : Nat → Nat → M
 | _, 0 => fun S => (true, S)
 | i, r + 1 => andM (wrM (f + (at_ + i)) ((all.drop (32 * i)).take 32)) (putN f at_ all (i + 1) r)
def putM (f at_ n p : Nat) (b : List Nat) : M := putN f at_ (recB n p b) 0 (need (b.length : Int))
end Hv
theorem recB_len {n p : Nat} {b : List Nat} (h1 : 1 ≤ b.length) (h2 : b.length ≤ 3000) : (Hv.recB n p b).length = 32 * Hv.need (b.length : Int) := by
 unfold Hv.recB
 rw [Hv.padTo_len]
 have := Hv.need_of h1 h2
 simp [Hv.sum8_len]
 omega
theorem recB_byte {n p : Nat} {b : List Nat} (hb : Sha.Byte b) (h2 : b.length ≤ 3000) : Sha.Byte (Hv.recB n p b) := padTo_byte (byte_flat (fun x hx => by
 rcases List.mem_cons.1 hx with rfl | hx
 ·exact byte_of (fun y hy => by
   rcases List.mem_cons.1 hy with rfl | hy
   ·omega
   ·rw [List.mem_singleton.1 hy]; omega)
 ·rcases List.mem_cons.1 hx with rfl | hx
  ·exact sum8_byte _ _
  ·rw [List.mem_singleton.1 hx]; exact hb))
theorem byte_sub {l : List Nat} (h : Sha.Byte l) (i n : Nat) : Sha.Byte ((l.drop i).take n) := byte_of (fun x hx => Oc.bytes_of h x (List.mem_of_mem_drop (List.mem_of_mem_take hx)))
theorem run_sliceLH {P : Program} {t e : TypeId} (ht : P.underlying t = some (.slice e)) (hi : (P.info? e).map (·.size) = some 1) (A : Option Addr) (len cap l h : Nat) (h1 : l ≤ h) (h2 : h ≤ cap)
  {lo hi' : Int} (el : lo = l) (eh : hi' = h) (w : World) :
  (Instr.sliceAt t (.slice A len cap) (some (.int .i64 lo)) (some (.int .i64 hi')) none).run P w = .ok (.slice (if cap = l then A else A.map (·.add l)) (h - l) (cap - l)) w := by
 subst el eh
 cases hq : P.info? e with
 | none => simp [hq] at hi
 | some i =>
  have hs : i.size = 1 := by simpa [hq] using hi
  have hl : ((l : Nat) : Int) ≤ h := by omega
  have hn : ((h : Nat) : Int) ≤ cap := by omega
  simp [Instr.sliceAt, Instr.slice, run_underlying ht, Instr.sliceBounds, run_sliceBound, sizeOf, typeInfo, hq, hs, hl, hn]
theorem takes_sliceLH {P : Program} {ops : Array Oper} {S : World → Prop} {o : Oper} {a : Act} (t : TypeId) (x lo hi : Operand) (ho : o.op = .slice t x (some lo) (some hi) none) (hw : Region.wanted o (yielded ops a.tmps) = true) (v vl vh u : Value) (hx : a.eval x = v) (hl : a.eval lo = vl) (hh : a.eval hi = vh)
  (hS : ∀ w, S w → (Instr.sliceAt t v (some vl) (some vh) none).run P w = .ok u w) : YieldsIf P ops S o u a :=
 Or.inl ⟨hw, fun w h => by
  have hk := hS w h
  unfold execOp
  simp [ho, hx, hl, hh, hk]⟩
set_option maxRecDepth 100000 in
set_option maxHeartbeats 1000000 in
theorem hput_any {B d k : Nat} {S : Dk.D} (f z at_ n p : Nat) (A : Option Addr) (l c : Nat) (bs : List Nat) (a : Nat → Addr) (w0 w : World) (h : DkX B w d S k) (hbl : bs.length = l) (h1 : 1 ≤ l) (h2 : l ≤ 3000) (hr : Rd w (.slice A l c) bs) (hb : Sha.Byte bs) (hi : f + at_ + Hv.need (l : Int) ≤ S.size) (hk : k + Hv.need (l : Int) < 1000000) (hn : n ≤ Hv.top) (hp : p ≤ 1000000) (hE : Env B a w0 w) :
  Calls Tryd.prog 25 #[halfV d f z, .int .i64 (at_ : Int), .int .i64 (n : Int), .int .i64 (p : Int), .slice A l c] w fun e w' => e = outc (Hv.putM f at_ n p bs S).1 unitV (a 15) ∧ DkX B w' d (Hv.putM f at_ n p bs S).2 (k + Hv.need (l : Int)) ∧ TFr B w w' := by
 have HB0 : Hid (Below w.heap.size w (halfBox w d f z)) := Lib.hid (below_halfBox w d f z)
 have HD0 := Lib.hid (h.below HB0.out)
 have HE0 := Lib.hid (hE.below HB0.out)
 have HX0 : Hid (Blk (halfBox w d f z) w.heap.size 56 #[.pointer (some ⟨d, 0, none⟩), .int .i64 (f : Int), .int .i64 (z : Int)]) := Lib.hid (Blk.new w _ _)
 have hn62 : n ≤ 4611686018427387903 := by have : n ≤ 1099511627776 := hn; omega
 have CB := recordBytes_any n p A l c bs (a 6) (a 0) (halfBox w d f z) hn62 (by omega) hbl h1 h2 (hr.below HB0.out (Nat.le_refl _)) hb HE0.out.t (HE0.out.s 6 (by omega)).var (HE0.out.s 0 (by omega)).var
 have HSZ : Hid (S.size ≤ 4096) := Lib.hid h.ok.size
 obtain ⟨nd, hnd⟩ : ∃ nd, nd = Hv.need (l : Int) := ⟨_, rfl⟩
 rw [← hnd] at hi hk CB ⊢
 have HL : Hid ((Hv.recB n p bs).length = 32 * nd) := Lib.hid (by rw [recB_len (by omega) (by omega), hbl, hnd])
 have HY : Hid (Sha.Byte (Hv.recB n p bs)) := Lib.hid (recB_byte hb (by omega))
 obtain ⟨M, hM⟩ : ∃ M, M = Hv.putM f at_ n p bs S := ⟨_, rfl⟩
 rw [← hM]
 have HM : Hid (M = Hv.putN f at_ (Hv.recB n p bs) 0 nd S) := Lib.hid (by rw [hM, Hv.putM, hbl, ← hnd])
 have CN := need_any (l : Int)
 rw [← hnd] at CN
 have HI := Lib.hid hi
 obtain ⟨all, hall⟩ : ∃ all, all = Hv.recB n p bs := ⟨_, rfl⟩
 rw [← hall] at CB HL HY HM
 clear h hr hb hE hnd hM hi hall hbl
 unfold halfV
 go_enter Tryd.func25, Tryd.ntmps25
 go_wp2_with fail
 go_at_call 40
 refine CB.mono ?_
 rintro e w1 ⟨g, rfl, hk1, hg1, hb1⟩
 have HK1 := Lib.hid hk1
 have HD1 := Lib.hid (HD0.out.below hb1)
 have HE1 := Lib.hid (HE0.out.below hb1)
 have HX1 := Lib.hid (HX0.out.below hb1 HX0.out.lt)
 have HT1 : Hid (TFr B w w1) := Lib.hid (TFr.below (below_then HB0.out hb1))
 clear hk1 hg1 hb1 CB
 go_wp2_with fail
 go_at_call 22
 refine (CN w1 (WalkArith.wf_i64 (by omega))).mono ?_
 rintro e wn ⟨rfl, rfl⟩
 clear CN
 go_wp2_with fail
 go_loopw [19] (fun j wr => ∃ i : Nat, i ≤ nd ∧ j = .int .i64 (i : Int) ∧ ∃ S', Hid (M = Hv.putN f at_ all i (nd - i) S') ∧ S'.size = S.size ∧ Hid (DkX B wr d S' (k + i)) ∧ Hid (TFr B w1 wr)) (fun j _ => nd - (intOf j).toNat)
 case atStart => exact ⟨0, Nat.zero_le _, rfl, S, HM, rfl, HD1, Lib.hid TFr.refl⟩
 case round =>
  obtain ⟨i, hin, rfl, S', HR, hs', HD, HT⟩ := hrel
  have HX := Lib.hid (HT.out.typed _ _ _ HX1.out (by decide) (by decide))
  have HK := Lib.hid (HT.out.typed _ _ _ HK1.out (by decide) (by decide))
  have HE := Lib.hid (HE1.out.tfr HT.out)
  by_cases hlt : i < nd
  ·have i0 : ((i : Nat) : Int) < (nd : Int) := by omega
   obtain ⟨r, hr⟩ : ∃ r, nd - i = r + 1 := ⟨nd - i - 1, by omega⟩
   have hr2 : r = nd - (i + 1) := by omega
   have HRR := Lib.hid hr
   have HR2 := Lib.hid hr2
   have HLT := Lib.hid hlt
   have HSS := Lib.hid hs'
   have hsl : ∀ w, (Instr.sliceAt 39 (.slice (some ⟨g, 0, none⟩) (32 * nd) (32 * nd)) (some (.int .i64 ((32 * i : Nat) : Int))) (some (.int .i64 ((32 * i + 32 : Nat) : Int))) none).run Tryd.prog w = .ok (.slice (some ⟨g, 32 * i, none⟩) 32 (32 * nd - 32 * i)) w := fun w => by
    rw [run_sliceLH Tryd.underlying39 (by kernel_rfl) _ _ _ (32 * i) (32 * i + 32) (by omega) (by omega) rfl rfl]
    rw [if_neg (by omega), show 32 * i + 32 - 32 * i = 32 by omega]
    simp [Addr.add_mid]
   have CW := fun (wq : World) (hq : DkX B wq d S' (k + i)) (hE : Env B a w0 wq) (hkq : Blk wq g 5 (u8s all)) => xwrite_any f z (at_ + i) (some ⟨g, 32 * i, none⟩) 32 (32 * nd - 32 * i) ((all.drop (32 * i)).take 32) (a 15) wq hq (by rw [HSS.out]; have := HI.out; omega) (by omega) (rdB_of_blk hq hkq (32 * i) 32 (32 * nd - 32 * i) (by rw [HL.out]; omega) (by omega)) (byte_sub HY.out _ _) (by omega) hE.down (hE.ne hq)
   have HCW := Lib.hid CW
   have hb9 : at_ + i < 10000 ∧ nd < 10000 := by have := HSZ.out; have := HI.out; omega
   have W1 : IntKind.i64.wrap ((at_ : Int) + (i : Int)) = ((at_ + i : Nat) : Int) := by rw [IntWalk.i64_in _ (by omega)]; omega
   have W2 : IntKind.i64.wrap ((i : Int) * 32) = ((32 * i : Nat) : Int) := by rw [IntWalk.i64_in _ (by omega)]; omega
   have W3 : IntKind.i64.wrap ((i : Int) + 1) = ((i + 1 : Nat) : Int) := by rw [IntWalk.i64_in _ (by omega)]; omega
   have W4 : IntKind.i64.wrap (((i + 1 : Nat) : Int) * 32) = ((32 * i + 32 : Nat) : Int) := by rw [IntWalk.i64_in _ (by omega)]; omega
   clear hr hr2 hlt hs' hin CW
   go_wp2_with fail
   refine wp_region_held (S := (fun w' => Blk w' w.heap.size 56 #[.pointer (some ⟨d, 0, none⟩), .int .i64 (f : Int), .int .i64 (z : Int)])) (by kernel_rfl) ?_
   change wpAnyH _ _ _ _ _ _ _ _ wr.drew
   refine wpAnyH_take (i := 0) rfl (by kernel_rfl) (by kernel_rfl) (by kernel_rfl) (fun _ _ _ h => h) (takes_row 56 (.tmp 5) rfl (by rfl) w.heap.size rfl 56 _ _ (fun w' h => h) Tryd.underlying56 rfl (by kernel_rfl)) (HX.out.drew) ?_
   try simp only [Act.put, List.getElem_toArray, List.getElem_cons_zero, List.setIfInBounds_toArray, List.set_cons_zero, List.set_cons_succ]
   refine wpAnyH_take (i := 1) (v := ?_) rfl (by kernel_rfl) (by kernel_rfl) (by kernel_rfl) (fun _ _ _ h => h) (Or.inl ⟨by rfl, ?_⟩) (HX.out.drew) ?_
   rotate_left
   ·intro w _; go_simp; with_reducible rfl
   try simp only [Act.put, List.getElem_toArray, List.getElem_cons_zero, List.getElem_cons_succ, List.setIfInBounds_toArray, List.set_cons_zero, List.set_cons_succ]
   refine wpAnyH_take (i := 2) (v := ?_) rfl (by kernel_rfl) (by kernel_rfl) (by kernel_rfl) (fun _ _ _ h => h) (Or.inl ⟨by rfl, ?_⟩) (HX.out.drew) ?_
   rotate_left
   ·intro w _; go_simp; with_reducible rfl
   try simp only [Act.put, List.getElem_toArray, List.getElem_cons_zero, List.getElem_cons_succ, List.setIfInBounds_toArray, List.set_cons_zero, List.set_cons_succ]
   refine wpAnyH_take (i := 3) (v := .int .i64 ((at_ + i : Nat) : Int)) rfl (by kernel_rfl) (by kernel_rfl) (by kernel_rfl) (fun _ _ _ h => h) (Or.inl ⟨by rfl, ?_⟩) (HX.out.drew) ?_
   ·intro w' _; go_simp
   try simp only [Act.put, List.getElem_toArray, List.getElem_cons_zero, List.getElem_cons_succ, List.setIfInBounds_toArray, List.set_cons_zero, List.set_cons_succ]
   refine wpAnyH_take (i := 4) (v := ?_) rfl (by kernel_rfl) (by kernel_rfl) (by kernel_rfl) (fun _ _ _ h => h) (Or.inl ⟨by rfl, ?_⟩) (HX.out.drew) ?_
   rotate_left
   ·intro w _; go_simp; with_reducible rfl
   try simp only [Act.put, List.getElem_toArray, List.getElem_cons_zero, List.getElem_cons_succ, List.setIfInBounds_toArray, List.set_cons_zero, List.set_cons_succ]
   refine wpAnyH_take (i := 5) (v := ?_) rfl (by kernel_rfl) (by kernel_rfl) (by kernel_rfl) (fun _ _ _ h => h) (Or.inl ⟨by rfl, ?_⟩) (HX.out.drew) ?_
   rotate_left
   ·intro w _; go_simp; with_reducible rfl
   try simp only [Act.put, List.getElem_toArray, List.getElem_cons_zero, List.getElem_cons_succ, List.setIfInBounds_toArray, List.set_cons_zero, List.set_cons_succ]
   refine wpAnyH_take (i := 6) (v := .int .i64 ((32 * i : Nat) : Int)) rfl (by kernel_rfl) (by kernel_rfl) (by kernel_rfl) (fun _ _ _ h => h) (Or.inl ⟨by rfl, ?_⟩) (HX.out.drew) ?_
   ·intro w' _; go_simp
   try simp only [Act.put, List.getElem_toArray, List.getElem_cons_zero, List.getElem_cons_succ, List.setIfInBounds_toArray, List.set_cons_zero, List.set_cons_succ]
   refine wpAnyH_take (i := 7) (v := ?_) rfl (by kernel_rfl) (by kernel_rfl) (by kernel_rfl) (fun _ _ _ h => h) (Or.inl ⟨by rfl, ?_⟩) (HX.out.drew) ?_
   rotate_left
   ·intro w _; go_simp; with_reducible rfl
   try simp only [Act.put, List.getElem_toArray, List.getElem_cons_zero, List.getElem_cons_succ, List.setIfInBounds_toArray, List.set_cons_zero, List.set_cons_succ]
   refine wpAnyH_take (i := 8) (v := .int .i64 ((i + 1 : Nat) : Int)) rfl (by kernel_rfl) (by kernel_rfl) (by kernel_rfl) (fun _ _ _ h => h) (Or.inl ⟨by rfl, ?_⟩) (HX.out.drew) ?_
   ·intro w' _; go_simp
   try simp only [Act.put, List.getElem_toArray, List.getElem_cons_zero, List.getElem_cons_succ, List.setIfInBounds_toArray, List.set_cons_zero, List.set_cons_succ]
   refine wpAnyH_take (i := 9) (v := .int .i64 ((32 * i + 32 : Nat) : Int)) rfl (by kernel_rfl) (by kernel_rfl) (by kernel_rfl) (fun _ _ _ h => h) (Or.inl ⟨by rfl, ?_⟩) (HX.out.drew) ?_
   ·intro w' _; go_simp; rw [IntWalk.i64_in _ (by omega)]; omega
   try simp only [Act.put, List.getElem_toArray, List.getElem_cons_zero, List.getElem_cons_succ, List.setIfInBounds_toArray, List.set_cons_zero, List.set_cons_succ]
   refine wpAnyH_take (i := 10) rfl (by kernel_rfl) (by kernel_rfl) (by kernel_rfl) (fun _ _ _ h => h) (takes_sliceLH 39 (.tmp 26) (.tmp 28) (.tmp 31) rfl (by rfl) _ _ _ (.slice (some ⟨g, 32 * i, none⟩) 32 (32 * nd - 32 * i)) rfl rfl rfl (fun w' _ => hsl w')) (HX.out.drew) ?_
   try simp only [Act.put, List.getElem_toArray, List.getElem_cons_zero, List.getElem_cons_succ, List.setIfInBounds_toArray, List.set_cons_zero, List.set_cons_succ]
   refine all_one (i := 11) (by kernel_rfl) rfl (by rfl) (fun K hK => ?_)
   go_simp
   have HDr : Hid (DkX B wr.drew d S' (k + i)) := Lib.hid (HD.out.below (below_drewN (Below.refl _ _) 1))
   have CW := HCW.out wr.drew HDr.out (HE.out.below (below_drewN (Below.refl _ _) 1)) HK.out.drew
   obtain ⟨dn, hdn⟩ : ∃ dn, dn = Dk.done S' := ⟨_, rfl⟩
   rw [← hdn] at CW
   have HTr : Hid (TFr B w1 wr.drew) := Lib.hid (HT.out.trans (TFr.below (below_drewN (Below.refl _ _) 1)))
   cases dn with
   | false =>
    have HFIN : Hid (M = (false, Dk.wrote S' (f + (at_ + i)) ((all.drop (32 * i)).take 32))) := Lib.hid (by rw [HR.out, HRR.out]; exact Hv.andM_no hdn.symm)
    refine CW.mono ?_
    rintro e w2 ⟨rfl, hd2, ht2⟩
    refine ⟨rfl, ?_⟩
    rw [HFIN.out]
    exact ⟨rfl, hd2.mono (by have := HLT.out; omega), HT1.out.trans (HTr.out.trans ht2)⟩
   | true =>
    have HR3 : Hid (M = Hv.putN f at_ all (i + 1) (nd - (i + 1)) (Dk.wrote S' (f + (at_ + i)) ((all.drop (32 * i)).take 32))) := Lib.hid (by rw [HR.out, HRR.out, ← HR2.out]; exact Hv.andM_yes hdn.symm)
    have HS3 : Hid ((Dk.wrote S' (f + (at_ + i)) ((all.drop (32 * i)).take 32)).size = S.size) := Lib.hid (by rw [(wrote_nums _ _ _).1, HSS.out])
    refine CW.mono ?_
    rintro e w2 ⟨rfl, hd2, ht2⟩
    unfold outc
    rw [if_pos rfl]
    dsimp only
    refine hK _ _ (ht2.typed _ _ _ HX.out.drew (by decide) (by decide)) ?_
    have HD2 := Lib.hid hd2
    have HT2 := Lib.hid (HTr.out.trans ht2)
    clear hK K hd2 ht2 CW hdn
    try simp only [Act.put, List.getElem_toArray, List.getElem_cons_zero, List.getElem_cons_succ, List.setIfInBounds_toArray, List.set_cons_zero, List.set_cons_succ]
    refine wpAnyH_done (by kernel_rfl) ?_ _
    go_wp2_with fail
    refine ⟨⟨i + 1, HLT.out, by first | rfl | (simp; done) | (rw [IntWalk.wrap64_in _ (by omega)]; congr 1), _, HR3, HS3.out, HD2, HT2⟩, ?_⟩
    have := HLT.out
    simp [intOf]
    omega
  ·obtain rfl : i = nd := by omega
   have i0 : ¬ ((i : Nat) : Int) < (i : Int) := by omega
   have HFIN : Hid (M = (true, S')) := Lib.hid (by rw [HR.out, Nat.sub_self]; rfl)
   have HTF := Lib.hid (HT1.out.trans HT.out)
   clear hlt hin hs'
   go_wp2_with fail
   go_end0
   rw [HFIN.out]
   exact ⟨rfl, HD.out, HTF.out⟩
end Go.Proofs.YtdokojlgcplefaaDoor
/- Layer 5: lists of records in memory; copies, and whether two lists are the same. -/
namespace Go.Proofs.YtdokojlgcplefaaDoor
open Go Go.RowKit
def RdU (B : Nat) (w : World) (v : Value) (xs : List Nat) : Prop :=
 ∃ A c, v = .slice A xs.length c ∧ xs.length ≤ c ∧ (0 < xs.length → ∃ g o cs, A = some ⟨g, o, none⟩ ∧ B ≤ g ∧ Blk w g 5 cs ∧ ∀ i, i < xs.length → cs[o + i]? = some (.int .u8 ((xs.getD i 0 : Nat) : Int)))
theorem RdU.rd {B : Nat} {w : World} {v : Value} {xs : List Nat} (h : RdU B w v xs) : Rd w v xs := by
 obtain ⟨A, c, rfl, hc, hA⟩ := h
 refine ⟨A, c, rfl, hc, fun h0 => ?_⟩
 obtain ⟨g, o, cs, e, _, hb, hx⟩ := hA h0
 exact ⟨g, o, e, hb.lt, fun i hi => (hb.cell (o + i)).trans (hx i hi)⟩
theorem RdU.of {B : Nat} {w w' : World} {v : Value} {xs : List Nat} (h : RdU B w v xs) (k : ∀ b cs, Blk w b 5 cs → Blk w' b 5 cs) : RdU B w' v xs := by
 obtain ⟨A, c, rfl, hc, hA⟩ := h
 refine ⟨A, c, rfl, hc, fun h0 => ?_⟩
 obtain ⟨g, o, cs, e, hB, hb, hx⟩ := hA h0
 exact ⟨g, o, cs, e, hB, k _ _ hb, hx⟩
theorem RdU.below {B : Nat} {w w' : World} {v : Value} {xs : List Nat} (h : RdU B w v xs) (hb : Below w.heap.size w w') : RdU B w' v xs := h.of fun _ _ hk => hk.below hb hk.lt
theorem RdU.tfr {B B' : Nat} {w w' : World} {v : Value} {xs : List Nat} (h : RdU B w v xs) (ht : TFr B' w w') : RdU B w' v xs := h.of fun _ _ hk => ht.typed _ _ _ hk (by decide) (by decide)
theorem RdU.mono {B B' : Nat} {w : World} {v : Value} {xs : List Nat} (h : RdU B w v xs) (hB : B' ≤ B) : RdU B' w v xs := by
 obtain ⟨A, c, rfl, hc, hA⟩ := h
 refine ⟨A, c, rfl, hc, fun h0 => ?_⟩
 obtain ⟨g, o, cs, e, hg, hb, hx⟩ := hA h0
 exact ⟨g, o, cs, e, Nat.le_trans hB hg, hb, hx⟩
theorem RdU.one {B : Nat} {w : World} {v : Value} {xs : List Nat} (h : RdU B w v xs) : v.oneCell' = true := by obtain ⟨A, c, rfl, _⟩ := h; rfl
theorem cloneU_any (v : Value) (xs : List Nat) (w : World) (hv : Rd w v xs) (hz : xs.length ≤ 1099511627776) :
  Calls Tryd.prog 27 #[v] w fun e w' => ∃ A c, e = .returned (.slice A xs.length c) ∧ RdU w.heap.size w' (.slice A xs.length c) xs ∧ Below w.heap.size w w' :=
 (clone_any v xs w hv hz).mono fun e w' ⟨A, c, he, hr, hg, hb⟩ => ⟨A, c, he, by
  obtain ⟨A', c', e1, hc, hA⟩ := hr
  injection e1 with e1 e2 e3
  subst e1 e3
  refine ⟨A, c, rfl, hc, fun h0 => ?_⟩
  obtain ⟨g, cs, eA, hgl, hk⟩ := hg h0
  obtain ⟨b, o, eA2, _, hx⟩ := hA h0
  rw [eA] at eA2
  injection eA2 with eA2
  injection eA2 with eb eo
  subst eb
  subst eo
  exact ⟨g, 0, cs, eA, hgl, hk, fun i hi => (hk.cell (0 + i)).symm.trans (hx i hi)⟩, hb⟩
structure Recs (B : Nat) (w : World) (v : Value) (us : List Value) (ls : List (List Nat)) : Prop where
 row : w.ownsRow B 39 1 v ls.length us
 each : ∀ i u, us[i]? = some u → RdU B w u (ls.getD i [])
theorem Recs.ulen {B : Nat} {w : World} {v : Value} {us : List Value} {ls : List (List Nat)} (h : Recs B w v us ls) : us.length = ls.length := by have := h.row.1; omega
theorem Recs.of {B : Nat} {w w' : World} {v : Value} {us : List Value} {ls : List (List Nat)} (h : Recs B w v us ls) (k : ∀ b t cs, Blk w b t cs → (t = 39 ∨ t = 5) → Blk w' b t cs) : Recs B w' v us ls := by
 refine ⟨⟨h.row.1, ?_⟩, fun i u hu => (h.each i u hu).of fun b cs hk => k b _ cs hk (Or.inr rfl)⟩
 rcases h.row.2 with hn | ⟨g, cap, cur, rfl, hb, hg, hr⟩
 ·exact .inl hn
 ·exact .inr ⟨g, cap, cur, rfl, hb, k g _ cur hg (Or.inl rfl), hr⟩
theorem Recs.below {B : Nat} {w w' : World} {v : Value} {us : List Value} {ls : List (List Nat)} (h : Recs B w v us ls) (hb : Below w.heap.size w w') : Recs B w' v us ls := h.of fun _ _ _ hk _ => hk.below hb hk.lt
theorem Recs.tfr {B B' : Nat} {w w' : World} {v : Value} {us : List Value} {ls : List (List Nat)} (h : Recs B w v us ls) (ht : TFr B' w w') : Recs B w' v us ls := h.of fun _ _ _ hk e => ht.typed _ _ _ hk (by rcases e with rfl | rfl <;> decide) (by rcases e with rfl | rfl <;> decide)
def RdLL (w : World) (v : Value) (vs : List Value) (ls : List (List Nat)) : Prop :=
 ∃ A c, v = .slice A ls.length c ∧ ls.length ≤ c ∧ vs.length = ls.length ∧ (0 < ls.length → ∃ b o, A = some ⟨b, o, none⟩ ∧ b < w.heap.size ∧ ∀ i u, vs[i]? = some u → w.cell? ⟨b, o + i, none⟩ = some u) ∧ ∀ i u, vs[i]? = some u → Rd w u (ls.getD i [])
theorem RdLL.below {w w' : World} {v : Value} {vs : List Value} {ls : List (List Nat)} (h : RdLL w v vs ls) {B : Nat} (hb : Below B w w') (hB : w.heap.size ≤ B) : RdLL w' v vs ls := by
 obtain ⟨A, c, rfl, hc, hl, hA, he⟩ := h
 refine ⟨A, c, rfl, hc, hl, fun h0 => ?_, fun i u hu => (he i u hu).below hb hB⟩
 obtain ⟨b, o, e, hbl, hx⟩ := hA h0
 have := hb.size
 exact ⟨b, o, e, by omega, fun i u hu => (hb.cell (p := ⟨b, o + i, none⟩) (by show b < B; omega)).trans (hx i u hu)⟩
theorem Recs.rdLL {B : Nat} {w : World} {v : Value} {us : List Value} {ls : List (List Nat)} (h : Recs B w v us ls) : RdLL w v us ls := by
 have hu := h.ulen
 have he : ∀ i u, us[i]? = some u → Rd w u (ls.getD i []) := fun i u hi => (h.each i u hi).rd
 rcases h.row.2 with ⟨rfl, h0⟩ | ⟨g, cap, cur, rfl, hb, hg, hn, hm, hs, ht⟩
 ·exact ⟨none, 0, by rw [h0], by omega, hu, fun h1 => by omega, he⟩
 ·refine ⟨_, cap, rfl, hn, hu, fun _ => ⟨g, 0, rfl, (Array.getElem?_eq_some_iff.1 hg).1, fun i u hi => ?_⟩, he⟩
  rw [Nat.zero_add, cell_of_row _ _ _ _ _ _ hg]
  have hil : i < us.length := (List.getElem?_eq_some_iff.1 hi).1
  have h2 := congrArg (·[i]?) ht
  simp only [List.getElem?_take, if_pos (show i < ls.length * 1 by omega)] at h2
  rw [show cur[i]? = cur.toList[i]? by simp, h2, hi]
theorem Recs.nil (B : Nat) (w : World) : Recs B w (.slice none 0 0) [] [] := ⟨⟨rfl, .inl ⟨rfl, rfl⟩⟩, fun i u hu => by simp at hu⟩
theorem bsl_info5 : (Tryd.prog.info? 39).map (fun i => (i.zero, i.size, i.bytes)) = some (some (.slice none 0 0), 1, 24) := by kernel_rfl
def nilS : Value := .slice none 0 0
def nilsA (n : Nat) : Array Value := (List.replicate n nilS).toArray
set_option maxRecDepth 100000 in
set_option maxHeartbeats 1000000 in
theorem copies_any (v : Value) (vs : List Value) (ls : List (List Nat)) (w : World) (h : RdLL w v vs ls) (hn : ls.length ≤ 100000) (hz : ∀ l ∈ ls, l.length ≤ 100000) :
  Calls Tryd.prog 30 #[v] w fun e w' => ∃ v', e = .returned v' ∧ (∃ us, Recs w.heap.size w' v' us ls) ∧ Below w.heap.size w w' := by
 obtain ⟨n, hnl⟩ : ∃ n, n = ls.length := ⟨_, rfl⟩
 have HLL := Lib.hid h
 obtain ⟨A, c, rfl, hc, hvl, hA, he⟩ := h
 rw [← hnl] at hc hvl hA hn HLL ⊢
 have HNL := Lib.hid hnl
 have HVL := Lib.hid hvl
 have HZ := Lib.hid hz
 have hmk : (Instr.makeSlice 33 (.int .i64 (n : Int)) (.int .i64 (n : Int))).run Tryd.prog w = .ok (.slice (some ⟨w.heap.size, 0, none⟩) n n) (w.alloc (.cells (nilsA n) 39)) := run_makeOne Tryd.underlying33 bsl_info5 rfl n (by omega) (by omega) rfl w
 have HB0 : Hid (Below w.heap.size w (w.alloc (.cells (nilsA n) 39))) := Lib.hid (below_al w _)
 have HK0 : Hid (Blk (w.alloc (.cells (nilsA n) 39)) w.heap.size 39 (nilsA n)) := Lib.hid (Blk.new w _ _)
 have hcap : n ≤ c := hc
 have HA := Lib.hid hA
 clear hA he hnl hvl hz
 go_enter Tryd.func30, Tryd.ntmps30
 go_wp2_with fail
 obtain ⟨wa, hwa⟩ : ∃ wa, wa = w.alloc (.cells (nilsA n) 39) := ⟨_, rfl⟩
 rw [← hwa] at HB0 HK0 ⊢
 clear hwa hmk
 go_loopw [11] (fun j wr => ∃ k : Nat, k ≤ n ∧ j = .int .i64 k ∧ ∃ us : List Value, us.length = k ∧ Hid (Blk wr w.heap.size 39 (us ++ List.replicate (n - k) nilS).toArray) ∧ Hid (∀ i u, us[i]? = some u → RdU (w.heap.size + 1) wr u (ls.getD i [])) ∧ Hid (Below w.heap.size w wr)) (fun j _ => n - (intOf j).toNat)
 case atStart => exact ⟨0, Nat.zero_le _, rfl, [], rfl, HK0, Lib.hid (fun i u hu => by simp at hu), HB0⟩
 case round =>
  obtain ⟨k, hk, rfl, us, hul, HK, HU, HB⟩ := hrel
  by_cases hlt : k < n
  ·have i0 : ((k : Nat) : Int) < (n : Int) := by omega
   have i1 : (0 : Int) ≤ ((k : Nat) : Int) := by omega
   obtain ⟨b, o, rfl, hbl, hx⟩ := HA.out (by omega)
   obtain ⟨u, hu⟩ : ∃ u, vs[k]? = some u := ⟨vs[k]'(by rw [HVL.out]; exact hlt), List.getElem?_eq_getElem _⟩
   have p0 : wr.cell? ⟨b, o + k, none⟩ = some u := (HB.out.cell (p := ⟨b, o + k, none⟩) hbl).trans (hx k u hu)
   obtain ⟨A', c', eA, _, _, _, heach⟩ := HLL.out
   have hru := (heach k u hu).below HB.out (Nat.le_refl _)
   have hlk : (ls.getD k []).length ≤ 100000 := by
    have hkl : k < ls.length := by rw [← HNL.out]; exact hlt
    rw [List.getD, List.getElem?_eq_getElem hkl]
    exact HZ.out _ (List.getElem_mem _)
   have CC := cloneU_any u (ls.getD k []) wr hru (by omega)
   have HLT := Lib.hid hlt
   have HUL := Lib.hid hul
   obtain ⟨l, hl⟩ : ∃ l, l = ls.getD k [] := ⟨_, rfl⟩
   rw [← hl] at CC
   have HL := Lib.hid hl
   obtain ⟨Au, cu, rfl⟩ : ∃ A' c', u = .slice A' l.length c' := (by obtain ⟨A, c, e, _⟩ := hru; exact ⟨A, c, by rw [hl]; exact e⟩)
   generalize hll : l.length = ll at CC p0 hu
   have HLL2 := Lib.hid hll
   clear hx hru hlk hl hul hlt hk heach eA hll hu
   go_wp2_with fail
   go_at_call 27
   refine CC.mono ?_
   rintro e w2 ⟨A2, c2, rfl, hr2, hb2⟩
   have HKb := Lib.hid (HK.out.below hb2 HK.out.lt)
   have z2 := HKb.out.frozen k
   have p2 : w2.cell? ⟨w.heap.size, k, none⟩ = some nilS := by rw [HKb.out.cell k, List.getElem?_toArray, List.getElem?_append_right (by rw [HUL.out]; omega), HUL.out, Nat.sub_self, List.getElem?_replicate, if_pos (by have := HLT.out; omega)]
   have HB2 := Lib.hid (below_then HB.out hb2)
   have HK3 : Hid (Blk (w2.setCell ⟨w.heap.size, k, none⟩ (.slice A2 ll c2)) w.heap.size 39 ((us ++ [Value.slice A2 ll c2]) ++ List.replicate (n - (k + 1)) nilS).toArray) := Lib.hid (by
    have h3 := HKb.out.set_ k (.slice A2 ll c2)
    have e3 : ((us ++ List.replicate (n - k) nilS).toArray).setIfInBounds k (.slice A2 ll c2) = ((us ++ [Value.slice A2 ll c2]) ++ List.replicate (n - (k + 1)) nilS).toArray := by
     rw [List.setIfInBounds_toArray, show n - k = (n - (k + 1)) + 1 by have := HLT.out; omega, List.replicate_succ, List.set_append_right _ _ (by rw [HUL.out]; omega), HUL.out, Nat.sub_self]
     simp
    rwa [e3] at h3)
   have HU3 : Hid (∀ i u, (us ++ [Value.slice A2 ll c2])[i]? = some u → RdU (w.heap.size + 1) (w2.setCell ⟨w.heap.size, k, none⟩ (.slice A2 ll c2)) u (ls.getD i [])) := Lib.hid (fun i u hi => by
    have key : ∀ xs, RdU (w.heap.size + 1) w2 u xs → RdU (w.heap.size + 1) (w2.setCell ⟨w.heap.size, k, none⟩ (.slice A2 ll c2)) u xs := fun xs hx => by
     obtain ⟨A, c, rfl, hc, hA⟩ := hx
     refine ⟨A, c, rfl, hc, fun h0 => ?_⟩
     obtain ⟨g, o, cs, e, hB, hb, hy⟩ := hA h0
     exact ⟨g, o, cs, e, hB, hb.far (by show g ≠ w.heap.size; omega) _, hy⟩
    rcases Nat.lt_or_ge i us.length with h4 | h4
    ·rw [List.getElem?_append_left h4] at hi
     exact key _ ((HU.out i u hi).below hb2)
    ·rw [List.getElem?_append_right h4] at hi
     have h5 : i - us.length < 1 := (List.getElem?_eq_some_iff.1 hi).1
     have h6 : i = k := by rw [← HUL.out]; omega
     rw [show i - us.length = 0 by omega] at hi
     obtain rfl := Option.some.inj hi
     rw [h6, ← HL.out]
     have hB5 : w.heap.size + 1 ≤ wr.heap.size := HK.out.lt
     exact key l (RdU.mono hr2 hB5))
   have HB3 : Hid (Below w.heap.size w (w2.setCell ⟨w.heap.size, k, none⟩ (.slice A2 ll c2))) := Lib.hid (HB2.out.setCell (p := ⟨w.heap.size, k, none⟩) (Nat.le_refl _) _)
   clear hr2 hb2 CC
   go_wp2_with fail
   refine ⟨⟨k + 1, HLT.out, by simp, us ++ [Value.slice A2 ll c2], by rw [List.length_append, HUL.out]; rfl, HK3, HU3, HB3⟩, by have := HLT.out; simp [intOf]; omega⟩
  ·obtain rfl : k = n := by omega
   have i0 : ¬ ((k : Nat) : Int) < (k : Int) := by omega
   clear hk hlt
   go_wp2_with fail
   go_ret
   have e0 : (us ++ List.replicate (k - k) nilS).toArray = us.toArray := by simp
   have hk0 := HK.out
   rw [e0] at hk0
   refine ⟨_, rfl, ⟨us, ⟨⟨by have := HNL.out; omega, .inr ⟨w.heap.size, k, us.toArray, by rw [← HNL.out]; rfl, Nat.le_refl _, hk0, Nat.le_of_eq HNL.out.symm, by unfold maxLen; omega, by simp; omega, ?_⟩⟩, fun i u hu => (HU.out i u hu).mono (by omega)⟩⟩, HB.out⟩
   have := HNL.out
   simp only [List.take_of_length_le (show us.length ≤ ls.length * 1 by omega)]
set_option maxRecDepth 100000 in
set_option maxHeartbeats 1000000 in
theorem sameLists_yes (u v : Value) (us vs : List Value) (ls : List (List Nat)) (w : World) (h1 : RdLL w u us ls) (h2 : RdLL w v vs ls) (hn : ls.length ≤ 100000) :
  Calls Tryd.prog 13 #[u, v] w fun e w' => e = .returned (.bool true) ∧ ∃ m, w' = w.drewN m := by
 obtain ⟨n, hnl⟩ : ∃ n, n = ls.length := ⟨_, rfl⟩
 obtain ⟨A1, c1, rfl, hc1, hl1, hA1, he1⟩ := h1
 obtain ⟨A2, c2, rfl, hc2, hl2, hA2, he2⟩ := h2
 rw [← hnl] at hc1 hl1 hA1 hc2 hl2 hA2 hn ⊢
 have HA1 := Lib.hid hA1
 have HA2 := Lib.hid hA2
 have HE1 := Lib.hid he1
 have HE2 := Lib.hid he2
 have HL1 := Lib.hid hl1
 have HL2 := Lib.hid hl2
 clear hA1 hA2 he1 he2 hl1 hl2 hnl
 go_enter Tryd.func13, Tryd.ntmps13
 go_wp2_with fail
 go_loopw [13] (fun j wr => ∃ k : Nat, k ≤ n ∧ j = .int .i64 k ∧ ∃ m, wr = w.drewN m) (fun j _ => n - (intOf j).toNat)
 case atStart => exact ⟨0, Nat.zero_le _, rfl, 0, rfl⟩
 case round =>
  obtain ⟨k, hk, rfl, m, rfl⟩ := hrel
  by_cases hlt : k < n
  ·have i0 : ((k : Nat) : Int) < (n : Int) := by omega
   have i1 : (0 : Int) ≤ ((k : Nat) : Int) := by omega
   obtain ⟨b1, o1, rfl, hb1, hx1⟩ := HA1.out (by omega)
   obtain ⟨b2, o2, rfl, hb2, hx2⟩ := HA2.out (by omega)
   obtain ⟨u1, hu1⟩ : ∃ u, us[k]? = some u := ⟨us[k]'(by rw [HL1.out]; exact hlt), List.getElem?_eq_getElem _⟩
   obtain ⟨u2, hu2⟩ : ∃ u, vs[k]? = some u := ⟨vs[k]'(by rw [HL2.out]; exact hlt), List.getElem?_eq_getElem _⟩
   obtain ⟨wo, hwo⟩ : ∃ wo, wo = w.drewN m := ⟨_, rfl⟩
   have p1 : wo.cell? ⟨b1, o1 + k, none⟩ = some u1 := by rw [hwo]; exact hx1 k u1 hu1
   have p2 : wo.cell? ⟨b2, o2 + k, none⟩ = some u2 := by rw [hwo]; exact hx2 k u2 hu2
   have r1 := HE1.out k u1 hu1
   have r2 := HE2.out k u2 hu2
   obtain ⟨T, hT⟩ : ∃ T, T = textOf (ls.getD k []) := ⟨_, rfl⟩
   have q1 : ∀ q, (convert 39 9 u1).run Tryd.prog (wo.drewN q) = .ok (.string T) (wo.drewN q) := fun q => by rw [hT, hwo]; exact conv_rd (w := (w.drewN m).drewN q) r1
   have q2 : ∀ q, (convert 39 9 u2).run Tryd.prog (wo.drewN q) = .ok (.string T) (wo.drewN q) := fun q => by rw [hT, hwo]; exact conv_rd (w := (w.drewN m).drewN q) r2
   have HLT := Lib.hid hlt
   have HWO : Hid (∀ q, ∃ m', wo.drewN q = w.drewN m') := Lib.hid (fun q => ⟨m + q, by rw [hwo]; simp⟩)
   clear hx1 hx2 r1 r2 hT hu1 hu2 hlt hk hb1 hb2
   rw [← hwo]
   clear hwo
   go_wp2_with fail
   go_quiet (fail)
   go_wp2_with fail
   refine ⟨⟨k + 1, HLT.out, by simp, HWO.out _⟩, by have := HLT.out; simp [intOf]; omega⟩
  ·obtain rfl : k = n := by omega
   have i0 : ¬ ((k : Nat) : Int) < (k : Int) := by omega
   clear hk hlt
   go_wp2_with fail
   go_ret
   exact ⟨rfl, _, rfl⟩
end Go.Proofs.YtdokojlgcplefaaDoor
