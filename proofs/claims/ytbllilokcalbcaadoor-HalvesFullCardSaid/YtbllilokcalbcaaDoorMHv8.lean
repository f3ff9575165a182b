/- Layer 5: a record's sectors are written. -/
import Derived.Test.YtbllilokcalbcaaDoorMHv7
namespace Go.Proofs.YtbllilokcalbcaaDoor
open Go Go.RowKit
namespace Hv
/-- r sectors of a row of bytes are written, from the i-th one on -/
def putN (f at_ : Nat) (all : List Nat) : Nat → Nat → M
  | _, 0 => fun S => (true, S)
  | i, r + 1 => andM (wrM (f + (at_ + i)) ((all.drop (32 * i)).take 32)) (putN f at_ all (i + 1) r)
def putM (f at_ n p : Nat) (b : List Nat) : M := putN f at_ (recB n p b) 0 (need (b.length : Int))
end Hv
theorem recB_len {n p : Nat} {b : List Nat} (h1 : 1 ≤ b.length) (h2 : b.length ≤ 3000) : (Hv.recB n p b).length = 32 * Hv.need (b.length : Int) := by
  unfold Hv.recB
  rw [Hv.padTo_len]
  have := Hv.need_of h1 h2
  simp [Hv.sum8_len]
  omega
theorem recB_byte {n p : Nat} {b : List Nat} (hb : Sha.Byte b) (h2 : b.length ≤ 3000) : Sha.Byte (Hv.recB n p b) := padTo_byte (byte_flat (fun x hx => by
  rcases List.mem_cons.1 hx with rfl | hx
  · exact byte_of (fun y hy => by
      rcases List.mem_cons.1 hy with rfl | hy
      · omega
      · rw [List.mem_singleton.1 hy]; omega)
  · rcases List.mem_cons.1 hx with rfl | hx
    · exact sum8_byte _ _
    · rw [List.mem_singleton.1 hx]; exact hb))
theorem byte_sub {l : List Nat} (h : Sha.Byte l) (i n : Nat) : Sha.Byte ((l.drop i).take n) := byte_of (fun x hx => Oc.bytes_of h x (List.mem_of_mem_drop (List.mem_of_mem_take hx)))
theorem run_sliceLH {P : Program} {t e : TypeId} (ht : P.underlying t = some (.slice e)) (hi : (P.info? e).map (·.size) = some 1) (A : Option Addr) (len cap l h : Nat) (h1 : l ≤ h) (h2 : h ≤ cap)
    {lo hi' : Int} (el : lo = l) (eh : hi' = h) (w : World) :
    (Instr.sliceAt t (.slice A len cap) (some (.int .i64 lo)) (some (.int .i64 hi')) none).run P w = .ok (.slice (if cap = l then A else A.map (·.add l)) (h - l) (cap - l)) w := by
  subst el eh
  cases hq : P.info? e with
  | none => simp [hq] at hi
  | some i =>
    have hs : i.size = 1 := by simpa [hq] using hi
    have hl : ((l : Nat) : Int) ≤ h := by omega
    have hn : ((h : Nat) : Int) ≤ cap := by omega
    simp [Instr.sliceAt, Instr.slice, run_underlying ht, Instr.sliceBounds, run_sliceBound, sizeOf, typeInfo, hq, hs, hl, hn]
theorem takes_sliceLH {P : Program} {ops : Array Oper} {S : World → Prop} {o : Oper} {a : Act} (t : TypeId) (x lo hi : Operand) (ho : o.op = .slice t x (some lo) (some hi) none) (hw : Region.wanted o (yielded ops a.tmps) = true) (v vl vh u : Value) (hx : a.eval x = v) (hl : a.eval lo = vl) (hh : a.eval hi = vh)
    (hS : ∀ w, S w → (Instr.sliceAt t v (some vl) (some vh) none).run P w = .ok u w) : YieldsIf P ops S o u a :=
  Or.inl ⟨hw, fun w h => by
    have hk := hS w h
    unfold execOp
    simp [ho, hx, hl, hh, hk]⟩
set_option maxRecDepth 100000 in
set_option maxHeartbeats 1000000 in
theorem hput_any {B d k : Nat} {S : Dk.D} (f z at_ n p : Nat) (A : Option Addr) (l c : Nat) (bs : List Nat) (a : Nat → Addr) (w0 w : World) (h : DkX B w d S k) (hbl : bs.length = l) (h1 : 1 ≤ l) (h2 : l ≤ 3000) (hr : Rd w (.slice A l c) bs) (hb : Sha.Byte bs) (hi : f + at_ + Hv.need (l : Int) ≤ S.size) (hk : k + Hv.need (l : Int) < 1000000) (hn : n ≤ Hv.top) (hp : p ≤ 1000000) (hE : Env B a w0 w) :
    Calls Tryd.prog 29 #[halfV d f z, .int .i64 (at_ : Int), .int .i64 (n : Int), .int .i64 (p : Int), .slice A l c] w fun e w' => e = outc (Hv.putM f at_ n p bs S).1 unitV (a 15) ∧ DkX B w' d (Hv.putM f at_ n p bs S).2 (k + Hv.need (l : Int)) ∧ TFr B w w' := by
  have HB0 : Hid (Below w.heap.size w (halfBox w d f z)) := Lib.hid (below_halfBox w d f z)
  have HD0 := Lib.hid (h.below HB0.out)
  have HE0 := Lib.hid (hE.below HB0.out)
  have HX0 : Hid (Blk (halfBox w d f z) w.heap.size 60 #[.pointer (some ⟨d, 0, none⟩), .int .i64 (f : Int), .int .i64 (z : Int)]) := Lib.hid (Blk.new w _ _)
  have hn62 : n ≤ 4611686018427387903 := by have : n ≤ 1099511627776 := hn; omega
  have CB := recordBytes_any n p A l c bs (a 6) (a 0) (halfBox w d f z) hn62 (by omega) hbl h1 h2 (hr.below HB0.out (Nat.le_refl _)) hb HE0.out.t (HE0.out.s 6 (by omega)).var (HE0.out.s 0 (by omega)).var
  have HSZ : Hid (S.size ≤ 4096) := Lib.hid h.ok.size
  obtain ⟨nd, hnd⟩ : ∃ nd, nd = Hv.need (l : Int) := ⟨_, rfl⟩
  rw [← hnd] at hi hk CB ⊢
  have HL : Hid ((Hv.recB n p bs).length = 32 * nd) := Lib.hid (by rw [recB_len (by omega) (by omega), hbl, hnd])
  have HY : Hid (Sha.Byte (Hv.recB n p bs)) := Lib.hid (recB_byte hb (by omega))
  obtain ⟨M, hM⟩ : ∃ M, M = Hv.putM f at_ n p bs S := ⟨_, rfl⟩
  rw [← hM]
  have HM : Hid (M = Hv.putN f at_ (Hv.recB n p bs) 0 nd S) := Lib.hid (by rw [hM, Hv.putM, hbl, ← hnd])
  have CN := need_any (l : Int)
  rw [← hnd] at CN
  have HI := Lib.hid hi
  obtain ⟨all, hall⟩ : ∃ all, all = Hv.recB n p bs := ⟨_, rfl⟩
  rw [← hall] at CB HL HY HM
  clear h hr hb hE hnd hM hi hall hbl
  unfold halfV
  go_enter Tryd.func29, Tryd.ntmps29
  go_wp2_with fail
  go_at_call 45
  refine CB.mono ?_
  rintro e w1 ⟨g, rfl, hk1, hg1, hb1⟩
  have HK1 := Lib.hid hk1
  have HD1 := Lib.hid (HD0.out.below hb1)
  have HE1 := Lib.hid (HE0.out.below hb1)
  have HX1 := Lib.hid (HX0.out.below hb1 HX0.out.lt)
  have HT1 : Hid (TFr B w w1) := Lib.hid (TFr.below (below_then HB0.out hb1))
  clear hk1 hg1 hb1 CB
  go_wp2_with fail
  go_at_call 20
  refine (CN w1 (WalkArith.wf_i64 (by omega))).mono ?_
  rintro e wn ⟨rfl, rfl⟩
  clear CN
  go_wp2_with fail
  go_loopw [19] (fun j wr => ∃ i : Nat, i ≤ nd ∧ j = .int .i64 (i : Int) ∧ ∃ S', Hid (M = Hv.putN f at_ all i (nd - i) S') ∧ S'.size = S.size ∧ Hid (DkX B wr d S' (k + i)) ∧ Hid (TFr B w1 wr)) (fun j _ => nd - (intOf j).toNat)
  case atStart => exact ⟨0, Nat.zero_le _, rfl, S, HM, rfl, HD1, Lib.hid TFr.refl⟩
  case round =>
    obtain ⟨i, hin, rfl, S', HR, hs', HD, HT⟩ := hrel
    have HX := Lib.hid (HT.out.typed _ _ _ HX1.out (by decide) (by decide))
    have HK := Lib.hid (HT.out.typed _ _ _ HK1.out (by decide) (by decide))
    have HE := Lib.hid (HE1.out.tfr HT.out)
    by_cases hlt : i < nd
    · have i0 : ((i : Nat) : Int) < (nd : Int) := by omega
      obtain ⟨r, hr⟩ : ∃ r, nd - i = r + 1 := ⟨nd - i - 1, by omega⟩
      have hr2 : r = nd - (i + 1) := by omega
      have HRR := Lib.hid hr
      have HR2 := Lib.hid hr2
      have HLT := Lib.hid hlt
      have HSS := Lib.hid hs'
      have hsl : ∀ w, (Instr.sliceAt 39 (.slice (some ⟨g, 0, none⟩) (32 * nd) (32 * nd)) (some (.int .i64 ((32 * i : Nat) : Int))) (some (.int .i64 ((32 * i + 32 : Nat) : Int))) none).run Tryd.prog w = .ok (.slice (some ⟨g, 32 * i, none⟩) 32 (32 * nd - 32 * i)) w := fun w => by
        rw [run_sliceLH Tryd.underlying39 (by kernel_rfl) _ _ _ (32 * i) (32 * i + 32) (by omega) (by omega) rfl rfl]
        rw [if_neg (by omega), show 32 * i + 32 - 32 * i = 32 by omega]
        simp [Addr.add_mid]
      have CW := fun (wq : World) (hq : DkX B wq d S' (k + i)) (hE : Env B a w0 wq) (hkq : Blk wq g 5 (u8s all)) => xwrite_any f z (at_ + i) (some ⟨g, 32 * i, none⟩) 32 (32 * nd - 32 * i) ((all.drop (32 * i)).take 32) (a 15) wq hq (by rw [HSS.out]; have := HI.out; omega) (by omega) (rdB_of_blk hq hkq (32 * i) 32 (32 * nd - 32 * i) (by rw [HL.out]; omega) (by omega)) (byte_sub HY.out _ _) (by omega) hE.down (hE.ne hq)
      have HCW := Lib.hid CW
      have hb9 : at_ + i < 10000 ∧ nd < 10000 := by have := HSZ.out; have := HI.out; omega
      have W1 : IntKind.i64.wrap ((at_ : Int) + (i : Int)) = ((at_ + i : Nat) : Int) := by rw [IntWalk.i64_in _ (by omega)]; omega
      have W2 : IntKind.i64.wrap ((i : Int) * 32) = ((32 * i : Nat) : Int) := by rw [IntWalk.i64_in _ (by omega)]; omega
      have W3 : IntKind.i64.wrap ((i : Int) + 1) = ((i + 1 : Nat) : Int) := by rw [IntWalk.i64_in _ (by omega)]; omega
      have W4 : IntKind.i64.wrap (((i + 1 : Nat) : Int) * 32) = ((32 * i + 32 : Nat) : Int) := by rw [IntWalk.i64_in _ (by omega)]; omega
      clear hr hr2 hlt hs' hin CW
      go_wp2_with fail
      refine wp_region_held (S := (fun w' => Blk w' w.heap.size 60 #[.pointer (some ⟨d, 0, none⟩), .int .i64 (f : Int), .int .i64 (z : Int)])) (by kernel_rfl) ?_
      change wpAnyH _ _ _ _ _ _ _ _ wr.drew
      refine wpAnyH_take (i := 0) rfl (by kernel_rfl) (by kernel_rfl) (by kernel_rfl) (fun _ _ _ h => h) (takes_row 60 (.tmp 5) rfl (by rfl) w.heap.size rfl 60 _ _ (fun w' h => h) Tryd.underlying60 rfl (by kernel_rfl)) (HX.out.drew) ?_
      try simp only [Act.put, List.getElem_toArray, List.getElem_cons_zero, List.setIfInBounds_toArray, List.set_cons_zero, List.set_cons_succ]
      refine wpAnyH_take (i := 1) (v := ?_) rfl (by kernel_rfl) (by kernel_rfl) (by kernel_rfl) (fun _ _ _ h => h) (Or.inl ⟨by rfl, ?_⟩) (HX.out.drew) ?_
      rotate_left
      · intro w _; go_simp; with_reducible rfl
      try simp only [Act.put, List.getElem_toArray, List.getElem_cons_zero, List.getElem_cons_succ, List.setIfInBounds_toArray, List.set_cons_zero, List.set_cons_succ]
      refine wpAnyH_take (i := 2) (v := ?_) rfl (by kernel_rfl) (by kernel_rfl) (by kernel_rfl) (fun _ _ _ h => h) (Or.inl ⟨by rfl, ?_⟩) (HX.out.drew) ?_
      rotate_left
      · intro w _; go_simp; with_reducible rfl
      try simp only [Act.put, List.getElem_toArray, List.getElem_cons_zero, List.getElem_cons_succ, List.setIfInBounds_toArray, List.set_cons_zero, List.set_cons_succ]
      refine wpAnyH_take (i := 3) (v := .int .i64 ((at_ + i : Nat) : Int)) rfl (by kernel_rfl) (by kernel_rfl) (by kernel_rfl) (fun _ _ _ h => h) (Or.inl ⟨by rfl, ?_⟩) (HX.out.drew) ?_
      · intro w' _; go_simp
      try simp only [Act.put, List.getElem_toArray, List.getElem_cons_zero, List.getElem_cons_succ, List.setIfInBounds_toArray, List.set_cons_zero, List.set_cons_succ]
      refine wpAnyH_take (i := 4) (v := ?_) rfl (by kernel_rfl) (by kernel_rfl) (by kernel_rfl) (fun _ _ _ h => h) (Or.inl ⟨by rfl, ?_⟩) (HX.out.drew) ?_
      rotate_left
      · intro w _; go_simp; with_reducible rfl
      try simp only [Act.put, List.getElem_toArray, List.getElem_cons_zero, List.getElem_cons_succ, List.setIfInBounds_toArray, List.set_cons_zero, List.set_cons_succ]
      refine wpAnyH_take (i := 5) (v := ?_) rfl (by kernel_rfl) (by kernel_rfl) (by kernel_rfl) (fun _ _ _ h => h) (Or.inl ⟨by rfl, ?_⟩) (HX.out.drew) ?_
      rotate_left
      · intro w _; go_simp; with_reducible rfl
      try simp only [Act.put, List.getElem_toArray, List.getElem_cons_zero, List.getElem_cons_succ, List.setIfInBounds_toArray, List.set_cons_zero, List.set_cons_succ]
      refine wpAnyH_take (i := 6) (v := .int .i64 ((32 * i : Nat) : Int)) rfl (by kernel_rfl) (by kernel_rfl) (by kernel_rfl) (fun _ _ _ h => h) (Or.inl ⟨by rfl, ?_⟩) (HX.out.drew) ?_
      · intro w' _; go_simp
      try simp only [Act.put, List.getElem_toArray, List.getElem_cons_zero, List.getElem_cons_succ, List.setIfInBounds_toArray, List.set_cons_zero, List.set_cons_succ]
      refine wpAnyH_take (i := 7) (v := ?_) rfl (by kernel_rfl) (by kernel_rfl) (by kernel_rfl) (fun _ _ _ h => h) (Or.inl ⟨by rfl, ?_⟩) (HX.out.drew) ?_
      rotate_left
      · intro w _; go_simp; with_reducible rfl
      try simp only [Act.put, List.getElem_toArray, List.getElem_cons_zero, List.getElem_cons_succ, List.setIfInBounds_toArray, List.set_cons_zero, List.set_cons_succ]
      refine wpAnyH_take (i := 8) (v := .int .i64 ((i + 1 : Nat) : Int)) rfl (by kernel_rfl) (by kernel_rfl) (by kernel_rfl) (fun _ _ _ h => h) (Or.inl ⟨by rfl, ?_⟩) (HX.out.drew) ?_
      · intro w' _; go_simp
      try simp only [Act.put, List.getElem_toArray, List.getElem_cons_zero, List.getElem_cons_succ, List.setIfInBounds_toArray, List.set_cons_zero, List.set_cons_succ]
      refine wpAnyH_take (i := 9) (v := .int .i64 ((32 * i + 32 : Nat) : Int)) rfl (by kernel_rfl) (by kernel_rfl) (by kernel_rfl) (fun _ _ _ h => h) (Or.inl ⟨by rfl, ?_⟩) (HX.out.drew) ?_
      · intro w' _; go_simp; rw [IntWalk.i64_in _ (by omega)]; omega
      try simp only [Act.put, List.getElem_toArray, List.getElem_cons_zero, List.getElem_cons_succ, List.setIfInBounds_toArray, List.set_cons_zero, List.set_cons_succ]
      refine wpAnyH_take (i := 10) rfl (by kernel_rfl) (by kernel_rfl) (by kernel_rfl) (fun _ _ _ h => h) (takes_sliceLH 39 (.tmp 26) (.tmp 28) (.tmp 31) rfl (by rfl) _ _ _ (.slice (some ⟨g, 32 * i, none⟩) 32 (32 * nd - 32 * i)) rfl rfl rfl (fun w' _ => hsl w')) (HX.out.drew) ?_
      try simp only [Act.put, List.getElem_toArray, List.getElem_cons_zero, List.getElem_cons_succ, List.setIfInBounds_toArray, List.set_cons_zero, List.set_cons_succ]
      refine all_one (i := 11) (by kernel_rfl) rfl (by rfl) (fun K hK => ?_)
      go_simp
      have HDr : Hid (DkX B wr.drew d S' (k + i)) := Lib.hid (HD.out.below (below_drewN (Below.refl _ _) 1))
      have CW := HCW.out wr.drew HDr.out (HE.out.below (below_drewN (Below.refl _ _) 1)) HK.out.drew
      obtain ⟨dn, hdn⟩ : ∃ dn, dn = Dk.done S' := ⟨_, rfl⟩
      rw [← hdn] at CW
      have HTr : Hid (TFr B w1 wr.drew) := Lib.hid (HT.out.trans (TFr.below (below_drewN (Below.refl _ _) 1)))
      cases dn with
      | false =>
        have HFIN : Hid (M = (false, Dk.wrote S' (f + (at_ + i)) ((all.drop (32 * i)).take 32))) := Lib.hid (by rw [HR.out, HRR.out]; exact Hv.andM_no hdn.symm)
        refine CW.mono ?_
        rintro e w2 ⟨rfl, hd2, ht2⟩
        refine ⟨rfl, ?_⟩
        rw [HFIN.out]
        exact ⟨rfl, hd2.mono (by have := HLT.out; omega), HT1.out.trans (HTr.out.trans ht2)⟩
      | true =>
        have HR3 : Hid (M = Hv.putN f at_ all (i + 1) (nd - (i + 1)) (Dk.wrote S' (f + (at_ + i)) ((all.drop (32 * i)).take 32))) := Lib.hid (by rw [HR.out, HRR.out, ← HR2.out]; exact Hv.andM_yes hdn.symm)
        have HS3 : Hid ((Dk.wrote S' (f + (at_ + i)) ((all.drop (32 * i)).take 32)).size = S.size) := Lib.hid (by rw [(wrote_nums _ _ _).1, HSS.out])
        refine CW.mono ?_
        rintro e w2 ⟨rfl, hd2, ht2⟩
        unfold outc
        rw [if_pos rfl]
        dsimp only
        refine hK _ _ (ht2.typed _ _ _ HX.out.drew (by decide) (by decide)) ?_
        have HD2 := Lib.hid hd2
        have HT2 := Lib.hid (HTr.out.trans ht2)
        clear hK K hd2 ht2 CW hdn
        try simp only [Act.put, List.getElem_toArray, List.getElem_cons_zero, List.getElem_cons_succ, List.setIfInBounds_toArray, List.set_cons_zero, List.set_cons_succ]
        refine wpAnyH_done (by kernel_rfl) ?_ _
        go_wp2_with fail
        refine ⟨⟨i + 1, HLT.out, by first | rfl | (simp; done) | (rw [IntWalk.wrap64_in _ (by omega)]; congr 1), _, HR3, HS3.out, HD2, HT2⟩, ?_⟩
        have := HLT.out
        simp [intOf]
        omega
    · obtain rfl : i = nd := by omega
      have i0 : ¬ ((i : Nat) : Int) < (i : Int) := by omega
      have HFIN : Hid (M = (true, S')) := Lib.hid (by rw [HR.out, Nat.sub_self]; rfl)
      have HTF := Lib.hid (HT1.out.trans HT.out)
      clear hlt hin hs'
      go_wp2_with fail
      go_end0
      rw [HFIN.out]
      exact ⟨rfl, HD.out, HTF.out⟩
end Go.Proofs.YtbllilokcalbcaaDoor
