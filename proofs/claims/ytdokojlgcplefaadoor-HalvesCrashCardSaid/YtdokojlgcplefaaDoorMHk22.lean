/- Layer 5's law: wherever the power fails, the log opened anew has what it had, or with the call that was on. -/
import Derived.Test.YtdokojlgcplefaaDoorMHk19s
import Derived.Test.YtdokojlgcplefaaDoorMHk5s
import Derived.Deep.CutRange
import Derived.Deep.CutBlock
namespace Go.Proofs.YtdokojlgcplefaaDoor
open Go Go.RowKit
set_option maxRecDepth 100000 in
theorem dnew_bad (x : Int) (ae : Addr) (w : World) (hx : x < 2) (hE : w.cell? ⟨0, 0, none⟩ = some (ev ae)) :
  Calls Tryd.prog 6 #[.int .i64 x] w fun e w' => e = .returned (.tuple #[.pointer none, ev ae]) ∧ Below w.heap.size w w' := by
 go_enter Tryd.func6, Tryd.ntmps6
 go_wp2_with fail
 go_quiet (fail)
 go_wp2_with fail
 go_ret2
 exact ⟨rfl, below_drewN (Below.refl _ _) _⟩
def Sw (B : Nat) (a : Nat → Addr) (w0 w : World) (l d z sz i g : Nat) (kd : Int) (cs : Array Value) (nv nx : Value) : Prop :=
 (∃ u n N k ls S nvs, HI B a w0 w l d z sz u n N k (i + 1) ls S ∧ NowAt B w0 w nv nvs ls ∧ Blk w g 36 cs ∧ (kd = 3 → HI B a w0 w l d z sz u n N k i ls S)) ∨
 (∃ u n m N k ls nl S nvs xvs, HD B a w0 w l d z sz u n m N k (i + 1) true ls nl S ∧ NowAt B w0 w nv nvs ls ∧ NowAt B w0 w nx xvs nl ∧ Blk w g 36 cs)
theorem rem60 (q : Int) : ∃ r : Nat, r < 60 ∧ (IntKind.u64.wrap q).tmod 60 = (r : Int) ∧ wrap64 (r : Int) = (r : Int) := by
 obtain ⟨r, h1, h2, h3, _⟩ := rem_nat q 60 (by omega) (by omega) 0 (by omega)
 exact ⟨r, h1, h2, h3⟩
set_option maxRecDepth 100000 in
set_option maxHeartbeats 8000000 in
theorem crash_law (x : Int) (A : Option Addr) (b o c : Nat) (xs : List ActH) (a : Nat → Addr) (w : World) (hA : 0 < xs.length → A = some ⟨b, o, none⟩) (hR : HRow w b o xs) (hS : HSents w a) (hT : Tabs w) :
  Calls Tryd.prog 3 #[.int .i64 x, .slice A xs.length c] w fun e w' => e = .returned (.bool true) ∧ Below w.heap.size w w' := by
 have CA := halive_any a w hS hT
 have HSN := Lib.hid hS
 have HE0 : Hid (∀ w', Below w.heap.size w w' → Env w.heap.size a w w') := Lib.hid (fun w' hb => ⟨hS, hT, Nat.le_refl _, hb⟩)
 have HLG : Hid (∀ w', Below w.heap.size w w' → Calls Tryd.prog 5 #[.slice A xs.length c] w' (LongP w' xs)) := Lib.hid (fun w' hb => long_any A b o c xs w' hA (hR.below hb (Nat.le_refl _)))
 have HA := Lib.hid hA
 have HR := Lib.hid hR
 obtain ⟨cnt, hcnt⟩ : ∃ cnt, cnt = xs.length := ⟨_, rfl⟩
 rw [← hcnt] at HLG HA ⊢
 have HCNT := Lib.hid hcnt
 clear hS hT hA hR hcnt
 go_enter Tryd.func3, Tryd.ntmps3
 go_wp2_with fail
 refine CA.mono ?_
 rintro e w1 ⟨rfl, hb1⟩
 have HB1 := Lib.hid hb1
 have CL := HLG.out w1 hb1
 clear hb1 CA HLG
 go_wp2_with fail
 go_at_call 5
 refine CL.mono ?_
 rintro e w2 ⟨r, rfl, hr, hb2⟩
 have HB2 := Lib.hid (below_then HB1.out hb2)
 have HRR := Lib.hid hr
 clear hr hb2 CL HB1
 rcases hq : r with _ | _
 rotate_left
 ·clear hq
  go_wp2_with fail
  go_ret
  exact ⟨rfl, HB2.out⟩
 have HFW : Hid (xs.length ≤ 40 ∧ ∀ x ∈ xs, FewH x) := Lib.hid (HRR.out hq)
 clear hq HRR
 by_cases h80 : 80 < x
 ·clear HFW
  go_wp2_with fail
  go_ret
  exact ⟨rfl, HB2.out⟩
 have b80 : decide (80 < x) = false := by simp; omega
 by_cases h2 : x < 2
 ·have CN := dnew_bad x (a 0) w2 h2 ((HE0.out w2 HB2.out).s 0 (by omega)).var
  go_wp2_with fail
  go_at_call 6
  refine CN.mono ?_
  rintro e w3 ⟨rfl, hb3⟩
  have HB3 := Lib.hid (below_then HB2.out hb3)
  have q1 := neq_ev (a 0)
  clear CN hb3
  go_wp2_with fail
  go_ret
  exact ⟨rfl, HB3.out⟩
 obtain ⟨sz, rfl⟩ : ∃ sz : Nat, x = (sz : Int) := ⟨x.toNat, by omega⟩
 have HSZ : Hid (2 ≤ sz ∧ sz ≤ 80) := Lib.hid (by omega)
 have CN := dk_new sz w2 (by omega) (by omega)
 go_wp2_with fail
 go_at_call 6
 refine CN.mono ?_
 rintro e w3 ⟨d, ms, ml, rfl, hd, hb3⟩
 have HB3 := Lib.hid (below_then HB2.out hb3)
 by_cases h4 : sz < 4
 ·have i4 : (sz : Int) < 4 := by omega
  clear hd hb3 CN
  go_wp2_with fail
  go_ret
  exact ⟨rfl, HB3.out⟩
 have i4 : ¬ (sz : Int) < 4 := by omega
 have b4 : decide ((sz : Int) < 4) = false := by simp; omega
 have HD3 : Hid (DkX w2.heap.size w3 d (fresh sz) 0) := Lib.hid ⟨ms, ml, _, hd⟩
 have HE3 : Hid (Env w2.heap.size a w w3) := Lib.hid (by
  have h := HE0.out w3 HB3.out
  exact ⟨h.sents, h.tabs, HB2.out.size, h.bel⟩)
 have HLW : Hid (w.heap.size ≤ w2.heap.size) := Lib.hid HB2.out.size
 clear hd hb3 CN HE0
 generalize w2.heap.size = B at HD3 HE3 HLW
 obtain ⟨z, hz⟩ : ∃ z, z = sz / 2 := ⟨_, rfl⟩
 have HZ := Lib.hid hz
 have CO := hopen_fresh a w w3 hz (by omega) (by omega) HD3.out HE3.out
 clear hz
 go_wp2_with fail
 go_at_call 7
 refine CO.mono ?_
 rintro e w4 ⟨l, S, rfl, hl, hi, _, ht, _, hs⟩
 have HI0 : Hid (HI B a w w4 l d z sz 0 1 1 (2 * z + 10) 0 [] S) := Lib.hid { log := hl, inv := hi, size := hs, env := HE3.out.tfr ht, zz := HZ.out, s4 := by omega, s80 := HSZ.out.2, kb := by have := HZ.out; have := HSZ.out; omega, nb := Nat.le_refl _, i40 := by omega, recd := fun y hy => by cases hy }
 have HN0 : Hid (NowAt B w w4 (.slice none 0 0) [] []) := Lib.hid (NowAt.nil _ _ _)
 clear hl hi ht hs CO HD3 HE3
 have HC40 : Hid (cnt ≤ 40) := Lib.hid (by rw [HCNT.out]; exact HFW.out.1)
 have ic : (cnt : Int) ≤ 40 := by have := HC40.out; omega
 clear h80 h2 h4
 go_wp2_with fail
 go_loopw [7, 8, 46] (fun lv nv j wr => ∃ (i l u n N k : Nat) (ls : List (List Nat)) (S : Dk.D) (nvs : List Value) (nvv : Value), i ≤ cnt ∧ j = .int .i64 (i : Int) ∧ lv = .pointer (some ⟨l, 0, none⟩) ∧ nvv = nv ∧ Hid (HI B a w wr l d z sz u n N k i ls S) ∧ Hid (NowAt B w wr nvv nvs ls)) (fun _ _ j _ => cnt - (intOf j).toNat)
 case atStart => exact ⟨0, l, 0, 1, 1, _, [], S, [], _, Nat.zero_le _, rfl, rfl, rfl, HI0, HN0⟩
 case round =>
  obtain ⟨i, l, u, n, N, k, ls, S, nvs, nv, hi, rfl, rfl, rfl, HII, HNW⟩ := hrel
  by_cases hlt : i < cnt
  ·obtain rfl := HA.out (by omega)
   have hkx : i < xs.length := by rw [← HCNT.out]; exact hlt
   obtain ⟨x, hx⟩ : ∃ x, x = xs[i] := ⟨_, rfl⟩
   have hx2 : xs[i]? = some x := by rw [List.getElem?_eq_getElem hkx, hx]
   have HBE : Hid (Below w.heap.size w wr) := Lib.hid HII.out.env.bel
   have HG : Hid (wr.rangeAt b (o + i * 4) x.cells) := Lib.hid (by rw [Nat.mul_comm]; exact (HR.out.below HBE.out (Nat.le_refl _)).row i x hx2)
   have HXO : Hid (x.Ok w) := Lib.hid (HR.out.ok x (List.mem_of_getElem? hx2))
   have HXF : Hid (FewH x) := Lib.hid (HFW.out.2 x (List.mem_of_getElem? hx2))
   have HLT := Lib.hid hlt
   have HB9 : Hid (Blk (wr.alloc (.cells hactCells0.toArray 36)) wr.heap.size 36 hactCells0.toArray) := Lib.hid (Blk.new wr _ _)
   obtain ⟨w5, hw5⟩ : ∃ w5, w5 = (wr.alloc (.cells hactCells0.toArray 36)).setRow wr.heap.size x.cells.toArray := ⟨_, rfl⟩
   have HZ5 : Hid (Blk w5 wr.heap.size 36 x.cells.toArray) := Lib.hid (by rw [hw5]; exact HB9.out.row _)
   have HB5 : Hid (Below wr.heap.size wr w5) := Lib.hid (by rw [hw5]; exact below_row ((Below.refl _ _).alloc (Nat.le_refl _) _) (Nat.le_refl _) _)
   have HI5 := Lib.hid (HII.out.below HB5.out)
   have HN5 := Lib.hid (HNW.out.below HB5.out)
   have i1 : (i : Int) < (cnt : Int) := by omega
   clear hx hx2 hlt hi HBE HII HNW
   go_wp2_with (first | (refine wpList_load_mid rfl 36 (.tmp 48) rfl b (o + i * 4) rfl x.cells _ HG.out Tryd.underlying36 rfl hact_size ?_) | (with_reducible (show wpList _ _ _ (Oper.mk _ (Op.store 36 _ _) _ _ _ _ :: _) _ _); refine pause ?_))
   unfold Paused
   refine wpList_store_row rfl 36 (.tmp 11) (.tmp 49) rfl wr.heap.size x.cells.toArray rfl rfl 36 hactCells0.toArray HB9.out hact_size rfl (hact_one x) ?_
   change wpList _ _ _ _ _ ((wr.alloc (.cells hactCells0.toArray 36)).setRow wr.heap.size x.cells.toArray)
   rw [← hw5]
   clear hw5 HG HB9
   generalize wr.heap.size = g at HZ5 ⊢
   simp only [Act.put]
   obtain ⟨kd, hkd⟩ : ∃ kd, kd = x.kind := ⟨_, rfl⟩
   obtain ⟨kn, hkn⟩ : ∃ kn, kn = x.n := ⟨_, rfl⟩
   have HKD := Lib.hid hkd
   obtain ⟨cs, hcs⟩ : ∃ cs, cs = x.cells.toArray := ⟨_, rfl⟩
   rw [← hcs] at HZ5
   have HCS : Hid (cs[0]? = some (.int .i64 kd) ∧ cs[1]? = some (.int .i64 kn) ∧ cs[2]? = some (.slice x.A x.L.length x.c) ∧ cs[3]? = some (.slice x.K x.ts.length x.kc)) := Lib.hid (by rw [hcs, hkd, hkn]; exact ⟨rfl, rfl, rfl, rfl⟩)
   have p0 : w5.cell? ⟨g, 0, none⟩ = some (.int .i64 kd) := (HZ5.out.cell 0).trans HCS.out.1
   obtain ⟨r6, hr6, e61, e62⟩ := rem60 kn
   have HR6 := Lib.hid hr6
   have HI40 : Hid (i ≤ 40) := Lib.hid (by have := HC40.out; have := HLT.out; omega)
   clear hkd hkn hcs hr6
   go_upto_block 2 with fail
   go_cut [8, 9] from 50 to 101 (fun nv' nx' wx => Sw B a w wx l d z sz i g kd cs nv' nx')
   case rest =>
    have HSW0 : Hid (Sw B a w wc l d z sz i g kd cs u8 u9) := Lib.hid hcut
    clear hcut p0 e61 e62
    by_cases hT1 : kd ≠ 3 ∧ ∃ u n N k ls S nvs, HI B a w wc l d z sz u n N k (i + 1) ls S ∧ NowAt B w wc u8 nvs ls ∧ Blk wc g 36 cs
    ·obtain ⟨h3, u1, n1, N1, k1, ls1, S1, nvs1, hI, hN, hZ⟩ := hT1
     have b5 : (kd == 3) = false := by simpa using h3
     have b6 : (kd != 3) = true := by simpa using h3
     have p0 : wc.cell? ⟨g, 0, none⟩ = some (.int .i64 kd) := (hZ.cell 0).trans HCS.out.1
     have HI1 := Lib.hid hI
     have HN1 := Lib.hid hN
     obtain ⟨lv, lus, hlg, hrc⟩ := hI.logBlk
     have CD := ldead_any wc hlg
     have CR := lrecords_any wc hlg hrc (by have := hI.few; omega) (fun y hy => by have := (hI.recd y hy).2.2; omega)
     clear hI hN hZ hlg hrc h3 HSW0
     go_wp2_with fail
     go_at_call 11
     refine CD.mono ?_
     rintro e w6 ⟨rfl, rfl⟩
     go_wp2_with fail
     go_at_call 14
     refine CR.mono ?_
     rintro e w6 ⟨v6, rfl, ⟨us6, hr6⟩, hb6⟩
     have HB6 := Lib.hid hb6
     have HI6 := Lib.hid (HI1.out.below hb6)
     have HN6 := Lib.hid (HN1.out.below hb6)
     have CS := sameLists_all _ _ _ _ _ _ w6 hr6.rdLL (HN6.out.rdLL HI6.out.env.bel) (fun y hy => (HI1.out.recd y hy).1) (fun y hy => (HI1.out.recd y hy).1) (by have := HI1.out.few; omega) (by have := HI1.out.few; omega)
     rw [show sameLL ls1 ls1 = true from decide_eq_true rfl] at CS
     obtain ⟨A6, c6, rfl⟩ := row_slice hr6.row
     clear CD CR hr6 hb6 p0
     go_wp2_with fail
     go_at_call 13
     refine CS.mono ?_
     rintro e w7 ⟨rfl, m7, rfl⟩
     have HI7 := Lib.hid (HI6.out.below (below_drewN (Below.refl _ _) m7))
     have HN7 := Lib.hid (HN6.out.below (below_drewN (Below.refl _ _) m7))
     clear CS
     go_wp2
     go_roundw
     case rel => exact ⟨i + 1, l, u1, n1, N1, k1, ls1, S1, nvs1, u8, HLT.out, by go_num, rfl, rfl, HI7, HN7⟩
     case measure => have := HLT.out; simp [intOf]; omega
    have HH : ∃ was u n m N k ls nl S nvs, HD B a w wc l d z sz u n m N k (i + 1) was ls nl S ∧ NowAt B w wc u8 nvs ls ∧ (was = true → ∃ xvs, NowAt B w wc u9 xvs nl) ∧ Blk wc g 36 cs ∧ (kd = 3 ∨ was = true) := by
     rcases HSW0.out with ⟨u1, n1, N1, k1, ls1, S1, nvs1, hI, hN, hZ, h3⟩ | ⟨u1, n1, m1, N1, k1, ls1, nl1, S1, nvs1, xvs1, hH, hN, hX, hZ⟩
     ·by_cases h : kd = 3
      ·exact ⟨false, u1, n1, _, N1, k1, ls1, [], S1, nvs1, (h3 h).dead HI40.out, hN, fun e => (by cases e), hZ, Or.inl h⟩
      ·exact absurd ⟨h, u1, n1, N1, k1, ls1, S1, nvs1, hI, hN, hZ⟩ hT1
     ·exact ⟨true, u1, n1, m1, N1, k1, ls1, nl1, S1, nvs1, hH, hN, fun _ => ⟨xvs1, hX⟩, hZ, Or.inr rfl⟩
    obtain ⟨was, u1, n1, m1, N1, k1, ls1, nl1, S1, nvs1, hH, hN, hX, hZ, hw⟩ := HH
    have HH1 := Lib.hid hH
    have HN1 := Lib.hid hN
    have HX1 := Lib.hid hX
    have HZ1 := Lib.hid hZ
    have HWK := Lib.hid hw
    have p0 : wc.cell? ⟨g, 0, none⟩ = some (.int .i64 kd) := (hZ.cell 0).trans HCS.out.1
    clear hH hN hX hZ hw hT1 HSW0
    go_upto_region 29 with fail
    go_cut [109] from 102 to 108 (fun v wx => v = .bool false ∧ wx = wc)
    case rest =>
     obtain ⟨hv, hwx⟩ := hcut
     subst hv hwx
     have p3 : wc.cell? ⟨g, 3, none⟩ = some (.slice x.K x.ts.length x.kc) := (HZ1.out.cell 3).trans HCS.out.2.2.2
     have CC := hd_crash HH1.out x.K x.kc x.ts (rdT_below HXO.out.ts HH1.out.env.bel (Nat.le_refl _))
     obtain ⟨xK, hxK⟩ : ∃ q, q = x.K := ⟨_, rfl⟩
     obtain ⟨xt, hxt⟩ : ∃ q, q = x.ts.length := ⟨_, rfl⟩
     obtain ⟨xk, hxk⟩ : ∃ q, q = x.kc := ⟨_, rfl⟩
     rw [← hxK, ← hxt, ← hxk] at p3 CC
     clear hxK hxt hxk p0
     go_wp2_with fail
     go_at_call 15
     refine CC.mono ?_
     rintro e w6 ⟨⟨q, rfl⟩, ⟨u2, n2, got, C, hC⟩, ht6⟩
     have HC6 := Lib.hid hC
     have HN6 := Lib.hid (HN1.out.tfr ht6)
     have HX6 : Hid (was = true → ∃ xvs, NowAt B w w6 u9 xvs nl1) := Lib.hid (fun e => by obtain ⟨xv, h⟩ := HX1.out e; exact ⟨xv, h.tfr ht6⟩)
     obtain ⟨lu, ln, lv, lm, hlg⟩ := hC.log
     have CD := ldead_any w6 hlg
     have CO := hc_open hC
     clear hC ht6 CC p3 hlg
     go_wp2_with fail
     go_at_call 11
     refine CD.mono ?_
     rintro e w7 ⟨rfl, rfl⟩
     clear CD
     go_wp2_with fail
     go_at_call 7
     refine CO.mono ?_
     rintro e w7 ⟨l7, k7, S7, rfl, hI7, ht7⟩
     have HI7 := Lib.hid hI7
     have HN7 := Lib.hid (HN6.out.tfr ht7)
     have HX7 : Hid (was = true → ∃ xvs, NowAt B w w7 u9 xvs nl1) := Lib.hid (fun e => by obtain ⟨xv, h⟩ := HX6.out e; exact ⟨xv, h.tfr ht7⟩)
     obtain ⟨lv, lus, hlg, hrc⟩ := hI7.logBlk
     have CR := lrecords_any w7 hlg hrc (by have := hI7.few; omega) (fun y hy => by have := (hI7.recd y hy).2.2; omega)
     clear hI7 ht7 CO hlg hrc
     go_wp2_with fail
     go_at_call 14
     refine CR.mono ?_
     rintro e w8 ⟨v8, rfl, ⟨us8, hr8⟩, hb8⟩
     have HI8 := Lib.hid (HI7.out.below hb8)
     have HN8 := Lib.hid (HN7.out.below hb8)
     have HX8 : Hid (was = true → ∃ xvs, NowAt B w w8 u9 xvs nl1) := Lib.hid (fun e => by obtain ⟨xv, h⟩ := HX7.out e; exact ⟨xv, h.below hb8⟩)
     have HG8 : Hid (NowAt B w w8 v8 us8 got) := Lib.hid (hr8.now (by have := HI7.out.log.2.lt; omega))
     obtain ⟨A8, c8, rfl⟩ := row_slice hr8.row
     have HGL : Hid (got.length ≤ 40) := Lib.hid HI8.out.few
     obtain ⟨ng, hng⟩ : ∃ q, q = got.length := ⟨_, rfl⟩
     rw [← hng] at HG8 ⊢
     have HNG := Lib.hid hng
     clear CR hr8 hb8 hng
     obtain ⟨A9, n9, c9, hu8⟩ : ∃ A n c, u8 = .slice A n c := by
      obtain ⟨A, c, e⟩ := row_slice HN8.out.row
      exact ⟨A, _, c, e⟩
     subst hu8
     have HWAS : Hid (was = false ∨ ∃ r : Bool, was = true ∧ True) := Lib.hid (by cases was; exact Or.inl rfl; exact Or.inr ⟨true, rfl, trivial⟩)
     have HEND : Hid (∀ w', Below w8.heap.size w8 w' → HI B a w w' l7 d z sz u2 n2 (N1 + 1) k7 (i + 1) got S7 ∧ NowAt B w w' (.slice A8 ng c8) us8 got) := Lib.hid (fun w' hb => ⟨HI8.out.below hb, HG8.out.below hb⟩)
     have HS1 : Hid (∀ w', Below w8.heap.size w8 w' → Calls Tryd.prog 13 #[.slice A8 ng c8, .slice A9 n9 c9] w' (SlPost w' (sameLL got ls1))) := Lib.hid (fun w' hb => sameLists_all _ _ _ _ _ _ w' ((HG8.out.below hb).rdLL ((HI8.out.below hb).env.bel)) ((HN8.out.below hb).rdLL ((HI8.out.below hb).env.bel)) (fun y hy => (HC6.out.rgot y hy).1) (fun y hy => (HC6.out.recd y hy).1) (by have := HGL.out; omega) (by have := HC6.out.lenl; omega))
     rcases hwas : was with _ | _
     ·
      have HGE : Hid (got = ls1) := Lib.hid (by
       rcases HC6.out.what with h | ⟨h, _⟩
       ·exact h
       ·rw [hwas] at h; cases h)
      have CS := HS1.out w8 (Below.refl _ _)
      rw [show sameLL got ls1 = true from decide_eq_true HGE.out] at CS
      clear hwas
      go_wp2_with fail
      go_at_call 13
      refine CS.mono ?_
      rintro e w9 ⟨rfl, m9, rfl⟩
      have HE9 := Lib.hid (HEND.out _ (below_drewN (Below.refl _ _) m9))
      clear CS
      go_wp2
      go_roundw
      case rel => exact ⟨i + 1, l7, u2, n2, N1 + 1, k7, got, S7, us8, _, HLT.out, by go_num, rfl, rfl, Lib.hid HE9.out.1, Lib.hid HE9.out.2⟩
      case measure => have := HLT.out; simp [intOf]; omega
     ·obtain ⟨xvs, hxv⟩ := HX8.out hwas
      obtain ⟨A5, n5, c5, hu9⟩ : ∃ A n c, u9 = .slice A n c := by
       obtain ⟨A, c, e⟩ := row_slice hxv.row
       exact ⟨A, _, c, e⟩
      subst hu9
      have HXV := Lib.hid hxv
      have HRX := Lib.hid (HC6.out.recx hwas)
      have HLX := Lib.hid (HC6.out.lenx hwas)
      obtain ⟨lv, lus, hlg, _⟩ := HI8.out.logBlk
      have CSE := lserial_any w8 hlg
      have CL := clash_any A8 A9 A5 ng n9 n5 c8 c9 c5 n2 us8 nvs1 xvs got ls1 nl1 w8 (HG8.out.rdLL HI8.out.env.bel) (HN8.out.rdLL HI8.out.env.bel) (hxv.rdLL HI8.out.env.bel) (fun y hy => (HC6.out.rgot y hy).1) (fun y hy => (HC6.out.recd y hy).1) (fun y hy => (HRX.out y hy).1) (fun y hy => by have := (HC6.out.rgot y hy).2; omega) (fun y hy => by have := (HRX.out y hy).2; omega)
       (by have h1 := HI8.out.inv.nN; have h2 := HI8.out.inv.top; have h3 : Hv.top = 1099511627776 := rfl; omega) (by have := HNG.out; have := HGL.out; omega) (by have h1 := (HN8.out.rdLL HI8.out.env.bel).len; have := HC6.out.lenl; omega) (by have h1 := (hxv.rdLL HI8.out.env.bel).len; have := HLX.out; omega)
      have HS2 : Hid (∀ w', Below w8.heap.size w8 w' → Calls Tryd.prog 13 #[.slice A8 ng c8, .slice A5 n5 c5] w' (SlPost w' (sameLL got nl1))) := Lib.hid (fun w' hb => sameLists_all _ _ _ _ _ _ w' ((HG8.out.below hb).rdLL ((HI8.out.below hb).env.bel)) ((HXV.out.below hb).rdLL ((HI8.out.below hb).env.bel)) (fun y hy => (HC6.out.rgot y hy).1) (fun y hy => (HRX.out y hy).1) (by have := HGL.out; omega) (by have := HLX.out; omega))
      have HWH := Lib.hid HC6.out.what
      clear hxv hlg hwas
      go_wp2_with fail
      go_at_call 17
      refine CSE.mono ?_
      rintro e w9 ⟨rfl, rfl⟩
      go_wp2_with fail
      go_at_call 16
      refine CL.mono ?_
      rintro e w9 ⟨r, rfl, hr, hb9⟩
      have HB9 := Lib.hid hb9
      have HRR := Lib.hid hr
      clear CSE CL hr hb9
      rcases hq : r with _ | _
      rotate_left
      ·have HBF : Hid (Below w.heap.size w w9) := Lib.hid (HEND.out w9 HB9.out).1.env.bel
       clear hq
       go_wp2_with fail
       go_ret
       exact ⟨rfl, HBF.out⟩
      have HGE : Hid (got = ls1 ∨ got = nl1) := Lib.hid (by
       rcases HWH.out with h | ⟨_, h | ⟨y, b, h1, h2, h3, h4⟩⟩
       ·exact Or.inl h
       ·exact Or.inr h
       ·by_cases hyb : y = b
        ·exact Or.inr (by rw [h1, h2, hyb])
        ·exact absurd (HRR.out y b h1 h2 hyb h3 h4) (by rw [hq]; decide))
      clear hq
      have CS := HS1.out w9 HB9.out
      obtain ⟨s1, hs1⟩ : ∃ s, s = sameLL got ls1 := ⟨_, rfl⟩
      rw [← hs1] at CS
      have HS1E := Lib.hid hs1
      clear hs1
      go_wp2_with fail
      go_at_call 13
      refine CS.mono ?_
      rintro e w10 ⟨rfl, m10, rfl⟩
      have HB10 : Hid (∀ m, Below w8.heap.size w8 (w9.drewN m)) := Lib.hid (fun m => below_then HB9.out (below_drewN (Below.refl _ _) m))
      clear CS
      rcases hq : s1 with _ | _
      ·have HGE2 : Hid (got = nl1) := Lib.hid (by
        rcases HGE.out with h | h
        ·exact absurd (HS1E.out.symm.trans hq) (by rw [show sameLL got ls1 = true from decide_eq_true h]; decide)
        ·exact h)
       have CS2 := HS2.out _ (HB10.out m10)
       rw [show sameLL got nl1 = true from decide_eq_true HGE2.out] at CS2
       clear hq
       go_wp2_with fail
       go_at_call 13
       refine CS2.mono ?_
       rintro e w11 ⟨rfl, m11, rfl⟩
       have HE9 : Hid (∀ m, HI B a w (w9.drewN m) l7 d z sz u2 n2 (N1 + 1) k7 (i + 1) got S7 ∧ NowAt B w (w9.drewN m) (.slice A8 ng c8) us8 got) := Lib.hid (fun m => HEND.out _ (HB10.out m))
       clear CS2
       go_wp2
       go_roundw
       case rel => exact ⟨i + 1, l7, u2, n2, N1 + 1, k7, got, S7, us8, _, HLT.out, by go_num, rfl, rfl, Lib.hid (HE9.out _).1, Lib.hid (HE9.out _).2⟩
       case measure => have := HLT.out; simp [intOf]; omega
      ·have HE9 := Lib.hid (HEND.out _ (HB10.out m10))
       clear hq
       go_wp2
       go_roundw
       case rel => exact ⟨i + 1, l7, u2, n2, N1 + 1, k7, got, S7, us8, _, HLT.out, by go_num, rfl, rfl, Lib.hid HE9.out.1, Lib.hid HE9.out.2⟩
       case measure => have := HLT.out; simp [intOf]; omega
    rcases HWK.out with h3 | hw
    ·have b5 : (kd == 3) = true := by simpa using h3
     have b6 : (kd != 3) = false := by simpa using h3
     clear h3
     go_wp2_with fail
     go_meet
     case rel => exact ⟨rfl, rfl⟩
    ·by_cases h3 : kd = 3
     ·have b5 : (kd == 3) = true := by simpa using h3
      have b6 : (kd != 3) = false := by simpa using h3
      clear h3 hw
      go_wp2_with fail
      go_meet
      case rel => exact ⟨rfl, rfl⟩
     ·have b5 : (kd == 3) = false := by simpa using h3
      have b6 : (kd != 3) = true := by simpa using h3
      obtain ⟨⟨lv, hlg, _⟩, _⟩ := HH1.out.log
      rw [hw] at hlg
      have CD := ldead_any wc hlg
      clear h3 hw hlg
      go_wp2_with fail
      go_at_call 11
      refine CD.mono ?_
      rintro e w6 ⟨rfl, rfl⟩
      clear CD
      go_wp2_with fail
      go_meet
      case rel => exact ⟨rfl, rfl⟩
   by_cases k2 : kd = 2
   ·have b2 : (kd == 2) = true := by simpa using k2
    have p1 : w5.cell? ⟨g, 1, none⟩ = some (.int .i64 kn) := (HZ5.out.cell 1).trans HCS.out.2.1
    have CA := hi_arm HI5.out r6 (by have := HR6.out; omega)
    have HK3 : Hid (kd ≠ 3) := Lib.hid (by omega)
    clear k2
    go_wp2_with fail
    go_at_call 8
    refine CA.mono ?_
    rintro e w6 ⟨rfl, ⟨S', hI6⟩, ht6⟩
    have HSW : Hid (∀ nx, Sw B a w w6 l d z sz i g kd cs nv nx) := Lib.hid (fun nx => Or.inl ⟨u, n, N, k, ls, S', nvs, hI6.more (Nat.le_succ i) (by have := HI40.out; omega), HN5.out.tfr ht6, Kp.tfr ht6 _ _ HZ5.out, fun h => absurd h HK3.out⟩)
    clear hI6 ht6 CA
    go_wp2_with fail
    go_meet
    case rel => exact HSW.out _
   have b2 : (kd == 2) = false := by simpa using k2
   clear e61 e62
   by_cases k0 : kd = 0
   ·have b3 : (kd == 0) = true := by simpa using k0
    have p2 : w5.cell? ⟨g, 2, none⟩ = some (.slice x.A x.L.length x.c) := (HZ5.out.cell 2).trans HCS.out.2.2.1
    have b4 : (kd == 1) = false := by simp; omega
    have HK3 : Hid (kd ≠ 3) := Lib.hid (by omega)
    clear k0 k2
    go_wp2_with fail
    obtain ⟨xA, hxA⟩ : ∃ q, q = x.A := ⟨_, rfl⟩
    obtain ⟨xl, hxl⟩ : ∃ q, q = x.L.length := ⟨_, rfl⟩
    obtain ⟨xc, hxc⟩ : ∃ q, q = x.c := ⟨_, rfl⟩
    have HXL := Lib.hid hxl
    have HXR : Hid (RdLL w (.slice xA xl xc) x.vs x.L) := Lib.hid (by rw [hxA, hxl, hxc]; exact HXO.out.rd)
    have HQ2 : Hid (∀ w', Blk w' g 36 cs → w'.cell? ⟨g, 2, none⟩ = some (.slice xA xl xc)) := Lib.hid (fun w' h => by rw [hxA, hxl, hxc]; exact (h.cell 2).trans HCS.out.2.2.1)
    clear hxA hxl hxc p2
    obtain ⟨w6, hw6⟩ : ∃ w6, w6 = w5.drew := ⟨_, rfl⟩
    have HB6 : Hid (Below w5.heap.size w5 w6) := Lib.hid (by rw [hw6]; exact below_drewN (Below.refl _ _) 1)
    have HZ6 := Lib.hid (HZ5.out.below HB6.out HZ5.out.lt)
    have HN6 := Lib.hid (HN5.out.below HB6.out)
    have HWB6 : Hid (Below w.heap.size w w6) := Lib.hid (below_then HI5.out.env.bel HB6.out)
    refine wp_region_upto (S := (fun w' => Blk w' g 36 cs)) (b := 8) (by kernel_rfl) ?_
    change Upto _ _ _ _ _ _ _ _ _ w5.drew
    rw [← hw6]
    clear hw6
    refine Upto.takeY (i := 1) (v := ?_) rfl (by kernel_rfl) (by kernel_rfl) (by kernel_rfl) (by kernel_rfl) (fun _ _ _ h => h) (Or.inl ⟨by rfl, ?_⟩) (fun _ => HZ6.out) ?_
    rotate_left
    ·intro w _; go_simp; with_reducible rfl
    try simp only [Act.put, List.getElem_toArray, List.getElem_cons_zero, List.getElem_cons_succ, List.setIfInBounds_toArray, List.set_cons_zero, List.set_cons_succ]
    refine Upto.takeY (i := 3) (v := ?_) rfl (by kernel_rfl) (by kernel_rfl) (by kernel_rfl) (by kernel_rfl) (fun _ _ _ h => h) (Or.inl ⟨by rfl, ?_⟩) (fun _ => HZ6.out) ?_
    rotate_left
    ·intro w _; go_simp; with_reducible rfl
    try simp only [Act.put, List.getElem_toArray, List.getElem_cons_zero, List.getElem_cons_succ, List.setIfInBounds_toArray, List.set_cons_zero, List.set_cons_succ]
    refine Upto.take (i := 4) (v := .slice xA xl xc) rfl (by kernel_rfl) (by kernel_rfl) (by kernel_rfl) (by kernel_rfl) (fun _ _ _ h => h) (Or.inl ⟨by rfl, ?_⟩) (HZ6.out) ?_
    ·intro w' hS; have q0 := HQ2.out w' hS; go_simp
    try simp only [Act.put, List.getElem_toArray, List.getElem_cons_zero, List.getElem_cons_succ, List.setIfInBounds_toArray, List.set_cons_zero, List.set_cons_succ]
    refine Upto.one (i := 0) (by kernel_rfl) rfl (by rfl) (fun K hK => ?_)
    go_simp
    obtain ⟨w7, hw7⟩ : ∃ w7, w7 = w6.alloc (.cells #[] 39) := ⟨_, rfl⟩
    have HO7 : Hid (w7.ownsRow w6.heap.size 39 1 (.slice (some ⟨w6.heap.size, 0, none⟩) 0 0) 0 []) := Lib.hid (by rw [hw7]; exact own_emptyLL w6 _ (Nat.le_refl _))
    have HB7 : Hid (Below w6.heap.size w6 w7) := Lib.hid (by rw [hw7]; exact below_al w6 _)
    have HZ7 := Lib.hid (HZ6.out.below HB7.out HZ6.out.lt)
    have HN7 := Lib.hid (HN6.out.below HB7.out)
    rw [← hw7]
    refine hK _ _ (fun _ _ => HZ7.out) ?_; clear hK K hw7
    try simp only [Act.put, List.getElem_toArray, List.getElem_cons_zero, List.getElem_cons_succ, List.setIfInBounds_toArray, List.set_cons_zero, List.set_cons_succ]
    generalize hb6 : w6.heap.size = s6 at HO7 HB7
    have HS6 := Lib.hid hb6
    have HVL : Hid (nvs.length ≤ 40) := Lib.hid (by rw [HN5.out.vlen]; exact HI5.out.few)
    refine Upto.one (i := 2) (by kernel_rfl) rfl (by rfl) (fun K hK => ?_)
    refine wp_appendLL (.tmp 65) (.tmp 66) rfl s6 0 _ [] rfl HO7.out (by have := HB7.out.size; have := HS6.out; omega) _ rfl nvs (HN7.out.rdL (below_then HWB6.out (HS6.out ▸ HB7.out))) HN7.out.ones (by have := HVL.out; omega) ?_
    intro v8 w8 ho8 hg8
    have HB8 : Hid (Below s6 w6 w8) := Lib.hid (below_ownB HS6.out (HB7.out) HO7.out hg8)
    rw [Nat.zero_add, List.nil_append] at ho8
    have HO8 := Lib.hid ho8
    have HZ8 : Hid (Blk w8 g 36 cs) := Lib.hid (HZ6.out.below (HS6.out ▸ HB8.out) HZ6.out.lt)
    refine hK _ _ (fun _ _ => HZ8.out) ?_; clear hK K ho8 hg8 HO7
    try simp only [Act.put, List.getElem_toArray, List.getElem_cons_zero, List.getElem_cons_succ, List.setIfInBounds_toArray, List.set_cons_zero, List.set_cons_succ]
    refine Upto.one (i := 5) (by kernel_rfl) rfl (by rfl) (fun K hK => ?_)
    go_simp
    refine (first_any xA xl xc x.vs x.L w w8 HXR.out (below_then HWB6.out (HS6.out ▸ HB8.out))).mono ?_
    rintro e w9 ⟨A1, c1, rfl, hr1, rfl⟩
    have HR1 := Lib.hid hr1
    dsimp only
    refine hK _ _ (fun _ _ => HZ8.out) ?_; clear hK K hr1
    try simp only [Act.put, List.getElem_toArray, List.getElem_cons_zero, List.getElem_cons_succ, List.setIfInBounds_toArray, List.set_cons_zero, List.set_cons_succ]
    obtain ⟨fl, hfl⟩ : ∃ q, q = (firstL x.L).length := ⟨_, rfl⟩
    rw [← hfl] at HR1 ⊢
    have HFL := Lib.hid hfl
    clear hfl
    refine Upto.one (i := 6) (by kernel_rfl) rfl (by rfl) (fun K hK => ?_)
    go_simp
    obtain ⟨w9, hw9⟩ : ∃ w9, w9 = w8.alloc (.cells #[.slice A1 fl c1] 39) := ⟨_, rfl⟩
    have HB9 : Hid (Below w8.heap.size w8 w9) := Lib.hid (by rw [hw9]; exact below_al w8 _)
    have HK9 : Hid (Blk w9 w8.heap.size 39 #[.slice A1 fl c1]) := Lib.hid (by rw [hw9]; exact Blk.new _ _ _)
    have HO9 : Hid (w9.ownsRow s6 39 1 v8 nvs.length nvs) := Lib.hid (HO8.out.kept (only_of_below HB9.out none) (by cases hv : v8.ownBlock with | none => exact Or.inl rfl | some g => exact Or.inr (by simp)))
    have HB69 : Hid (Below s6 w6 w9) := Lib.hid (by have h := below_then (HS6.out ▸ HB8.out : Below w6.heap.size w6 w8) HB9.out; rw [HS6.out] at h; exact h)
    have HZ9 : Hid (Blk w9 g 36 cs) := Lib.hid (HZ8.out.below HB9.out HZ8.out.lt)
    have HRL : Hid (RdL w9 (.slice (some ⟨w8.heap.size, 0, none⟩) 1 1) [.slice A1 fl c1]) := Lib.hid ⟨_, 1, rfl, Nat.le_refl _, fun _ => ⟨w8.heap.size, 0, rfl, HK9.out.lt, fun j t hj => by
     rcases j with _ | j
     ·obtain rfl := Option.some.inj hj
      exact HK9.out.cell 0
     ·simp at hj⟩⟩
    rw [← hw9]
    refine hK _ _ (fun _ _ => HZ9.out) ?_; clear hK K hw9
    try simp only [Act.put, List.getElem_toArray, List.getElem_cons_zero, List.getElem_cons_succ, List.setIfInBounds_toArray, List.set_cons_zero, List.set_cons_succ]
    refine Upto.one (i := 7) (by kernel_rfl) rfl (by rfl) (fun K hK => ?_)
    refine wp_appendLL (.tmp 67) (.tmp 71) rfl s6 nvs.length _ nvs rfl HO9.out (by have := HB69.out.size; have := HS6.out; omega) _ rfl [.slice A1 fl c1] HRL.out (fun u hu => by rw [List.mem_singleton.1 hu]; rfl) (by have := HVL.out; show _ + 1 ≤ _; omega) ?_
    intro v10 w10 ho10 hg10
    have HB10 : Hid (Below s6 w6 w10) := Lib.hid (below_ownB HS6.out HB69.out HO9.out hg10)
    have HO10 : Hid (w10.ownsRow s6 39 1 v10 (nvs.length + 1) (nvs ++ [.slice A1 fl c1])) := Lib.hid ho10
    have HBW : Hid (Below w6.heap.size w6 w10) := Lib.hid (HS6.out ▸ HB10.out)
    have HZ10 : Hid (Blk w10 g 36 cs) := Lib.hid (HZ6.out.below HBW.out HZ6.out.lt)
    refine hK _ _ (fun _ _ => HZ10.out) ?_; clear hK K ho10 hg10 HO9 HRL HK9 HO8
    try simp only [Act.put, List.getElem_toArray, List.getElem_cons_zero, List.getElem_cons_succ, List.setIfInBounds_toArray, List.set_cons_zero, List.set_cons_succ]
    refine Upto.one (i := 8) (by kernel_rfl) rfl (by rfl) (fun K hK => ?_)
    go_simp
    refine hK _ _ (fun h _ => absurd rfl h) ?_; clear hK K
    try simp only [Act.put, List.getElem_toArray, List.getElem_cons_zero, List.getElem_cons_succ, List.setIfInBounds_toArray, List.set_cons_zero, List.set_cons_succ]
    refine Upto.done (by kernel_rfl) ?_ _
    have HB510 : Hid (Below w5.heap.size w5 w10) := Lib.hid (below_then HB6.out HBW.out)
    have HN10 := Lib.hid (HN6.out.below HBW.out)
    have HX10 : Hid (NowAt B w w10 v10 (nvs ++ [.slice A1 fl c1]) (ls ++ [firstL x.L])) := Lib.hid (by
     have hvl := HN5.out.vlen
     refine ⟨?_, fun j t hj => ?_⟩
     ·rw [List.length_append, List.length_singleton, ← hvl]
      exact ownsRow_base HO10.out (by have := HI5.out.log.2.lt; have := HB6.out.size; have := HS6.out; omega)
     ·rcases Nat.lt_or_ge j nvs.length with h4 | h4
      ·rw [List.getElem?_append_left h4] at hj
       rw [show (ls ++ [firstL x.L]).getD j [] = ls.getD j [] by simp only [List.getD, List.getElem?_append_left (show j < ls.length by omega)]]
       exact HN10.out.each j t hj
      ·rw [List.getElem?_append_right h4] at hj
       have h5 : j - nvs.length < 1 := (List.getElem?_eq_some_iff.1 hj).1
       have h6 : j = ls.length := by omega
       rw [show j - nvs.length = 0 by omega] at hj
       obtain rfl := Option.some.inj hj
       rw [h6, show (ls ++ [firstL x.L]).getD ls.length [] = firstL x.L by simp [List.getD]]
       exact Or.inr HR1.out)
    have HOG : Hid (∀ q, v10.ownBlock = some q → w5.heap.size ≤ q) := Lib.hid (fun q hq => by
     obtain ⟨h1, _⟩ := own_blk HO10.out hq
     have := HS6.out
     have := HB6.out.size
     omega)
    have HFB : Hid (Sha.Byte (firstL x.L) ∧ (firstL x.L).length ≤ 400) := Lib.hid (by
     have hz := HXF.out
     have hy := HXO.out.byte
     unfold firstL
     rw [List.getD_eq_getElem?_getD]
     cases hg : x.L[0]? with
     | none => exact ⟨fun j => by simp, by simp⟩
     | some y => exact ⟨hy y (List.mem_of_getElem? hg), hz.2 y (List.mem_of_getElem? hg)⟩)
    have q2 := HQ2.out w10 HZ10.out
    have CF := first_any xA xl xc x.vs x.L w w10 HXR.out (below_then HWB6.out HBW.out)
    obtain ⟨A10, c10, hv10⟩ := row_slice HO10.out
    clear HB10 HB69 HB9 HZ9 HB8 HZ8 HB7 HZ7 HN7 HS6 hb6 hv10
    go_wp2_with fail
    go_at_call 9
    refine CF.mono ?_
    rintro e w11 ⟨A2, c2, rfl, hr2, rfl⟩
    have CP := hi_append (w := w10) HI5.out HB510.out HI40.out A2 (firstL x.L).length c2 (firstL x.L) hr2 rfl HFB.out.1 HFB.out.2
    clear hr2 CF q2
    generalize (firstL x.L).length = fl2 at CP ⊢
    go_wp2_with fail
    go_at_call 10
    refine CP.mono ?_
    rintro e w11 hP
    clear CP
    rcases hP with ⟨rfl, ⟨S', k', hI⟩, hkp, hnw⟩ | ⟨⟨ae, rfl⟩, hb11⟩ | ⟨⟨ae, rfl⟩, ⟨S', k', hH⟩, hkp, hnw⟩
    ·have HSW : Hid (∀ nx, Sw B a w w11 l d z sz i g kd cs v10 nx) := Lib.hid (fun nx => Or.inl ⟨u, n, N, k', _, S', _, hI, hnw _ _ _ HX10.out HOG.out, hkp _ _ HZ10.out, fun h => absurd h HK3.out⟩)
     clear hI hkp hnw
     go_wp2_with fail
     go_meet
     case rel => exact HSW.out _
    ·have HI11 := Lib.hid ((HI5.out.below HB510.out).below hb11)
     have HSW : Hid (∀ nx, Sw B a w w11 l d z sz i g kd cs nv nx) := Lib.hid (fun nx => Or.inl ⟨u, n, N, k, ls, S, nvs, HI11.out.more (Nat.le_succ i) (by have := HI40.out; omega), HN10.out.below hb11, HZ10.out.below hb11 HZ10.out.lt, fun h => absurd h HK3.out⟩)
     obtain ⟨lv, lus, hlg, _⟩ := HI11.out.logBlk
     have CD := ldead_any w11 hlg
     have q1 := run_eql_ev ae
     clear hb11 hlg
     go_wp2_with fail
     go_at_call 11
     refine CD.mono ?_
     rintro e w12 ⟨rfl, rfl⟩
     clear CD q1
     go_wp2_with fail
     go_meet
     case rel => exact HSW.out _
    ·have HSW : Hid (Sw B a w w11 l d z sz i g kd cs nv v10) := Lib.hid (Or.inr ⟨u, n, _, N, k', ls, _, S', nvs, _, hH, hnw _ _ _ HN10.out, hnw _ _ _ HX10.out, hkp _ _ HZ10.out⟩)
     obtain ⟨⟨lv, hlg, _⟩, _⟩ := hH.log
     have CD := ldead_any w11 hlg
     have q1 := run_eql_ev ae
     clear hH hlg hkp hnw
     go_wp2_with fail
     go_at_call 11
     refine CD.mono ?_
     rintro e w12 ⟨rfl, rfl⟩
     clear CD q1
     go_wp2_with fail
     go_meet
     case rel => exact HSW.out
   have b3 : (kd == 0) = false := by simpa using k0
   by_cases k1 : kd = 1
   ·have b4 : (kd == 1) = true := by simpa using k1
    obtain ⟨xA, hxA⟩ : ∃ q, q = x.A := ⟨_, rfl⟩
    obtain ⟨xl, hxl⟩ : ∃ q, q = x.L.length := ⟨_, rfl⟩
    obtain ⟨xc, hxc⟩ : ∃ q, q = x.c := ⟨_, rfl⟩
    have HXL := Lib.hid hxl
    have HXR : Hid (RdLL w (.slice xA xl xc) x.vs x.L) := Lib.hid (by rw [hxA, hxl, hxc]; exact HXO.out.rd)
    have HQ2 : Hid (∀ w', Blk w' g 36 cs → w'.cell? ⟨g, 2, none⟩ = some (.slice xA xl xc)) := Lib.hid (fun w' h => by rw [hxA, hxl, hxc]; exact (h.cell 2).trans HCS.out.2.2.1)
    obtain ⟨w7, hw7⟩ : ∃ w7, w7 = w5.alloc (.cells #[] 39) := ⟨_, rfl⟩
    have HO7 : Hid (w7.ownsRow w5.heap.size 39 1 (.slice (some ⟨w5.heap.size, 0, none⟩) 0 0) 0 []) := Lib.hid (by rw [hw7]; exact own_emptyLL w5 _ (Nat.le_refl _))
    have HB7 : Hid (Below w5.heap.size w5 w7) := Lib.hid (by rw [hw7]; exact below_al w5 _)
    have HZ7 := Lib.hid (HZ5.out.below HB7.out HZ5.out.lt)
    have q2 : w7.cell? ⟨g, 2, none⟩ = some (.slice xA xl xc) := HQ2.out w7 HZ7.out
    have hw7' := hw7.symm
    have HK3 : Hid (kd ≠ 3) := Lib.hid (by omega)
    clear hxA hxl hxc k0 k1 k2 hw7
    go_wp2_with (with_reducible (show wpList _ _ _ (Oper.mk _ (Op.call (Call.mk (Callee.builtin Builtin.append) _ _)) _ _ _ _ :: _) _ _); refine pause ?_)
    unfold Paused
    clear q2 hw7'
    generalize hb5 : w5.heap.size = s5 at HO7 HB7 ⊢
    have HS5 := Lib.hid hb5
    refine wpList_appendLL rfl (.tmp 88) (.tmp 90) rfl s5 0 _ [] rfl HO7.out (by have := HB7.out.size; have := HS5.out; omega) _ rfl x.vs ((HXR.out.below (below_then HI5.out.env.bel (HS5.out ▸ HB7.out)) (Nat.le_refl _)).rdL) HXR.out.ones (by have h1 := HXF.out.1; obtain ⟨_, _, _, _, h2, _⟩ := HXR.out; omega) ?_
    intro v8 w8 ho8 hg8
    have HB8 : Hid (Below w5.heap.size w5 w8) := Lib.hid (HS5.out ▸ below_ownB HS5.out HB7.out HO7.out hg8)
    rw [Nat.zero_add, List.nil_append] at ho8
    have HZ8 : Hid (Blk w8 g 36 cs) := Lib.hid (HZ5.out.below HB8.out HZ5.out.lt)
    have HI8 := Lib.hid (HI5.out.below HB8.out)
    have HN8 := Lib.hid (HN5.out.below HB8.out)
    have HX8 : Hid (NowAt B w w8 v8 x.vs x.L) := Lib.hid (by
     obtain ⟨_, _, _, _, h2, _, h4⟩ := HXR.out
     refine ⟨?_, fun j t hj => Or.inr (h4 j t hj)⟩
     rw [← h2]
     exact ownsRow_base ho8 (by have := HI5.out.log.2.lt; have := HS5.out; omega))
    obtain ⟨A8, c8, rfl⟩ := row_slice ho8
    have CC := hi_compact HI8.out HI40.out xA xc x.vs (by have h := HXR.out; rw [HXL.out] at h; exact h) HXO.out.byte HXF.out.1 HXF.out.2
    rw [← HXL.out] at CC
    have q3 := HQ2.out w8 HZ8.out
    clear ho8 hg8 HO7 HB7 HZ7 HS5 hb5
    generalize x.vs.length = vl8 at HX8 ⊢
    go_wp2_with fail
    go_at_call 12
    refine CC.mono ?_
    rintro e w11 hP
    clear CC q3
    rcases hP with ⟨rfl, ⟨S', k', u', n', hI⟩, hkp, hnw⟩ | ⟨⟨ae, rfl⟩, hb11⟩ | ⟨⟨ae, rfl⟩, ⟨S', k', hH⟩, hkp, hnw⟩
    ·have HSW : Hid (∀ nx, Sw B a w w11 l d z sz i g kd cs (.slice A8 vl8 c8) nx) := Lib.hid (fun nx => Or.inl ⟨u', n', N + 1, k', _, S', _, hI, hnw _ _ _ HX8.out, hkp _ _ HZ8.out, fun h => absurd h HK3.out⟩)
     clear hI hkp hnw
     go_wp2_with fail
     go_meet
     case rel => exact HSW.out _
    ·have HI11 := Lib.hid (HI8.out.below hb11)
     have HSW : Hid (∀ nx, Sw B a w w11 l d z sz i g kd cs nv nx) := Lib.hid (fun nx => Or.inl ⟨u, n, N, k, ls, S, nvs, HI11.out.more (Nat.le_succ i) (by have := HI40.out; omega), HN8.out.below hb11, HZ8.out.below hb11 HZ8.out.lt, fun h => absurd h HK3.out⟩)
     obtain ⟨lv, lus, hlg, _⟩ := HI11.out.logBlk
     have CD := ldead_any w11 hlg
     have q1 := run_eql_ev ae
     clear hb11 hlg
     go_wp2_with fail
     go_at_call 11
     refine CD.mono ?_
     rintro e w12 ⟨rfl, rfl⟩
     clear CD q1
     go_wp2_with fail
     go_meet
     case rel => exact HSW.out _
    ·have HSW : Hid (Sw B a w w11 l d z sz i g kd cs nv (.slice A8 vl8 c8)) := Lib.hid (Or.inr ⟨u, n, _, N, k', ls, _, S', nvs, _, hH, hnw _ _ _ HN8.out, hnw _ _ _ HX8.out, hkp _ _ HZ8.out⟩)
     obtain ⟨⟨lv, hlg, _⟩, _⟩ := hH.log
     have CD := ldead_any w11 hlg
     have q1 := run_eql_ev ae
     clear hH hlg hkp hnw
     go_wp2_with fail
     go_at_call 11
     refine CD.mono ?_
     rintro e w12 ⟨rfl, rfl⟩
     clear CD q1
     go_wp2_with fail
     go_meet
     case rel => exact HSW.out
   have b4 : (kd == 1) = false := by simpa using k1
   have HSW : Hid (∀ nx, Sw B a w w5 l d z sz i g kd cs nv nx) := Lib.hid (fun nx => Or.inl ⟨u, n, N, k, ls, S, nvs, HI5.out.more (Nat.le_succ i) (by have := HI40.out; omega), HN5.out, HZ5.out, fun _ => HI5.out⟩)
   clear k0 k1 k2
   go_wp2_with fail
   go_meet
   case rel => exact HSW.out _
  ·obtain rfl : i = cnt := by omega
   have HBF : Hid (Below w.heap.size w wr) := Lib.hid HII.out.env.bel
   clear hlt hi
   go_wp2_with fail
   go_ret
   exact ⟨rfl, HBF.out⟩
end Go.Proofs.YtdokojlgcplefaaDoor
