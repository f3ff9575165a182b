/- Layer 5: a half is laid anew, wherever the power fails. -/
import Derived.Test.YtdokojlgcplefaaDoorMHk7
import Derived.Test.YtdokojlgcplefaaDoorMHk5s
import Derived.Test.YtdokojlgcplefaaDoorMHv24s
import Derived.Deep.CutRange
namespace Go.Proofs.YtdokojlgcplefaaDoor
open Go Go.RowKit
def LayP (B : Nat) (a : Nat → Addr) (w : World) (l d z U n m k : Nat) (ls : List (List Nat)) (M : Bool × Dk.D) (e : Ending) (w' : World) : Prop :=
 (M.1 = true ∧ e = .returned (.tuple #[]) ∧ (∃ v, LogAt B w' l d z U n v m false ∧ ∃ us, Recs B w' v us ls) ∧ DkX B w' d M.2 k ∧ LFr B l w w') ∨
 (M.1 = false ∧ e = .panicked [{ v := ev (a 15), recovered := false }] ∧ DkX B w' d M.2 k ∧ TFr B w w')
theorem begin_size {g z n : Nat} {S : Dk.D} : (Hv.beginM g z n S).2.size = S.size := (Hv.nums_begin (S := S) S ⟨rfl, rfl⟩).1
theorem puts_size {f n : Nat} {L : List (List Nat)} {k : Nat} {S : Dk.D} : (Hv.putsM f n L k S).2.size = S.size := (Hv.nums_puts (S := S) S ⟨rfl, rfl⟩).1
theorem lay_no1 {g z n : Nat} {L : List (List Nat)} {S : Dk.D} (h : (Hv.beginM g z n S).1 = false) : Hv.layM g z n L S = (false, (Hv.beginM g z n S).2) := by
 have e : Hv.preM g z n L S = (false, (Hv.beginM g z n S).2) := Hv.andM_no h
 unfold Hv.layM
 rw [Hv.andM_no (by rw [e]), e]
theorem lay_no2 {g z n k : Nat} {L : List (List Nat)} {S : Dk.D} (h : (Hv.beginM g z n S).1 = true) (hk : k ≤ L.length) (h2 : (Hv.putsM g n L k (Hv.beginM g z n S).2).1 = false) : Hv.layM g z n L S = (false, (Hv.putsM g n L k (Hv.beginM g z n S).2).2) := by
 have e : Hv.preM g z n L S = (false, (Hv.putsM g n L k (Hv.beginM g z n S).2).2) := by
  unfold Hv.preM
  rw [Hv.andM_yes h, Hv.andM_no (by rw [Hv.puts_stop h2 hk]; exact h2), Hv.puts_stop h2 hk]
 unfold Hv.layM
 rw [Hv.andM_no (by rw [e]), e]
theorem lay_pre {g z n : Nat} {L : List (List Nat)} {S : Dk.D} (h : (Hv.beginM g z n S).1 = true) (h2 : (Hv.putsM g n L L.length (Hv.beginM g z n S).2).1 = true) : Hv.preM g z n L S = Hv.syM (Hv.putsM g n L L.length (Hv.beginM g z n S).2).2 := by
 unfold Hv.preM
 rw [Hv.andM_yes h, Hv.andM_yes h2]
theorem lay_no3 {g z n : Nat} {L : List (List Nat)} {S : Dk.D} (h : (Hv.preM g z n L S).1 = false) : Hv.layM g z n L S = (false, (Hv.preM g z n L S).2) := Hv.andM_no h
theorem lay_end {g z n : Nat} {L : List (List Nat)} {S : Dk.D} (h : (Hv.preM g z n L S).1 = true) : Hv.layM g z n L S = Hv.finishM g n (Hv.preM g z n L S).2 := Hv.andM_yes h
set_option maxRecDepth 100000 in
set_option maxHeartbeats 1000000 in
theorem lay_any {B l d z k U V f : Nat} {S : Dk.D} (a : Nat → Addr) (w0 w : World) (n0 m : Nat) (v : Value) (_hU : U = 0 ∨ U = 1) (hV : V = 0 ∨ V = 1) (hf : f = Hv.fst z V) (hL : LogAt B w l d z U n0 v m false) (hv : v.oneCell' = true) (hD : DkX B w d S k) (ho : S.off = false) (hz : 2 ≤ z) (hi : z + z ≤ S.size) (hk : k + 100000 < 1000000) (hE : Env B a w0 w) (s0 t0 s1 t1 : Nat) (h0 : Hv.headM (Dk.seen S 0) = (s0, t0)) (h1 : Hv.headM (Dk.seen S z) = (s1, t1)) (n : Nat) (hn : n = max (max 1 (s0 + 1)) (s1 + 1)) (htop : n ≤ Hv.top)
  (x : Value) (vs : List Value) (L : List (List Nat)) (hx : ∀ w', TFr B w w' → RdLL w' x vs L) (hxs : Hv.Small L) (hxb : ∀ y ∈ L, Sha.Byte y) (hll : L.length ≤ 1000) (hfit : Hv.pos L L.length ≤ z) :
  Calls Tryd.prog 29 #[.pointer (some ⟨l, 0, none⟩), .int .i64 (V : Nat), x] w (LayP B a w l d z V n (Hv.pos L L.length) (k + z + z + 10) L (Hv.layM f z n L S)) := by
 obtain ⟨A, cA, hx0, _, _, _, _⟩ := hx w TFr.refl
 subst hx0
 have HSZ : Hid (S.size ≤ 4096) := Lib.hid hD.ok.size
 have HLB : Hid (B ≤ l) := Lib.hid hL.low
 have HFZ : Hid (f + z ≤ S.size) := Lib.hid (by rw [hf]; unfold Hv.fst; split <;> omega)
 have HFR : Hid (∀ w', Blk w' l 59 (logCells d z U n0 v m false) → w'.rangeAt l (3 * V) [.pointer (some ⟨d, 0, none⟩), .int .i64 (f : Nat), .int .i64 (z : Int)]) := Lib.hid (fun w' h => by
  rw [hf]
  rcases hV with rfl | rfl
  ·exact half_range0 h
  ·exact half_range1 h)
 obtain ⟨M, hM⟩ : ∃ M, M = Hv.layM f z n L S := ⟨_, rfl⟩
 rw [← hM]
 have HM := Lib.hid hM
 have HVV := Lib.hid hV
 have HL := Lib.hid hL
 have HD := Lib.hid hD
 have HE := Lib.hid hE
 have HV := Lib.hid hv
 have HX := Lib.hid hx
 have HXS := Lib.hid hxs
 have HXB := Lib.hid hxb
 have HFIT := Lib.hid hfit
 have HN := Lib.hid htop
 have HI := Lib.hid hi
 have hzz : (z : Int) ≤ 4096 := by have := hD.ok.size; omega
 have hlL : (L.length : Int) ≤ 1000 := by omega
 have hpos1 := Hv.pos_ge L
 have HP1 := Lib.hid hpos1
 have HPM : Hid (∀ i j, i ≤ j → Hv.pos L i ≤ Hv.pos L j) := Lib.hid (fun i j h => Hv.pos_mono L h)
 have HCN : Hid (∀ w', Below w.heap.size w w' → Calls Tryd.prog 35 #[.pointer (some ⟨l, 0, none⟩)] w' fun e w'' => e = .returned (.int .i64 (n : Int)) ∧ Below w'.heap.size w' w'') := Lib.hid (fun w' hb => nextSerial_any a w0 w' (hL.below hb) (hD.below hb) ho (by omega) hi (hE.below hb) s0 t0 s1 t1 n h0 h1 hn htop)
 have hV2 : (V : Int) < 2 := by omega
 clear hL hD hE _hU hV hv hx hxs hxb hfit hn h0 h1 htop hf hM hpos1 hi
 go_enter Tryd.func29, Tryd.ntmps29
 go_upto_region 0 with fail
 go_cut [6, 7, 8] from 11 to 18 (fun p q r wx => ∃ g5, p = .pointer (some ⟨g5, 0, none⟩) ∧ q = .int .i64 (n : Nat) ∧ r = .int .i64 1 ∧ Hid (Below w.heap.size w wx ∧ Blk wx g5 56 #[.pointer (some ⟨d, 0, none⟩), .int .i64 (f : Nat), .int .i64 (z : Int)]))
 case rest =>
  obtain ⟨g5, hp6, hq7, hr8, HW⟩ := hcut
  subst hp6 hq7 hr8
  have HB5 := Lib.hid HW.out.1
  have HK5 := Lib.hid HW.out.2
  have HL5 := Lib.hid (HL.out.below HB5.out)
  have HD5 := Lib.hid (HD.out.below HB5.out)
  have HE5 := Lib.hid (HE.out.below HB5.out)
  have HT5 : Hid (TFr B w wc) := Lib.hid (TFr.below HB5.out)
  clear HW
  have CB := hbegin_any f z n a w0 wc HD5.out (by omega) HFZ.out (by have := HSZ.out; have := HI.out; omega) HN.out HE5.out
  obtain ⟨b1, hb1⟩ : ∃ b1, b1 = (Hv.beginM f z n S).1 := ⟨_, rfl⟩
  rw [← hb1] at CB
  have HB1 := Lib.hid hb1
  clear hb1
  unfold halfV at CB
  go_wp2_with (refine wpList_load_row rfl 56 (.tmp 6) rfl g5 rfl 56 _ (0,0) _ HK5.out Tryd.underlying56 rfl (by kernel_rfl) ?_)
  go_at_call 36
  refine CB.mono ?_
  rintro e w6 ⟨rfl, hd6, ht6⟩
  rcases hb : b1 with _ | _
  ·refine ⟨rfl, ?_⟩
   rw [HM.out, lay_no1 (by rw [← HB1.out, hb])]
   exact Or.inr ⟨rfl, rfl, hd6.mono (by omega), HT5.out.trans ht6⟩
  subst hb
  obtain ⟨S1, hS1⟩ : ∃ S1, S1 = (Hv.beginM f z n S).2 := ⟨_, rfl⟩
  rw [← hS1] at hd6
  have HS1 := Lib.hid hS1
  have HS1Z : Hid (S1.size = S.size) := Lib.hid (by rw [hS1]; exact begin_size)
  have HD6 := Lib.hid hd6
  have HL6 := Lib.hid (HL5.out.tfr ht6)
  have HE6 := Lib.hid (HE5.out.tfr ht6)
  have HT6 := Lib.hid (HT5.out.trans ht6)
  have HK6 : Hid (Blk w6 g5 56 #[.pointer (some ⟨d, 0, none⟩), .int .i64 (f : Nat), .int .i64 (z : Int)]) := Lib.hid (ht6.typed _ _ _ HK5.out (by decide) (by decide))
  unfold outc
  rw [if_pos rfl]
  clear hd6 ht6 CB hS1
  go_wp2_with fail
  have HTW6 : Hid (TFr B w6 w6) := Lib.hid TFr.refl
  have HY6 : Hid ((Hv.putsM f n L 0 S1).1 = true) := Lib.hid rfl
  have HDX6 : Hid (DkX B w6 d (Hv.putsM f n L 0 S1).2 (k + z + 2 + Hv.pos L 0)) := Lib.hid (HD6.out.mono (by omega))
  go_loopw [8, 24] (fun p j wr => ∃ i : Nat, i ≤ L.length ∧ j = .int .i64 (i : Int) ∧ p = .int .i64 (Hv.pos L i : Nat) ∧ Hid ((Hv.putsM f n L i S1).1 = true) ∧ Hid (DkX B wr d (Hv.putsM f n L i S1).2 (k + z + 2 + Hv.pos L i)) ∧ Hid (TFr B w6 wr)) (fun _ j _ => L.length - (intOf j).toNat)
  case atStart => exact ⟨0, Nat.zero_le _, rfl, rfl, HY6, HDX6, HTW6⟩
  case round =>
   obtain ⟨i, hi, rfl, rfl, HY, HDX, HT⟩ := hrel
   have HTr := Lib.hid (HT6.out.trans HT.out)
   have HEr := Lib.hid (HE6.out.tfr HT.out)
   have HKr : Hid (Blk wr g5 56 #[.pointer (some ⟨d, 0, none⟩), .int .i64 (f : Nat), .int .i64 (z : Int)]) := Lib.hid (HT.out.typed _ _ _ HK6.out (by decide) (by decide))
   by_cases hlt : i < L.length
   ·obtain ⟨A', c', e1, _, hvl, hAx, hrd⟩ := HX.out wr HTr.out
    injection e1 with x1 x2 x3
    subst x1 x3
    obtain ⟨b, o, rfl, hbw, hcell⟩ := hAx (by omega)
    obtain ⟨u, hu⟩ : ∃ u, vs[i]? = some u := ⟨vs[i]'(by omega), List.getElem?_eq_getElem _⟩
    have pc := hcell i u hu
    have hRd := hrd i u hu
    obtain ⟨y, hy⟩ : ∃ y, y = L.getD i [] := ⟨_, rfl⟩
    rw [← hy] at hRd
    obtain ⟨A1, c1, rfl, _, _⟩ := id hRd
    have hyl : 1 ≤ y.length ∧ y.length ≤ 3000 := by rw [hy]; exact HXS.out i hlt
    have hyb : Sha.Byte y := by
     rw [hy, List.getD_eq_getElem?_getD, List.getElem?_eq_getElem hlt]
     exact HXB.out _ (List.getElem_mem hlt)
    have HPS : Hid (Hv.pos L (i + 1) = Hv.pos L i + Hv.need (y.length : Int)) := Lib.hid (by rw [hy]; rfl)
    have HPZ : Hid (Hv.pos L (i + 1) ≤ z) := Lib.hid (Nat.le_trans (HPM.out _ _ hlt) HFIT.out)
    have HPI : Hid ((Hv.putsM f n L i S1).2.size = S.size) := Lib.hid (puts_size.trans HS1Z.out)
    have CP := hput_any f z (Hv.pos L i) n i A1 y.length c1 y a w0 wr HDX.out rfl hyl.1 hyl.2 hRd hyb (by rw [HPI.out]; have := HPS.out; have := HPZ.out; have := HFZ.out; omega) (by have := HPS.out; have := HPZ.out; have := HI.out; have := HSZ.out; omega) HN.out (by omega) HEr.out
    have HST : Hid (Hv.putsM f n L (i + 1) S1 = Hv.putM f (Hv.pos L i) n i y (Hv.putsM f n L i S1).2) := Lib.hid (by rw [hy]; exact Hv.andM_yes HY.out)
    obtain ⟨pb, hpb⟩ : ∃ pb, pb = (Hv.putM f (Hv.pos L i) n i y (Hv.putsM f n L i S1).2).1 := ⟨_, rfl⟩
    rw [← hpb] at CP
    have HPB := Lib.hid hpb
    have CN := need_any (y.length : Int)
    obtain ⟨ln, hln⟩ : ∃ ln, ln = y.length := ⟨_, rfl⟩
    obtain ⟨nd, hnd⟩ : ∃ nd, nd = Hv.need (y.length : Int) := ⟨_, rfl⟩
    obtain ⟨pp, hpp⟩ : ∃ pp, pp = Hv.pos L i := ⟨_, rfl⟩
    rw [← hnd] at CP CN HPS
    rw [← hpp] at CP HPS HST HDX ⊢
    rw [← hln] at CP CN pc hyl
    have HPP := Lib.hid hpp
    have i1 : (i : Int) < (L.length : Int) := by omega
    have i2 : (pp : Int) + (nd : Int) ≤ 4096 := by have := HPS.out; have := HPZ.out; omega
    have i3 : (ln : Int) ≤ 3000 := by omega
    have HLT := Lib.hid hlt
    clear hAx hrd hcell hvl hu hRd hyb hpb hln hnd hpp hy hbw hi hlt
    go_wp2_with (refine wpList_load_row rfl 56 (.tmp 6) rfl g5 rfl 56 _ (0,0) _ HKr.out Tryd.underlying56 rfl (by kernel_rfl) ?_)
    unfold halfV at CP
    go_at_call 25
    refine CP.mono ?_
    rintro e w7 ⟨rfl, hd7, ht7⟩
    rcases hb : pb with _ | _
    ·refine ⟨rfl, ?_⟩
     have hF : (Hv.putsM f n L (i + 1) S1).1 = false := by rw [HST.out, HPP.out, ← hb, HPB.out]
     rw [HM.out, lay_no2 HB1.out.symm (show i + 1 ≤ L.length from HLT.out) (by rw [← HS1.out]; exact hF), ← HS1.out, HST.out]
     exact Or.inr ⟨rfl, rfl, hd7.mono (by have := HPS.out; have := HPZ.out; have := HFZ.out; omega), HTr.out.trans ht7⟩
    subst hb
    have HY7 : Hid ((Hv.putsM f n L (i + 1) S1).1 = true) := Lib.hid (by rw [HST.out, HPP.out]; exact HPB.out.symm)
    have HD7 : Hid (DkX B w7 d (Hv.putsM f n L (i + 1) S1).2 (k + z + 2 + Hv.pos L (i + 1))) := Lib.hid (by rw [HST.out, HPS.out]; exact hd7.mono (by omega))
    have HT7 := Lib.hid (HT.out.trans ht7)
    unfold outc
    rw [if_pos rfl]
    clear hd7 ht7 CP pc
    go_wp2_with fail
    go_at_call 22
    refine (CN w7 (WalkArith.wf_i64 (by omega))).mono ?_
    rintro e wn ⟨rfl, rfl⟩
    clear CN
    go_wp2
    go_roundw
    case rel => exact ⟨i + 1, HLT.out, by go_num, by rw [HPS.out]; go_num, HY7, HD7, HT7⟩
    case measure => have := HLT.out; simp [intOf]; omega
   ·obtain rfl : i = L.length := by omega
    have HPRE : Hid (Hv.preM f z n L S = Hv.syM (Hv.putsM f n L L.length S1).2) := Lib.hid (by rw [HS1.out]; exact lay_pre HB1.out.symm (by rw [← HS1.out]; exact HY.out))
    have HPI : Hid ((Hv.putsM f n L L.length S1).2.size = S.size) := Lib.hid (puts_size.trans HS1Z.out)
    obtain ⟨T, hT⟩ : ∃ T, T = (Hv.putsM f n L L.length S1).2 := ⟨_, rfl⟩
    obtain ⟨pp, hpp⟩ : ∃ pp, pp = Hv.pos L L.length := ⟨_, rfl⟩
    have HPP := Lib.hid hpp
    rw [← hpp] at HDX HFIT ⊢
    rw [← hT] at HDX HPRE HPI
    have hppz : (pp : Int) ≤ (z : Int) := by have := HFIT.out; omega
    have CS := xsync_any f z (a 15) wr HDX.out (by have := HSZ.out; have := HFIT.out; have := HI.out; omega) HEr.out.down (HEr.out.ne HDX.out)
    obtain ⟨dn, hdn⟩ : ∃ dn, dn = Dk.done T := ⟨_, rfl⟩
    rw [← hdn] at CS
    have HDN := Lib.hid hdn
    clear hdn hT hpp hlt hi
    unfold halfV at CS
    go_wp2_with (refine wpList_load_row rfl 56 (.tmp 6) rfl g5 rfl 56 _ (0,0) _ HKr.out Tryd.underlying56 rfl (by kernel_rfl) ?_)
    go_at_call 26
    refine CS.mono ?_
    rintro e w7 ⟨rfl, hd7, ht7⟩
    rcases hb : dn with _ | _
    ·refine ⟨rfl, ?_⟩
     rw [HM.out, lay_no3 (by rw [HPRE.out]; exact HDN.out.symm.trans hb), HPRE.out]
     exact Or.inr ⟨rfl, rfl, hd7.mono (by have := HFIT.out; omega), HTr.out.trans ht7⟩
    subst hb
    have HM2 : Hid (M = Hv.finishM f n (Dk.syncs T)) := Lib.hid (by rw [HM.out, lay_end (by rw [HPRE.out]; exact HDN.out.symm), HPRE.out]; rfl)
    have HD7 := Lib.hid hd7
    have HT7 := Lib.hid (HTr.out.trans ht7)
    have HE7 := Lib.hid (HEr.out.tfr ht7)
    have HK7 : Hid (Blk w7 g5 56 #[.pointer (some ⟨d, 0, none⟩), .int .i64 (f : Nat), .int .i64 (z : Int)]) := Lib.hid (ht7.typed _ _ _ HKr.out (by decide) (by decide))
    unfold outc
    rw [if_pos rfl]
    clear hd7 ht7 CS
    have CF := hfinish_any f z n a w0 w7 HD7.out (by rw [(syncs_nums _).1, HPI.out]; have := HFZ.out; omega) (by have := HSZ.out; have := HFIT.out; have := HI.out; omega) HN.out HE7.out
    rw [← HM2.out] at CF
    obtain ⟨b3, hb3⟩ : ∃ b3, b3 = M.1 := ⟨_, rfl⟩
    rw [← hb3] at CF
    have HB3 := Lib.hid hb3
    clear hb3
    unfold halfV at CF
    go_wp2_with (refine wpList_load_row rfl 56 (.tmp 6) rfl g5 rfl 56 _ (0,0) _ HK7.out Tryd.underlying56 rfl (by kernel_rfl) ?_)
    go_at_call 37
    refine CF.mono ?_
    rintro e w8 ⟨rfl, hd8, ht8⟩
    rcases hb : b3 with _ | _
    ·refine ⟨rfl, ?_⟩
     exact Or.inr ⟨HB3.out.symm.trans hb, rfl, hd8.mono (by have := HFIT.out; omega), HT7.out.trans ht8⟩
    subst hb
    have HD8 : Hid (DkX B w8 d M.2 (k + z + z + 10)) := Lib.hid (hd8.mono (by have := HFIT.out; omega))
    have HT8 := Lib.hid (HT7.out.trans ht8)
    have HL8 := Lib.hid (HL.out.tfr HT8.out)
    unfold outc
    rw [if_pos rfl]
    clear hd8 ht8 CF
    go_wp2_with fail
    have CC := copies_any _ vs L w8 (HX.out w8 HT8.out) (by omega) (fun y hy => by
     obtain ⟨i, hi, rfl⟩ := List.getElem_of_mem hy
     have := (HXS.out i hi).2
     rw [List.getD_eq_getElem?_getD, List.getElem?_eq_getElem hi] at this
     exact Nat.le_trans this (by decide))
    go_at_call 30
    refine CC.mono ?_
    rintro e w10 ⟨v10, rfl, ⟨us, hr10⟩, hb10⟩
    obtain ⟨A10, c10, rfl⟩ := row_slice hr10.row
    have HL10 := Lib.hid (HL8.out.below hb10)
    have HD10 := Lib.hid (HD8.out.below hb10)
    have HF10 : Hid (LFr B l w w10) := Lib.hid ((LFr.of HT8.out).trans (LFr.below hb10))
    have HR10 : Hid (Recs B w10 (.slice A10 L.length c10) us L) := Lib.hid (hr10.mono (by have := HD8.out.lt; omega))
    clear hr10 hb10 CC
    have q6 : w10.cell? ⟨l, 6, none⟩ = some (.int .i64 (U : Nat)) := HL10.out.blk.cell 6
    have z6 : w10.frozen? ⟨l, 6, none⟩ = false := HL10.out.blk.frozen 6
    have k6 := (HL10.out.blk).set_ 6 (.int .i64 (V : Nat))
    have rr6 := (HR10.out).far (HL10.out.blk) 6 (.int .i64 (V : Nat))
    have q7 : (w10.setCell ⟨l, 6, none⟩ (.int .i64 (V : Nat))).cell? ⟨l, 7, none⟩ = some (.int .i64 (n0 : Int)) := k6.cell 7
    have z7 : (w10.setCell ⟨l, 6, none⟩ (.int .i64 (V : Nat))).frozen? ⟨l, 7, none⟩ = false := k6.frozen 7
    have k7 := (k6).set_ 7 (.int .i64 (n : Int))
    have rr7 := (rr6).far (k6) 7 (.int .i64 (n : Int))
    have q8 : ((w10.setCell ⟨l, 6, none⟩ (.int .i64 (V : Nat))).setCell ⟨l, 7, none⟩ (.int .i64 (n : Int))).cell? ⟨l, 8, none⟩ = some (v) := k7.cell 8
    have z8 : ((w10.setCell ⟨l, 6, none⟩ (.int .i64 (V : Nat))).setCell ⟨l, 7, none⟩ (.int .i64 (n : Int))).frozen? ⟨l, 8, none⟩ = false := k7.frozen 8
    have k8 := (k7).set_ 8 (.slice A10 L.length c10)
    have rr8 := (rr7).far (k7) 8 (.slice A10 L.length c10)
    have q9 : (((w10.setCell ⟨l, 6, none⟩ (.int .i64 (V : Nat))).setCell ⟨l, 7, none⟩ (.int .i64 (n : Int))).setCell ⟨l, 8, none⟩ (.slice A10 L.length c10)).cell? ⟨l, 9, none⟩ = some (.int .i64 (m : Int)) := k8.cell 9
    have z9 : (((w10.setCell ⟨l, 6, none⟩ (.int .i64 (V : Nat))).setCell ⟨l, 7, none⟩ (.int .i64 (n : Int))).setCell ⟨l, 8, none⟩ (.slice A10 L.length c10)).frozen? ⟨l, 9, none⟩ = false := k8.frozen 9
    have k9 := (k8).set_ 9 (.int .i64 (pp : Nat))
    have rr9 := (rr8).far (k8) 9 (.int .i64 (pp : Nat))
    obtain ⟨wz, hwz⟩ : ∃ wz, wz = ((((w10.setCell ⟨l, 6, none⟩ (.int .i64 (V : Nat))).setCell ⟨l, 7, none⟩ (.int .i64 (n : Int))).setCell ⟨l, 8, none⟩ (.slice A10 L.length c10)).setCell ⟨l, 9, none⟩ (.int .i64 (pp : Nat))) := ⟨_, rfl⟩
    have HLZ : Hid (LogAt B wz l d z V n (.slice A10 L.length c10) pp false) := Lib.hid (by rw [hwz]; exact ⟨k9, HLB.out⟩)
    have HRZ : Hid (Recs B wz (.slice A10 L.length c10) us L) := Lib.hid (by rw [hwz]; exact rr9)
    have HDZ : Hid (DkX B wz d M.2 _) := Lib.hid (by rw [hwz]; exact dk_set2 (dk_set2 HD10.out HL10.out.blk _ _ _ _) k7 _ _ _ _)
    have HFZ2 : Hid (LFr B l w wz) := Lib.hid (by rw [hwz]; exact (((HF10.out.trans (LFr.set HLB.out _ _)).trans (LFr.set HLB.out _ _)).trans (LFr.set HLB.out _ _)).trans (LFr.set HLB.out _ _))
    clear k6 k7 k8 k9 rr6 rr7 rr8 rr9
    go_wp2_with (rw [← hwz])
    go_end0
    exact Or.inl ⟨HB3.out.symm, rfl, ⟨_, HPP.out ▸ HLZ.out, _, HRZ.out⟩, HDZ.out, HFZ2.out⟩
 go_wp2_with fail
 obtain ⟨w1, hw1⟩ : ∃ w1, w1 = w.drew := ⟨_, rfl⟩
 have HB1 : Hid (Below w.heap.size w w1) := Lib.hid (by rw [hw1]; exact below_drewN (Below.refl _ _) 1)
 have HL1 := Lib.hid (HL.out.below HB1.out)
 refine wp_region_held (S := (fun w' => Blk w' l 59 (logCells d z U n0 v m false))) (by kernel_rfl) ?_
 change wpAnyH _ _ _ _ _ _ _ _ w.drew
 rw [← hw1]
 clear hw1
 refine wpAnyH_take (i := 0) (v := ?_) rfl (by kernel_rfl) (by kernel_rfl) (by kernel_rfl) (fun _ _ _ h => h) (Or.inl ⟨by rfl, ?_⟩) (HL1.out.blk) ?_
 rotate_left
 ·intro w _; go_simp; with_reducible rfl
 try simp only [Act.put, List.getElem_toArray, List.getElem_cons_zero, List.setIfInBounds_toArray, List.set_cons_zero, List.set_cons_succ]
 refine wpAnyH_take (i := 1) (v := ?_) rfl (by kernel_rfl) (by kernel_rfl) (by kernel_rfl) (fun _ _ _ h => h) (Or.inl ⟨by rfl, ?_⟩) (HL1.out.blk) ?_
 rotate_left
 ·intro w _; go_simp; with_reducible rfl
 try simp only [Act.put, List.getElem_toArray, List.getElem_cons_zero, List.getElem_cons_succ, List.setIfInBounds_toArray, List.set_cons_zero, List.set_cons_succ]
 refine wpAnyH_take (i := 2) (v := ?_) rfl (by kernel_rfl) (by kernel_rfl) (by kernel_rfl) (fun _ _ _ h => h) (Or.inl ⟨by rfl, ?_⟩) (HL1.out.blk) ?_
 rotate_left
 ·intro w _; go_simp; with_reducible rfl
 try simp only [Act.put, List.getElem_toArray, List.getElem_cons_zero, List.getElem_cons_succ, List.setIfInBounds_toArray, List.set_cons_zero, List.set_cons_succ]
 refine wpAnyH_take (i := 3) (v := ?_) rfl (by kernel_rfl) (by kernel_rfl) (by kernel_rfl) (fun _ _ _ h => h) (Or.inl ⟨by rfl, ?_⟩) (HL1.out.blk) ?_
 rotate_left
 ·intro w _; go_simp; with_reducible rfl
 try simp only [Act.put, List.getElem_toArray, List.getElem_cons_zero, List.getElem_cons_succ, List.setIfInBounds_toArray, List.set_cons_zero, List.set_cons_succ]
 refine wpAnyH_take (i := 4) (v := .pointer (some ⟨l, 3 * V, none⟩)) rfl (by kernel_rfl) (by kernel_rfl) (by kernel_rfl) (fun _ _ _ h => h) (Or.inl ⟨by rfl, ?_⟩) (HL1.out.blk) ?_
 ·intro w' _; rcases HVV.out with rfl | rfl <;> (go_simp; try with_reducible rfl)
 try simp only [Act.put, List.getElem_toArray, List.getElem_cons_zero, List.getElem_cons_succ, List.setIfInBounds_toArray, List.set_cons_zero, List.set_cons_succ]
 refine wpAnyH_take (i := 5) rfl (by kernel_rfl) (by kernel_rfl) (by kernel_rfl) (fun _ _ _ h => h) (yieldsIf_load_mid (by rfl) 56 (.tmp 15) rfl l (3 * V) rfl [.pointer (some ⟨d, 0, none⟩), .int .i64 (f : Nat), .int .i64 (z : Int)] _ (fun w' hS => HFR.out w' hS) Tryd.underlying56 rfl (by kernel_rfl)) (HL1.out.blk) ?_
 try simp only [Act.put, List.getElem_toArray, List.getElem_cons_zero, List.getElem_cons_succ, List.setIfInBounds_toArray, List.set_cons_zero, List.set_cons_succ]
 refine wpAnyH_take (i := 6) (v := ?_) rfl (by kernel_rfl) (by kernel_rfl) (by kernel_rfl) (fun _ _ _ h => h) (Or.inl ⟨by rfl, ?_⟩) (HL1.out.blk) ?_
 rotate_left
 ·intro w _; go_simp; with_reducible rfl
 try simp only [Act.put, List.getElem_toArray, List.getElem_cons_zero, List.getElem_cons_succ, List.setIfInBounds_toArray, List.set_cons_zero, List.set_cons_succ]
 have CN := HCN.out w1 HB1.out
 have CM := HCN.out (w1.alloc (.cells #[.pointer none, .int .i64 0, .int .i64 0] 56)) (below_then HB1.out (below_al w1 _))
 refine all_two (i := 7) (j := 8) (by kernel_rfl) rfl rfl (by rfl) (by rfl) (fun K hK => ?_) (fun K hK => ?_)
 ·go_simp
  refine CN.mono ?_
  rintro e w2 ⟨rfl, hb2⟩
  dsimp only
  refine hK _ _ (HL1.out.below hb2).blk ?_; clear hK K CM
  try simp only [Act.put, List.getElem_toArray, List.getElem_cons_zero, List.getElem_cons_succ, List.setIfInBounds_toArray, List.set_cons_zero, List.set_cons_succ]
  refine all_one (i := 8) (by kernel_rfl) rfl (by rfl) (fun K hK => ?_)
  go_simp
  refine hK _ _ ((HL1.out.below hb2).blk.alloc _) ?_; clear hK K
  try simp only [Act.put, List.getElem_toArray, List.getElem_cons_zero, List.getElem_cons_succ, List.setIfInBounds_toArray, List.set_cons_zero, List.set_cons_succ]
  have HBA : Hid (Below w1.heap.size w1 (w2.alloc (.cells #[.pointer none, .int .i64 0, .int .i64 0] 56))) := Lib.hid (below_then hb2 (below_al w2 _))
  have HKA : Hid (Blk (w2.alloc (.cells #[.pointer none, .int .i64 0, .int .i64 0] 56)) w2.heap.size 56 #[.pointer none, .int .i64 0, .int .i64 0]) := Lib.hid (Blk.new w2 _ _)
  have HGA : Hid (w1.heap.size ≤ w2.heap.size) := Lib.hid hb2.size
  obtain ⟨w5, hw5⟩ : ∃ w5, w5 = (w2.alloc (.cells #[.pointer none, .int .i64 0, .int .i64 0] 56)).setRow w2.heap.size #[.pointer (some ⟨d, 0, none⟩), .int .i64 (f : Nat), .int .i64 (z : Int)] := ⟨_, rfl⟩
  have HB5 : Hid (Below w.heap.size w w5) := Lib.hid (by rw [hw5]; exact below_then HB1.out (below_row HBA.out HGA.out _))
  have HK5 : Hid (Blk w5 w2.heap.size 56 #[.pointer (some ⟨d, 0, none⟩), .int .i64 (f : Nat), .int .i64 (z : Int)]) := Lib.hid (by rw [hw5]; exact HKA.out.row _)
  have HL5 := Lib.hid (HL.out.below HB5.out)
  refine all_one (i := 9) (by kernel_rfl) rfl (by rfl) (fun K hK => ?_)
  refine wp_store_row 56 (.tmp 6) (.tmp 16) rfl w2.heap.size #[.pointer (some ⟨d, 0, none⟩), .int .i64 (f : Nat), .int .i64 (z : Int)] rfl rfl 56 #[.pointer none, .int .i64 0, .int .i64 0] HKA.out (by kernel_rfl) rfl (by simp [Value.oneCell']) ?_
  rw [← hw5]
  refine hK _ _ HL5.out.blk ?_; clear hK K
  try simp only [Act.put, List.getElem_toArray, List.getElem_cons_zero, List.getElem_cons_succ]
  refine wpAnyH_take (i := 10) (v := ?_) rfl (by kernel_rfl) (by kernel_rfl) (by kernel_rfl) (fun _ _ _ h => h) (Or.inl ⟨by rfl, ?_⟩) (HL5.out.blk) ?_
  rotate_left
  ·intro w _; go_simp; with_reducible rfl
  try simp only [Act.put, List.getElem_toArray, List.getElem_cons_zero, List.getElem_cons_succ, List.setIfInBounds_toArray, List.set_cons_zero, List.set_cons_succ]
  refine wpAnyH_take (i := 11) (v := ?_) rfl (by kernel_rfl) (by kernel_rfl) (by kernel_rfl) (fun _ _ _ h => h) (Or.inl ⟨by rfl, ?_⟩) (HL5.out.blk) ?_
  rotate_left
  ·intro w _; go_simp; with_reducible rfl
  try simp only [Act.put, List.getElem_toArray, List.getElem_cons_zero, List.getElem_cons_succ, List.setIfInBounds_toArray, List.set_cons_zero, List.set_cons_succ]
  refine wpAnyH_done (by kernel_rfl) ?_ _
  go_wp2
  go_meet
  case rel => exact ⟨_, rfl, rfl, rfl, Lib.hid ⟨HB5.out, HK5.out⟩⟩
 ·go_simp
  refine hK _ _ (HL1.out.blk.alloc _) ?_; clear hK K CN
  try simp only [Act.put, List.getElem_toArray, List.getElem_cons_zero, List.getElem_cons_succ, List.setIfInBounds_toArray, List.set_cons_zero, List.set_cons_succ]
  refine all_one (i := 7) (by kernel_rfl) rfl (by rfl) (fun K hK => ?_)
  go_simp
  refine CM.mono ?_
  rintro e w2 ⟨rfl, hb2⟩
  dsimp only
  refine hK _ _ ((HL1.out.below (below_al w1 _)).below hb2).blk ?_; clear hK K
  try simp only [Act.put, List.getElem_toArray, List.getElem_cons_zero, List.getElem_cons_succ, List.setIfInBounds_toArray, List.set_cons_zero, List.set_cons_succ]
  have HBA : Hid (Below w1.heap.size w1 w2) := Lib.hid (below_then (below_al w1 _) hb2)
  have HKA : Hid (Blk w2 w1.heap.size 56 #[.pointer none, .int .i64 0, .int .i64 0]) := Lib.hid ((Blk.new w1 _ _).below hb2 (Blk.new w1 _ _).lt)
  have HGA : Hid (w1.heap.size ≤ w1.heap.size) := Lib.hid (Nat.le_refl _)
  obtain ⟨w5, hw5⟩ : ∃ w5, w5 = (w2).setRow w1.heap.size #[.pointer (some ⟨d, 0, none⟩), .int .i64 (f : Nat), .int .i64 (z : Int)] := ⟨_, rfl⟩
  have HB5 : Hid (Below w.heap.size w w5) := Lib.hid (by rw [hw5]; exact below_then HB1.out (below_row HBA.out HGA.out _))
  have HK5 : Hid (Blk w5 w1.heap.size 56 #[.pointer (some ⟨d, 0, none⟩), .int .i64 (f : Nat), .int .i64 (z : Int)]) := Lib.hid (by rw [hw5]; exact HKA.out.row _)
  have HL5 := Lib.hid (HL.out.below HB5.out)
  refine all_one (i := 9) (by kernel_rfl) rfl (by rfl) (fun K hK => ?_)
  refine wp_store_row 56 (.tmp 6) (.tmp 16) rfl w1.heap.size #[.pointer (some ⟨d, 0, none⟩), .int .i64 (f : Nat), .int .i64 (z : Int)] rfl rfl 56 #[.pointer none, .int .i64 0, .int .i64 0] HKA.out (by kernel_rfl) rfl (by simp [Value.oneCell']) ?_
  rw [← hw5]
  refine hK _ _ HL5.out.blk ?_; clear hK K
  try simp only [Act.put, List.getElem_toArray, List.getElem_cons_zero, List.getElem_cons_succ]
  refine wpAnyH_take (i := 10) (v := ?_) rfl (by kernel_rfl) (by kernel_rfl) (by kernel_rfl) (fun _ _ _ h => h) (Or.inl ⟨by rfl, ?_⟩) (HL5.out.blk) ?_
  rotate_left
  ·intro w _; go_simp; with_reducible rfl
  try simp only [Act.put, List.getElem_toArray, List.getElem_cons_zero, List.getElem_cons_succ, List.setIfInBounds_toArray, List.set_cons_zero, List.set_cons_succ]
  refine wpAnyH_take (i := 11) (v := ?_) rfl (by kernel_rfl) (by kernel_rfl) (by kernel_rfl) (fun _ _ _ h => h) (Or.inl ⟨by rfl, ?_⟩) (HL5.out.blk) ?_
  rotate_left
  ·intro w _; go_simp; with_reducible rfl
  try simp only [Act.put, List.getElem_toArray, List.getElem_cons_zero, List.getElem_cons_succ, List.setIfInBounds_toArray, List.set_cons_zero, List.set_cons_succ]
  refine wpAnyH_done (by kernel_rfl) ?_ _
  go_wp2
  go_meet
  case rel => exact ⟨_, rfl, rfl, rfl, Lib.hid ⟨HB5.out, HK5.out⟩⟩
end Go.Proofs.YtdokojlgcplefaaDoor
