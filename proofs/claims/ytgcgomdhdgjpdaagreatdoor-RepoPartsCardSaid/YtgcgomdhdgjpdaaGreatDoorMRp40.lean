/- texts joined -/
import Derived.Test.YtgcgomdhdgjpdaaGreatDoorMRp31x
import Derived.Test.YtgcgomdhdgjpdaaGreatDoorMRp29s
import Derived.Test.YtgcgomdhdgjpdaaGreatDoorMOct4s
namespace Go.Proofs.YtgcgomdhdgjpdaaGreatDoor
open Go Go.RowKit Go.Maps
theorem rsents_of {w : World} {a : Nat → Addr} (h : Sents w a) : RSents w a := by
 refine ⟨⟨⟨?_, ?_, ?_⟩, ?_, ?_⟩, ?_, ?_, ?_, ?_, ?_⟩
 ·exact (h 1 (by omega)).var
 ·exact (h 3 (by omega)).var
 ·exact (h 6 (by omega)).var
 ·exact (h 12 (by omega)).var
 ·exact (h 0 (by omega)).var
 ·exact (h 8 (by omega)).var
 ·exact (h 9 (by omega)).var
 ·exact (h 17 (by omega)).var
 ·exact (h 19 (by omega)).var
 ·exact (h 21 (by omega)).var
theorem rem_len (x : Int) (m : Nat) (h0 : 0 < m) (hm : m ≤ 1000) : ∃ r : Nat, r < m ∧ (IntKind.u64.wrap x).tmod (m : Int) = (r : Int) ∧ wrap64 (r : Int) = (r : Int) ∧ IntKind.u64.wrap (r : Int) = (r : Int) ∧ IntKind.u64.wrap (m : Int) = (m : Int) := by
 have h1 : 0 ≤ x % 18446744073709551616 := Int.emod_nonneg _ (by omega)
 have h2 : (IntKind.u64.wrap x).tmod (m : Int) = (x % 18446744073709551616) % (m : Int) := by
  rw [wrap_u64, Int.tmod_eq_emod_of_nonneg h1]
 have h3 : 0 ≤ (x % 18446744073709551616) % (m : Int) := Int.emod_nonneg _ (by omega)
 have h4 : (x % 18446744073709551616) % (m : Int) < (m : Int) := Int.emod_lt_of_pos _ (by omega)
 refine ⟨((x % 18446744073709551616) % (m : Int)).toNat, by omega, by rw [h2]; omega, IntWalk.wrap64_in _ (by omega), ?_, ?_⟩
 ·rw [wrap_u64]; omega
 ·rw [wrap_u64]; omega
structure PrL (w wr : World) (r : Nat) (Aj : Option Addr) (cj : Nat) (rf ob : Value) (N M : Nat) (jj : List Jt) (O : List Nat → Option Cl.T) (s : Rp.St) (k : Nat) : Prop where
 x : RpX wr r Aj cj rf ob N M jj O s
 le : jj.length ≤ k
 runs : Rp.Runs Rp.empty s.js s
 bel : Below w.heap.size w wr
theorem Rp.Runs.next {s : Rp.St} (h : Rp.Runs Rp.empty s.js s) (e : En.E) : Rp.Runs Rp.empty (Rp.next s e).js (Rp.next s e) := by
 unfold Rp.next
 split
 ·rename_i h1
  rw [Rp.put_js]
  exact h.snoc h1
 ·exact h
theorem below_via {w w1 w2 : World} {B : Nat} (h : Below B w w1) (k : Below B w1 w2) : Below B w w2 :=
 ⟨k.os.trans h.os, k.tape.trans h.tape, k.output.trans h.output, Nat.le_trans h.size k.size, fun b hb => (k.block b hb).trans (h.block b hb)⟩
theorem es_at {js : List Jt} {l : List En.E} {k q : Nat} (h : js.map (·.e) = l.drop k) (hq : q < js.length) : ∃ hk : k + q < l.length, js[q].e = l[k + q] := by
 have hl : js.length = l.length - k := by
  have h1 : (js.map (·.e)).length = (l.drop k).length := by rw [h]
  rwa [List.length_map, List.length_drop] at h1
 refine ⟨by omega, ?_⟩
 have h1 : (js.map (·.e))[q]? = (l.drop k)[q]? := by rw [h]
 rw [List.getElem?_map, List.getElem?_eq_getElem hq, List.getElem?_drop, List.getElem?_eq_getElem (by omega)] at h1
 exact Option.some.inj h1
theorem es_mem {js : List Jt} {l : List En.E} {q : Nat} (h : js.map (·.e) = l) (hq : q < js.length) : js[q].e ∈ l := by
 rw [← h]
 exact List.mem_map.2 ⟨_, List.getElem_mem hq, rfl⟩
set_option maxRecDepth 100000 in
set_option maxHeartbeats 16000000 in
theorem rparts_law (A : Option Addr) (n c : Nat) (js : List Jt) (z : Int) (a : Nat → Addr) (w : World) (h : JrO w A n js) (hn : n * 72 ≤ 140737488355328) (ht : Tabs w) (hS : Sents w a) (hm : MaxAt w) (_hz : (Lit.int .i64 z).wf = true) :
  Calls Tryz.prog 4 #[.slice A n c, .int .i64 z] w fun e w' => e = .returned (.bool true) ∧ Below w.heap.size w w' := by
 have CA := ralive_any a w ht (rsents_of hS) hm
 have H := Lib.hid h
 have HN := Lib.hid hn
 have HT := Lib.hid ht
 have HSS := Lib.hid hS
 have HS := Lib.hid (rsents_of hS)
 have HM := Lib.hid hm
 clear h hn ht hS hm
 go_enter Tryz.func4, Tryz.ntmps4
 go_wp2_with (go_at_call 5; refine pause ?_)
 unfold Paused
 refine CA.mono ?_
 rintro e w1 ⟨rfl, hb1⟩
 have HB1 := Lib.hid hb1
 have CE := ents_any A n c js w1 (H.out.below hb1) HN.out
 unfold EsPost at CE
 clear CA hb1
 go_wp2_with (go_at_call 6; refine pause ?_)
 unfold Paused
 refine CE.mono ?_
 rintro e w2 ⟨v2, β, rfl, hβ, hb2⟩
 have HB2 := Lib.hid (below_next HB1.out hb2)
 clear CE hb2 HB1
 clear w1
 cases β with
 | false =>
  clear hβ
  go_wp2
  go_ret
  exact ⟨rfl, HB2.out⟩
 | true =>
  have HBT := Lib.hid (hβ rfl)
  have CN := new_any w2
  clear hβ
  go_wp2_with (go_at_call 7; refine pause ?_)
  unfold Paused
  refine CN.mono ?_
  rintro e w3 ⟨rfl, hr3, hb3⟩
  have HX3 := Lib.hid (RpX.fresh hr3)
  have HB3 := Lib.hid (below_next HB2.out hb3)
  obtain ⟨r, hr⟩ : ∃ r, r = w2.heap.size := ⟨_, rfl⟩
  rw [← hr] at HX3 ⊢
  have HWR : Hid (w.heap.size ≤ r) := Lib.hid (by rw [hr]; exact HB2.out.size)
  clear CN hr3 hb3 hr HB2
  clear w2
  go_wp2_with fail
  go_loopw [31] (fun i wr => ∃ k : Nat, k ≤ n ∧ i = .int .i64 k ∧ ∃ Aj cj rf ob N M jj O s, Hid (PrL w wr r Aj cj rf ob N M jj O s k)) (fun i _ => n - (intOf i).toNat)
  case atStart => exact ⟨0, Nat.zero_le _, rfl, _, _, _, _, _, _, _, _, _, Lib.hid ⟨HX3.out, Nat.le_refl _, Rp.Runs.done _, HB3.out⟩⟩
  case round =>
   obtain ⟨k, hk, rfl, Aj, cj, rf, ob, N, M, jj, O, s, HR⟩ := hrel
   clear HX3 HB3
   clear w3
   rcases Nat.lt_or_ge k n with hlt | hge
   ·have hkl : k < js.length := by rw [← H.out.len]; exact hlt
    have i1 : ((k : Nat) : Int) < n := by omega
    have i2 : (0 : Int) ≤ ((k : Nat) : Int) := by omega
    have i3 : ((k : Nat) : Int) < 2000000000000 := by have := HN.out; omega
    obtain ⟨b, o, rfl, hbl, hrow⟩ := H.out.row (by omega)
    have hrg : wr.rangeAt b (o + k * 5) js[k].cs.toList := fun i v hi => (HR.out.bel.cell (p := ⟨b, o + k * 5 + i, none⟩) hbl).trans (hrow k js[k] (List.getElem?_eq_getElem hkl) i v hi)
    have hok := H.out.ok js[k] (List.getElem_mem hkl)
    have hfew := HBT.out.2 js[k] (List.getElem_mem hkl)
    generalize js[k] = j at hrg hok hfew
    have HRG := Lib.hid hrg
    have HOK := Lib.hid hok.1
    have H5 := Lib.hid hok.1.five
    have HU : Hid (j.e.ups.length ≤ 1000) := Lib.hid (by unfold En.few at hfew; simp only [Bool.and_eq_true, decide_eq_true_eq] at hfew; omega)
    have HLT : Hid (k + 1 ≤ n) := Lib.hid hlt
    have HJL : Hid (jj.length ≤ 40) := Lib.hid (by have := HR.out.le; have := HBT.out.1; omega)
    clear hkl hbl hrow hrg hok hfew hk hlt
    go_wp2_with (with_reducible (show wpList _ _ _ (Oper.mk _ (Op.load 32 _) _ _ _ _ :: _) _ _); refine pause ?_)
    unfold Paused
    refine wpList_mid_w (by rfl) 32 (.tmp 33) (by rfl) b (o + k * 5) (by rfl) j.cs.toList _ HRG.out Tryz.underlying32 (by rfl) (by rw [Array.length_toList]; exact ent_load H5.out) ?_
    clear HRG
    go_wp2_with (with_reducible (show wpList _ _ _ (Oper.mk _ (Op.store 32 _ _) _ _ _ _ :: _) _ _); refine pause ?_)
    unfold Paused
    change wpList _ _ _ _ _ (wr.alloc (.cells zJ 32))
    refine wpList_store_row (by rfl) 32 (.tmp 9) (.tmp 34) (by rfl) wr.heap.size j.cs (by rfl) (by rfl) 32 zJ (Blk.new wr _ _) (ent_load H5.out) (by rw [H5.out]; rfl) HOK.out.oneJ ?_
    have b6 : Below wr.heap.size wr ((wr.alloc (.cells zJ 32)).setRow wr.heap.size j.cs) := below_row ((Below.refl _ _).alloc (Nat.le_refl _) _) (Nat.le_refl _) _
    have HI6 : Hid (Blk ((wr.alloc (.cells zJ 32)).setRow wr.heap.size j.cs) wr.heap.size 32 j.cs) := Lib.hid ((Blk.new wr _ _).row _)
    have HX6 := Lib.hid (HR.out.x.below b6)
    have HB6 := Lib.hid (below_next HR.out.bel b6)
    have HJK := Lib.hid (And.intro HR.out.le HR.out.runs)
    clear b6 HR
    generalize (wr.alloc (.cells zJ 32)).setRow wr.heap.size j.cs = w6 at HI6 HX6 HB6 ⊢
    generalize wr.heap.size = g6 at HI6 ⊢
    clear wr
    simp only [Act.put]
    have CP := apply_any r Aj cj rf ob N M jj O s j.e j.cs j.U j.O j.cu j.co j.ts a w6 HX6.out (HOK.out.below HB6.out) HU.out HJL.out (HT.out.below HB6.out (Nat.le_refl _)) (HS.out.at_ HB6.out) (HM.out.below HB6.out (Nat.le_refl _))
    unfold ApPost at CP
    go_wp2_with (with_reducible (show wpList _ _ _ (Oper.mk _ (Op.load 32 _) _ _ _ _ :: _) _ _); refine pause ?_)
    unfold Paused
    refine wpList_row_w (by rfl) 32 (.tmp 9) (by rfl) g6 (by rfl) 32 j.cs _ HI6.out Tryz.underlying32 (by rfl) (ent_load H5.out) ?_
    go_wp2_with (go_at_call 10; refine pause ?_)
    unfold Paused
    refine CP.mono ?_
    rintro e w8 ⟨rfl, ⟨A8, c8, rf8, ob8, N8, M8, j8, O8, hx8⟩, hk8⟩
    have HR8 : Hid (PrL w w8 r A8 c8 rf8 ob8 N8 M8 j8 O8 (Rp.next s j.e) (k + 1)) := Lib.hid ⟨hx8, by
     have h1 : (Rp.next s j.e).js.length ≤ s.js.length + 1 := by
      unfold Rp.next
      split
      ·rw [Rp.put_js, List.length_append]; exact Nat.le_refl _
      ·omega
     rw [hx8.len]
     have := HX6.out.len
     have := HJK.out.1
     omega, HJK.out.2.next _, below_via HB6.out (HX6.out.low HWR.out hk8)⟩
    clear hx8 hk8 CP HX6 HB6 HI6 HJK
    clear w6
    generalize Rp.next s j.e = s8 at HR8
    generalize Rp.step s j.e = q8
    go_wp2
    go_roundw
    case rel => exact ⟨k + 1, HLT.out, by go_num, _, _, _, _, _, _, _, _, _, HR8⟩
    case measure => have h5 := HLT.out; simp [intOf]; omega
   ·obtain rfl : k = n := by omega
    have i1 : ¬ ((k : Nat) : Int) < k := by omega
    obtain ⟨wp, hwp⟩ : ∃ wp, wp = wr := ⟨_, rfl⟩
    subst hwp
    have HJL : Hid (jj.length ≤ 12) := Lib.hid (by have := HR.out.le; have := HBT.out.1; omega)
    obtain ⟨jl, hjl⟩ : ∃ jl, jl = jj.length := ⟨_, rfl⟩
    have HJE := Lib.hid hjl
    have CS := fun wx (hx : RpX wx r Aj cj rf ob N M jj O s) => seq_any r Aj jj.length cj (Rp.lastsOf s.js) rf ob wx hx.rp
    rw [← hjl] at CS HJL
    have C1 := CS wp HR.out.x
    obtain ⟨m, hm⟩ : ∃ m, m = jl + 1 := ⟨_, rfl⟩
    have q1 : wrap64 ((jl : Int) + 1) = (m : Int) := by have := HJL.out; rw [IntWalk.wrap64_in _ (by omega)]; omega
    obtain ⟨y, hy, q2, q3, q4, q5⟩ := rem_len z m (by omega) (by have := HJL.out; omega)
    have q6 : ¬ (m : Int) = 0 := by omega
    have HY : Hid (y ≤ jl) := Lib.hid (by omega)
    clear hjl hm hy hk hge
    go_wp2_with (go_at_call 9; refine pause ?_)
    unfold Paused
    refine C1.mono ?_
    rintro e wq ⟨rfl, hw⟩
    subst hw
    clear C1
    have hl1 : (s.js.take y).length = y := by rw [List.length_take, ← HR.out.x.len, ← HJE.out]; have := HY.out; omega
    have CE1 : Calls Tryz.prog 16 #[.pointer (some ⟨r, 0, none⟩), .int .i64 0, .int .i64 (y : Int)] wp (EsEPost wp (s.js.take y)) := entries_any r Aj cj rf ob N M jj O s wp HR.out.x (by rw [← HJE.out]; have := HJL.out; omega) 0 y (Nat.zero_le _) (by have := HY.out; have := HJL.out; omega)
    unfold EsEPost at CE1
    rw [hl1] at CE1
    clear hl1
    go_wp2_with (go_at_call 16; refine pause ?_)
    unfold Paused
    try simp only [q3]
    refine CE1.mono ?_
    rintro e wa ⟨va, ja, rfl, hea, hba⟩
    obtain ⟨Aa, ca, rfl⟩ := own_slice hea.own
    clear CE1 q1 q2 q4 q5 q6
    have hxa := HR.out.x.below hba
    have C2 := CS wa hxa
    obtain ⟨d, hd⟩ : ∃ d, d = jl - y := ⟨_, rfl⟩
    have HYD : Hid (y + d = jl) := Lib.hid (by have := HY.out; omega)
    have hl2 : ((s.js.drop y).take jl) = s.js.drop y := List.take_of_length_le (by rw [List.length_drop, ← HR.out.x.len, ← HJE.out]; omega)
    have hl3 : (s.js.drop y).length = d := by rw [List.length_drop, ← HR.out.x.len, ← HJE.out, hd]
    have CE2 := entries_any r Aj cj rf ob N M jj O s wa hxa (by rw [← HJE.out]; have := HJL.out; omega) y jl (by rw [← HJE.out]; exact HY.out) (by have := HJL.out; omega)
    rw [hl2] at CE2
    unfold EsEPost at CE2
    rw [hl3] at CE2
    clear hl2 hl3 hd
    have HXA := Lib.hid hxa
    have HEA := Lib.hid hea
    have HBA := Lib.hid hba
    clear hxa hea hba
    go_wp2_with (go_at_call 9; refine pause ?_)
    unfold Paused
    refine C2.mono ?_
    rintro e wq ⟨rfl, hw⟩
    subst hw
    clear C2
    go_wp2_with (go_at_call 16; refine pause ?_)
    unfold Paused
    try simp only [q3]
    clear q3
    refine CE2.mono ?_
    rintro e wb ⟨vb, jb, rfl, heb, hbb⟩
    obtain ⟨Ab, cb, rfl⟩ := own_slice heb.own
    have HXB := Lib.hid (HXA.out.below hbb)
    have HEA2 := Lib.hid (HEA.out.below hbb)
    have HEB := Lib.hid heb
    have HWB := Lib.hid (And.intro (below_next HR.out.bel (below_next HBA.out hbb)) (Nat.le_trans HR.out.x.rp.lt (below_next HBA.out hbb).size))
    have HWR2 : Hid (wp.heap.size ≤ wb.heap.size ∧ w.heap.size ≤ wp.heap.size ∧ r < wp.heap.size ∧ ∀ g, jB Aj jj.length cj = some g → g < wp.heap.size) := Lib.hid ⟨(below_next HBA.out hbb).size, HR.out.bel.size, HR.out.x.rp.lt, fun g hg => (HR.out.x.own.lt g hg).2⟩
    have HRUN := Lib.hid HR.out.runs
    have C3 := CS wb HXB.out
    have q7 : wrap64 ((y : Int) + (d : Int)) = (jl : Int) := by have := HYD.out; have := HJL.out; rw [IntWalk.wrap64_in _ (by omega)]; omega
    have hrt : ∀ e ∈ s.js, En.right e = true := fun e he => (HXB.out.good.js e he).1
    obtain ⟨su, hu1, hu2⟩ : ∃ u, Rp.Runs Rp.empty (s.js.take y) u ∧ Rp.Runs u (s.js.drop y) s := Rp.Runs.split (by rw [List.take_append_drop]; exact HRUN.out)
    have CR := replay_any Aa y ca ja su a wb (HEA2.out.rt fun e he => hrt e (List.mem_of_mem_take he)) (by rw [HEA2.out.es]; exact hu1) (by have := HY.out; have := HJL.out; omega) (HT.out.below HWB.out.1 (Nat.le_refl _)) (HS.out.at_ HWB.out.1) (HM.out.below HWB.out.1 (Nat.le_refl _))
    have HRT := Lib.hid hrt
    have HU1 := Lib.hid hu1
    clear CE2 heb hbb HXA HEA HBA HR hrt hu1 hu2 CS
    go_wp2_with (go_at_call 9; refine pause ?_)
    unfold Paused
    refine C3.mono ?_
    rintro e wq ⟨rfl, hw⟩
    subst hw
    clear C3
    unfold PlPost at CR
    go_wp2_with (go_at_call 17; refine pause ?_)
    unfold Paused
    refine CR.mono ?_
    rintro e wc ⟨r2, A2, c2, rf2, ob2, N2, M2, j2, O2, rfl, hx2, hr2, hj2, hbc⟩
    have HX2 := Lib.hid (And.intro hx2 (And.intro hj2 (And.intro HU1.out hbc)))
    have HR2 := Lib.hid hr2
    clear CR hx2 hr2 hj2 hbc HU1 q7
    go_wp2_with fail
    go_loopw [88] (fun i we => ∃ q : Nat, q ≤ d ∧ i = .int .i64 q ∧ ∃ A3 c3 rf3 ob3 N3 M3 j3 O3 s3, Hid (RpX we r2 A3 c3 rf3 ob3 N3 M3 j3 O3 s3 ∧ j3.length = y + q ∧ Rp.Runs Rp.empty (s.js.take (y + q)) s3 ∧ Below wb.heap.size wb we)) (fun i _ => d - (intOf i).toNat)
    case atStart => exact ⟨0, Nat.zero_le _, rfl, A2, c2, rf2, ob2, N2, M2, j2, O2, su, HX2⟩
    case round =>
     obtain ⟨q, hq, rfl, A3, c3, rf3, ob3, N3, M3, j3, O3, s3, HW⟩ := hrel
     clear HX2
     clear wc
     rcases Nat.lt_or_ge q d with hlt | hge
     ·have hkl : q < jb.length := by rw [HEB.out.len]; exact hlt
      have i1 : ((q : Nat) : Int) < d := by omega
      have i2 : (0 : Int) ≤ ((q : Nat) : Int) := by omega
      have i3 : ((q : Nat) : Int) < 100000 := by have := HYD.out; have := HJL.out; omega
      have hbr := HEB.out.rt fun e he => HRT.out e (List.mem_of_mem_drop he)
      obtain ⟨b, o, rfl, hbl, hrow⟩ := hbr.row (by omega)
      have hrg : wr.rangeAt b (o + q * 5) jb[q].cs.toList := fun i v hi => (HW.out.2.2.2.cell (p := ⟨b, o + q * 5 + i, none⟩) hbl).trans (hrow q jb[q] (List.getElem?_eq_getElem hkl) i v hi)
      obtain ⟨hyq, hje⟩ := es_at HEB.out.es hkl
      have hst := Rp.Runs.step_at hyq HRUN.out HW.out.2.2.1
      rw [← hje] at hst
      have hok := HEB.out.ent jb[q] (List.getElem_mem hkl)
      have hlim := hbr.lim jb[q] (List.getElem_mem hkl)
      generalize jb[q] = j at hrg hok hlim hst hje
      have HRG : Hid (wr.rangeAt b (o + q * 5) j.cs.toList) := Lib.hid hrg
      have HOK := Lib.hid hok
      have HST := Lib.hid hst
      have H5 := Lib.hid hok.ent.five
      have HU : Hid (j.e.ups.length ≤ 1000) := Lib.hid hlim.1
      have HLT : Hid (q + 1 ≤ d) := Lib.hid hlt
      have HJ3 : Hid (j3.length ≤ 40) := Lib.hid (by have := HW.out.2.1; have := HYD.out; have := HJL.out; omega)
      clear hkl hbr hbl hrow hrg hyq hje hst hok hlim hq hlt
      go_wp2_with (with_reducible (show wpList _ _ _ (Oper.mk _ (Op.load 32 _) _ _ _ _ :: _) _ _); refine pause ?_)
      unfold Paused
      refine wpList_mid_w (by rfl) 32 (.tmp 90) (by rfl) b (o + q * 5) (by rfl) j.cs.toList _ HRG.out Tryz.underlying32 (by rfl) (by rw [Array.length_toList]; exact ent_load H5.out) ?_
      clear HRG
      go_wp2_with (with_reducible (show wpList _ _ _ (Oper.mk _ (Op.store 32 _ _) _ _ _ _ :: _) _ _); refine pause ?_)
      unfold Paused
      change wpList _ _ _ _ _ (wr.alloc (.cells zJ 32))
      refine wpList_store_row (by rfl) 32 (.tmp 16) (.tmp 91) (by rfl) wr.heap.size j.cs (by rfl) (by rfl) 32 zJ (Blk.new wr _ _) (ent_load H5.out) (by rw [H5.out]; rfl) HOK.out.ent.oneJ ?_
      have b6 : Below wr.heap.size wr ((wr.alloc (.cells zJ 32)).setRow wr.heap.size j.cs) := below_row ((Below.refl _ _).alloc (Nat.le_refl _) _) (Nat.le_refl _) _
      have HI6 : Hid (Blk ((wr.alloc (.cells zJ 32)).setRow wr.heap.size j.cs) wr.heap.size 32 j.cs) := Lib.hid ((Blk.new wr _ _).row _)
      have HX6 := Lib.hid (HW.out.1.below b6)
      have HB6 := Lib.hid (below_next HW.out.2.2.2 b6)
      have HJK := Lib.hid HW.out.2.1
      clear b6 HW
      generalize (wr.alloc (.cells zJ 32)).setRow wr.heap.size j.cs = w6 at HI6 HX6 HB6 ⊢
      generalize wr.heap.size = g6 at HI6 ⊢
      clear wr
      simp only [Act.put]
      have hb6 := below_next HWB.out.1 HB6.out
      have CP := apply_any r2 A3 c3 rf3 ob3 N3 M3 j3 O3 s3 j.e j.cs j.U j.O j.cu j.co j.ts a w6 HX6.out (HOK.out.below HB6.out).ent HU.out HJ3.out (HT.out.below hb6 (Nat.le_refl _)) (HS.out.at_ hb6) (HM.out.below hb6 (Nat.le_refl _))
      unfold ApPost at CP
      rw [HST.out.1, Rp.next_put HST.out.1] at CP
      clear hb6
      go_wp2_with (with_reducible (show wpList _ _ _ (Oper.mk _ (Op.load 32 _) _ _ _ _ :: _) _ _); refine pause ?_)
      unfold Paused
      refine wpList_row_w (by rfl) 32 (.tmp 16) (by rfl) g6 (by rfl) 32 j.cs _ HI6.out Tryz.underlying32 (by rfl) (ent_load H5.out) ?_
      go_wp2_with (go_at_call 10; refine pause ?_)
      unfold Paused
      refine CP.mono ?_
      rintro e w8 ⟨rfl, ⟨A8, c8, rf8, ob8, N8, M8, j8, O8, hx8⟩, hk8⟩
      have HR8 : Hid (RpX w8 r2 A8 c8 rf8 ob8 N8 M8 j8 O8 (Rp.put s3 j.e) ∧ j8.length = y + (q + 1) ∧ Rp.Runs Rp.empty (s.js.take (y + (q + 1))) (Rp.put s3 j.e) ∧ Below wb.heap.size wb w8) := Lib.hid ⟨hx8, by rw [hx8.len, Rp.put_js, List.length_append, ← HX6.out.len, HJK.out]; rfl, HST.out.2, below_via HB6.out (HX6.out.low HR2.out hk8)⟩
      have e1 : errV a 0 = .nilIface := rfl
      rw [e1]
      clear hx8 hk8 CP HX6 HB6 HI6 e1 HJK
      clear w6
      go_wp2
      go_roundw
      case rel => exact ⟨q + 1, HLT.out, by go_num, _, _, _, _, _, _, _, _, _, HR8⟩
      case measure => have h5 := HLT.out; simp [intOf]; omega
     ·obtain rfl : q = d := by omega
      have i1 : ¬ ((q : Nat) : Int) < q := by omega
      have hs : s3 = s := by
       have h1 := HW.out.2.2.1
       rw [HYD.out, HJE.out, HXB.out.len, List.take_length] at h1
       exact h1.uniq HRUN.out
      subst hs
      have HXE := Lib.hid (And.intro HW.out.1 (HXB.out.below HW.out.2.2.2))
      have HES := Lib.hid (And.intro (HEA2.out.below HW.out.2.2.2) (HEB.out.below HW.out.2.2.2))
      have HBE := Lib.hid (below_next HWB.out.1 HW.out.2.2.2)
      have HSZ := Lib.hid HW.out.2.2.2.size
      have HJ3 : Hid (j3.length = jl) := Lib.hid (HW.out.2.1.trans HYD.out)
      clear HW hq hge
      obtain ⟨w5, hw5⟩ : ∃ w5, w5 = wr := ⟨_, rfl⟩
      subst hw5
      have HLR : Hid (∀ e ∈ s3.js.drop y, En.right e = true) := Lib.hid (fun e he => HRT.out e (List.mem_of_mem_drop he))
      have HOF : Hid (∀ g, (Value.slice Aa y ca).ownBlock = some g → wp.heap.size ≤ g ∧ g < wb.heap.size) := Lib.hid (fun g hg => HEA2.out.own.lt g hg)
      go_wp2_with (with_reducible (show wpList _ _ _ (Oper.mk _ (Op.call (Call.mk (Callee.builtin Builtin.append) _ _)) _ _ _ _ :: _) _ _); refine pause ?_)
      unfold Paused
      refine wpList_append_es w5 (by rfl) (.tmp 97) (.tmp 98) (by rfl) HES.out.1 HES.out.2 (by rfl) (by rfl) HLR.out (by have := HYD.out; have := HJL.out; omega) (Nat.le_trans HWR2.out.1 HSZ.out) ?_
      intro v6 w6 he6 hk6
      rw [HYD.out, List.take_append_drop] at he6
      obtain ⟨A6, c6, rfl⟩ := own_slice he6.own
      have hno := NoK.own HES.out.1.own
      have hX6 : RpX w6 r2 A3 c3 rf3 ob3 N3 M3 j3 O3 s3 := HXE.out.1.kept hk6 hno (fun hp => by
       have := (HOF.out r2 hp.symm).2
       have := HR2.out
       omega) (fun g hg hp => by
       have := (HOF.out g hp.symm).2
       have := (HXE.out.1.own.lt g hg).1
       have := HR2.out
       omega)
      have hY6 : RpX w6 r Aj cj rf ob N M jj O s3 := HXE.out.2.kept hk6 hno (fun hp => by
       have := (HOF.out r hp.symm).1
       have := HWR2.out.2.2.1
       omega) (fun g hg hp => by
       have := (HOF.out g hp.symm).1
       have := HWR2.out.2.2.2 g hg
       omega)
      have hb6 : Below w.heap.size w w6 := below_via HBE.out (hk6.below (fun g hg => by
       have := (HOF.out g hg.symm).1
       have := HWR2.out.2.1
       omega) HBE.out.size)
      have HX6 := Lib.hid (And.intro hX6 hY6)
      have HE6 := Lib.hid he6
      have HB6 := Lib.hid hb6
      clear he6 hk6 hno hX6 hY6 hb6 HES HXE HBE HSZ HLR HOF
      clear w5
      try simp only [Act.put, List.setIfInBounds_toArray, List.set_cons_zero, List.set_cons_succ]
      go_wp2_with fail
      go_loopw [101] (fun i we => ∃ p : Nat, p ≤ jl ∧ i = .int .i64 p ∧ Hid (Below w6.heap.size w6 we)) (fun i _ => jl - (intOf i).toNat)
      case atStart => exact ⟨0, Nat.zero_le _, rfl, Lib.hid (Below.refl _ _)⟩
      case round =>
       obtain ⟨p, hp, rfl, HW⟩ := hrel
       rcases Nat.lt_or_ge p jl with hlt | hge
       ·have hkl : p < (ja ++ jb).length := by rw [HE6.out.len]; exact hlt
        have i1 : ((p : Nat) : Int) < jl := by omega
        have i2 : (0 : Int) ≤ ((p : Nat) : Int) := by omega
        have i3 : ((p : Nat) : Int) < 100000 := by have := HJL.out; omega
        have hbr := HE6.out.rt HRT.out
        obtain ⟨b, o, rfl, hbl, hrow⟩ := hbr.row (by omega)
        have hrg : wr.rangeAt b (o + p * 5) (ja ++ jb)[p].cs.toList := fun i v hi => (HW.out.cell (p := ⟨b, o + p * 5 + i, none⟩) hbl).trans (hrow p (ja ++ jb)[p] (List.getElem?_eq_getElem hkl) i v hi)
        have hok := HE6.out.ent (ja ++ jb)[p] (List.getElem_mem hkl)
        have hlim := hbr.lim (ja ++ jb)[p] (List.getElem_mem hkl)
        have hin := es_mem HE6.out.es hkl
        generalize (ja ++ jb)[p] = j at hrg hok hlim hin
        have HRG : Hid (wr.rangeAt b (o + p * 5) j.cs.toList) := Lib.hid hrg
        have HOK := Lib.hid hok
        have HIN := Lib.hid hin
        have H5 := Lib.hid hok.ent.five
        have HU : Hid (j.e.ups.length ≤ 1000) := Lib.hid hlim.1
        have HLT : Hid (p + 1 ≤ jl) := Lib.hid hlt
        clear hkl hbr hbl hrow hrg hin hok hlim hp hlt
        go_wp2_with (with_reducible (show wpList _ _ _ (Oper.mk _ (Op.load 32 _) _ _ _ _ :: _) _ _); refine pause ?_)
        unfold Paused
        refine wpList_mid_w (by rfl) 32 (.tmp 103) (by rfl) b (o + p * 5) (by rfl) j.cs.toList _ HRG.out Tryz.underlying32 (by rfl) (by rw [Array.length_toList]; exact ent_load H5.out) ?_
        clear HRG
        go_wp2_with (with_reducible (show wpList _ _ _ (Oper.mk _ (Op.store 32 _ _) _ _ _ _ :: _) _ _); refine pause ?_)
        unfold Paused
        change wpList _ _ _ _ _ (wr.alloc (.cells zJ 32))
        refine wpList_store_row (by rfl) 32 (.tmp 18) (.tmp 104) (by rfl) wr.heap.size j.cs (by rfl) (by rfl) 32 zJ (Blk.new wr _ _) (ent_load H5.out) (by rw [H5.out]; rfl) HOK.out.ent.oneJ ?_
        have b7 : Below wr.heap.size wr ((wr.alloc (.cells zJ 32)).setRow wr.heap.size j.cs) := below_row ((Below.refl _ _).alloc (Nat.le_refl _) _) (Nat.le_refl _) _
        have HI7 : Hid (Blk ((wr.alloc (.cells zJ 32)).setRow wr.heap.size j.cs) wr.heap.size 32 j.cs) := Lib.hid ((Blk.new wr _ _).row _)
        have HB7 := Lib.hid (below_next HW.out b7)
        clear b7 HW
        generalize (wr.alloc (.cells zJ 32)).setRow wr.heap.size j.cs = w7 at HI7 HB7 ⊢
        generalize wr.heap.size = g7 at HI7 ⊢
        clear wr
        simp only [Act.put]
        have hb7 := below_next HB6.out HB7.out
        have CP := stale_any r2 A3 c3 rf3 ob3 N3 M3 j3 O3 s3 j.e j.cs j.U j.O j.cu j.co j.ts a w7 (HX6.out.1.below HB7.out) (HOK.out.below HB7.out).ent HU.out (by rw [HJ3.out]; have := HJL.out; omega) (HS.out.at_ hb7) (HM.out.below hb7 (Nat.le_refl _)) HIN.out
        clear hb7
        go_wp2_with (with_reducible (show wpList _ _ _ (Oper.mk _ (Op.load 32 _) _ _ _ _ :: _) _ _); refine pause ?_)
        unfold Paused
        refine wpList_row_w (by rfl) 32 (.tmp 18) (by rfl) g7 (by rfl) 32 j.cs _ HI7.out Tryz.underlying32 (by rfl) (ent_load H5.out) ?_
        go_wp2_with (go_at_call 10; refine pause ?_)
        unfold Paused
        refine CP.mono ?_
        rintro e w8 ⟨rfl, hb8⟩
        have HB8 := Lib.hid (below_next HB7.out hb8)
        clear CP hb8 HI7 HB7
        clear w7
        have CM : Calls Tryz.prog 18 #[ev (a 17)] w8 fun e w' => e = .returned (.int .i64 18) ∧ Below w8.heap.size w8 w' := num_any 17 (by omega) a w8 (HSS.out.below (below_next HB6.out HB8.out) (Nat.le_refl _))
        go_wp2_with (go_at_call 18; refine pause ?_)
        unfold Paused
        refine CM.mono ?_
        rintro e w9 ⟨rfl, hb9⟩
        have HB9 := Lib.hid (below_next HB8.out hb9)
        clear CM hb9 HB8
        clear w8
        go_wp2
        go_roundw
        case rel => exact ⟨p + 1, HLT.out, by go_num, HB9⟩
        case measure => have h5 := HLT.out; simp [intOf]; omega
       ·obtain rfl : p = jl := by omega
        have i1 : ¬ ((p : Nat) : Int) < p := by omega
        have hx1 := HX6.out.2.below HW.out
        have hx2 := HX6.out.1.below HW.out
        have CM := same_any r r2 Aj A3 jj.length j3.length cj c3 (Rp.lastsOf s3.js) (Rp.lastsOf s3.js) rf ob rf3 ob3 jj j3 wr hx1.rp hx2.rp hx1.rt hx2.rt (by rw [← HJE.out]; have := HJL.out; omega)
        have e2 : eqv (jj.map (·.e)) (j3.map (·.e)) = true := eqv_true (by rw [hx1.es, hx2.es])
        rw [e2] at CM
        have HBW := Lib.hid (below_next HB6.out HW.out)
        clear hx1 hx2 e2 HW hp hge
        go_wp2_with (go_at_call 11; refine pause ?_)
        unfold Paused
        refine CM.mono ?_
        rintro e w9 ⟨rfl, hb9⟩
        have HBZ := Lib.hid (below_next HBW.out hb9)
        clear CM hb9
        go_wp2
        go_ret
        exact ⟨rfl, HBZ.out⟩
end Go.Proofs.YtgcgomdhdgjpdaaGreatDoor
