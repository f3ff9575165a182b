/- The law DeltaChain. -/
import Derived.Test.YthagldpgibpbdaaDoorDl18
namespace Go.Proofs.YthagldpgibpbdaaDoor
open Go Go.RowKit Go.Shelf
/-- between two texts -/
def ChS (w1 : World) (v : Value) (wr : World) : Prop := ∃ ys, Rd wr v ys ∧ Sha.Byte ys ∧ ys.length ≤ 300 ∧ Below w1.heap.size w1 wr
set_option maxRecDepth 100000 in
set_option maxHeartbeats 1000000 in
theorem dchain_law (v : Value) (vs : List Value) (pss : List (List Nat)) (ea : Nat → Addr) (w : World) (hv : RdL w v vs) (hl : pss.length = vs.length) (hr : ∀ i u, vs[i]? = some u → Rd w u (pss.getD i [])) (hb : ∀ ps ∈ pss, Sha.Byte ps) (hS : ASents w ea) (hm : MX w) :
    Calls Tryd.prog 6 #[v] w fun e w' => e = .returned (.bool true) ∧ Below w.heap.size w w' := by
  have HV := Lib.hid hv
  obtain ⟨A, c, rfl, hc, hA⟩ := hv
  have HA := Lib.hid hA
  have HL := Lib.hid hl
  have HR := Lib.hid hr
  have HB := Lib.hid hb
  have AL := dalive_any w hm
  have HS := Lib.hid hS
  have HMX := Lib.hid hm
  clear hA hl hr hb hS hm
  obtain ⟨n, hn⟩ : ∃ n, n = vs.length := ⟨_, rfl⟩
  rw [← hn] at hc HL HA HV ⊢
  have HN := Lib.hid hn
  clear hn
  go_enter Tryd.func6, Tryd.ntmps6
  go_wp2_with fail
  refine AL.mono ?_
  rintro e w1 ⟨rfl, hb1⟩
  have HB1 := Lib.hid hb1
  clear hb1 AL
  by_cases h12 : n ≤ 12
  · have HG0 : Hid (ChS w1 (.slice (some ⟨w1.heap.size, 0, none⟩) 0 0) (w1.alloc (.cells #[] 5))) := Lib.hid ⟨[], ⟨_, 0, rfl, Nat.le_refl _, fun h => by simp at h⟩, fun i => by simp, by simp, (Below.refl _ _).alloc (Nat.le_refl _) _⟩
    have g12 : ¬ (12 : Int) < n := by omega
    go_wp2_with fail
    go_loopw [3, 18] (fun s i wr => ∃ k : Nat, k ≤ n ∧ i = .int .i64 k ∧ Hid (ChS w1 s wr)) (fun _ i _ => n - (intOf i).toNat)
    case atStart => exact ⟨0, Nat.zero_le _, rfl, HG0⟩
    case round =>
      obtain ⟨k, hk, rfl, HG⟩ := hrel
      obtain ⟨ys, hys, hyb, hyl, hbw⟩ := HG.out
      have hys' := hys
      obtain ⟨A3, c3, rfl, _, _⟩ := hys'
      obtain ⟨m, hm⟩ : ∃ m, m = ys.length := ⟨_, rfl⟩
      have hb3 := HB1.out.trans (hbw.mono HB1.out.size)
      by_cases hlt : k < n
      · obtain ⟨b, o, rfl, hbl, hcs⟩ := HA.out (by omega)
        have hkv : k < vs.length := by rw [← HN.out]; exact hlt
        have hu := hcs k vs[k] (by simp [hkv])
        have HRu := Lib.hid (HR.out k vs[k] (by simp [hkv]))
        clear hcs
        generalize vs[k] = u at hu HRu
        have hcell := (hb3.cell (p := ⟨b, o + k, none⟩) hbl).trans hu
        have hrw := HRu.out.below hb3 (Nat.le_refl _)
        have hkp : k < pss.length := by rw [HL.out]; exact hlt
        have hbp : Sha.Byte (pss.getD k []) := by rw [List.getD_eq_getElem?_getD, List.getElem?_eq_getElem hkp]; exact HB.out _ (List.getElem_mem hkp)
        clear hu hkp hkv hbl HRu
        generalize pss.getD k [] = ps at hrw hbp
        have hrw' := hrw
        obtain ⟨A2, c2, rfl, _, _⟩ := hrw'
        by_cases h300 : ps.length ≤ 300
        · have CM := dmake_any _ _ ys ps wr hys hrw hyb hbp hyl h300 (HMX.out.below hb3 (Nat.le_refl _))
          have hd2 := Dl.mk_two ys ps
          have hdb := Dl.mem_mk hyl h300 hbp
          have hbk := Dl.mk_back ys ps hyl h300
          have hd4 : 4 ≤ (Dl.mk ys ps).length := by rw [Dl.mk_len]; omega
          have SZ := fun A n c w' (hr : Rd w' (.slice A n c) (Dl.mk ys ps)) => sizes_any A n c (Dl.mk ys ps) w' hr hdb hd4
          rw [hd2.1, hd2.2] at SZ
          have AP := fun A n c w' (hw : Below wr.heap.size wr w') (hr : Rd w' (.slice A n c) (Dl.mk ys ps)) => dapply A3 A ys.length c3 n c ys (Dl.mk ys ps) ea w' (hys.below hw (Nat.le_refl _)) hr hdb (HS.out.below (hb3.trans (hw.mono hb3.size)) (Nat.le_refl _))
          rw [hbk] at AP
          obtain ⟨d, hd⟩ : ∃ d, d = Dl.mk ys ps := ⟨_, rfl⟩
          rw [← hd] at CM SZ AP
          obtain ⟨q, hq⟩ : ∃ q, q = ps.length := ⟨_, rfl⟩
          have HRW := Lib.hid hrw
          have HQ := Lib.hid hq
          have HBP := Lib.hid hbp
          have HB3 := Lib.hid hb3
          have HBW := Lib.hid hbw
          rw [← hm, ← hq] at SZ
          rw [← hq] at CM hcell h300 HRW
          rw [← hm] at CM AP ⊢
          have g300 : ¬ (300 : Int) < q := by omega
          clear hd hq hm hys hrw hyb hbp hyl hd2 hdb hbk hd4 hb3 hbw h300 HG
          go_wp2_with (go_at_call 16; refine pause ?_)
          unfold Paused
          refine CM.mono ?_
          rintro e w4 ⟨v4, rfl, hp4⟩
          obtain ⟨A4, c4, rfl⟩ := hp4.len
          obtain ⟨nd, hnd⟩ : ∃ x, x = d.length := ⟨_, rfl⟩
          rw [← hnd] at hp4 ⊢
          have hr4 := hp4.rd
          have SZ4 := SZ A4 nd c4 w4 hr4
          have HP4 := Lib.hid hp4.bel
          have HR4 := Lib.hid hr4
          clear hp4 hr4 CM SZ hnd
          go_wp2_with (go_at_call 15; refine pause ?_)
          unfold Paused
          refine SZ4.mono ?_
          rintro e w5 ⟨rfl, x5, rfl⟩
          have AP5 := AP A4 nd c4 (w4.drewN x5) (below_drewN HP4.out x5) (HR4.out.below (below_drewN (Below.refl _ w4) x5) (Nat.le_refl _))
          clear SZ4 AP
          go_wp2_with (go_at_call 9; refine pause ?_)
          unfold Paused
          refine AP5.mono ?_
          rintro e w6 ⟨v6, rfl, hp6⟩
          obtain ⟨A6, c6, rfl⟩ := hp6.len
          rw [← HQ.out] at hp6 ⊢
          have hb6 : Below wr.heap.size wr w6 := (below_drewN HP4.out x5).trans (hp6.bel.mono (below_drewN HP4.out x5).size)
          have q1 : (convert 22 9 (.slice A6 q c6)).run Tryd.prog w6 = .ok (.string (textOf ps)) w6 := conv_rd hp6.rd
          have q2 : (convert 22 9 (.slice A2 q c2)).run Tryd.prog w6 = .ok (.string (textOf ps)) w6 := conv_rd (HRW.out.below hb6 (Nat.le_refl _))
          have HC := Lib.hid (show ChS w1 (.slice A6 q c6) w6 from ⟨ps, hp6.rd, HBP.out, by rw [← HQ.out]; omega, HBW.out.trans (hb6.mono HBW.out.size)⟩)
          clear hp6 hb6 AP5 hcell
          go_wp2_with fail
          go_roundw
          case rel => exact ⟨k + 1, by omega, by go_num, HC⟩
          case measure => simp [intOf]; omega
        · have g300 : (300 : Int) < (ps.length : Int) := by omega
          clear hys hyb hyl hrw hbp hbw HG
          go_wp2_with fail
          go_ret
          exact ⟨rfl, hb3⟩
      · have gk : ¬ (k : Int) < n := by omega
        clear hys hyb hyl hbw HG
        go_wp2_with fail
        go_ret
        exact ⟨rfl, hb3⟩
  · have g12 : (12 : Int) < n := by omega
    go_wp2_with fail
    go_ret
    exact ⟨rfl, HB1.out⟩
end Go.Proofs.YthagldpgibpbdaaDoor
