/- The iterator over a delta's steps (delta.steps): for every loop body that keeps what lay below n₀. -/
import Derived.Test.YthagldpgibpbdaaDoorDl3
import Derived.RangeFuncNested
import Derived.RangeFuncBound
import Derived.RangeFuncCalls
import Derived.RangeFuncLeaves
import Derived.RangeFuncBox
import Derived.Shelf.Abstract
import Derived.Shelf.RegionOpen
import Derived.WalkKit
import Derived.OwnWalkIn
import Derived.TacticsInMore
import Derived.LoopNIn
import Derived.LoopIn
namespace Go.Proofs.YthagldpgibpbdaaDoor
open Go Go.RowKit Go.Shelf
attribute [local go_sem] Oper.semAt_some
theorem sl_from (b o len cap l : Nat) (h1 : l ≤ len) {lo : Int} (el : lo = l) : ∃ A2, (∀ w, (Instr.slice 22 (.slice (some ⟨b, o, none⟩) len cap) (some (.int .i64 lo)) none none).run Tryd.prog w = .ok (.slice A2 (len - l) (cap - l)) w) ∧ (l < cap → A2 = some ⟨b, o + l, none⟩) := by
  subst el
  cases hq : Tryd.prog.info? 5 with
  | none => have h : (Tryd.prog.info? 5).map (·.size) = some 1 := by kernel_rfl
            simp [hq] at h
  | some i =>
    have hs : i.size = 1 := by have h : (Tryd.prog.info? 5).map (·.size) = some 1 := by kernel_rfl
                               simpa [hq] using h
    have hn : ((l : Nat) : Int) ≤ len := by omega
    refine ⟨if cap = l then some ⟨b, o, none⟩ else some ⟨b, o + l, none⟩, fun w => ?_, fun h => if_neg (by omega)⟩
    by_cases hc : cap = l
    · simp [Instr.slice, run_underlying Tryd.underlying22, Instr.sliceBounds, run_sliceBound, sizeOf, typeInfo, hq, hs, hn, hc, Addr.add_mid]
    · simp [Instr.slice, run_underlying Tryd.underlying22, Instr.sliceBounds, run_sliceBound, sizeOf, typeInfo, hq, hs, hn, hc, Addr.add_mid]
theorem DIn.keep {w w' : World} {d : List Nat} {b o c n₀ : Nat} {aS aF : Addr} (h : DIn w d b o c aS aF) (hb : Below n₀ w w') (hl : b < n₀ ∧ 4 < n₀ ∧ 5 < n₀) : DIn w' d b o c aS aF :=
  ⟨h.len, h.byt, Nat.lt_of_lt_of_le h.blk hb.size, fun i hi => (hb.cell (p := ⟨b, o + i, none⟩) hl.1).trans (h.cel i hi), (hb.cell (p := ⟨4, 0, none⟩) hl.2.1).trans h.short, (hb.cell (p := ⟨5, 0, none⟩) hl.2.2).trans h.form⟩
/-- what is left of the slice that is stepped through -/
def RestV (d : List Nat) (b o c p : Nat) (v : Value) : Prop := ∃ A' c', v = .slice A' (d.length - p) c' ∧ (p < d.length → A' = some ⟨b, o + p, none⟩ ∧ c' = c - p)
set_option maxRecDepth 100000 in
set_option maxHeartbeats 2000000 in
theorem steps1_in (n : Nat) (hn : 1 ≤ n) (l Bd n₀ : Nat) (d : List Nat) (b o c : Nat) (aS aF : Addr) (J Jx : List Dl.Ev → World → Prop) (W0 : World)
    (hl : b < n₀ ∧ 4 < n₀ ∧ 5 < n₀) (hn0 : n₀ ≤ W0.heap.size) (hJ : AbidesFrom W0.heap.size J) (h4 : 4 ≤ d.length)
    (hY : ∀ pre x W, J pre W → pre.length < (Dl.evs d 4).length → YieldAt Fence.wide (n - 1) Tryd.prog l #[stepV b o c (Dl.norm d x), errV aS aF (Dl.norm d x)] W fun e W' =>
      (e = .returned (.bool true) ∧ J (pre ++ [x]) W' ∧ Below n₀ W W') ∨ (e = .returned (.bool false) ∧ Jx (pre ++ [x]) W'))
    (hBd : W0.cell? ⟨Bd, 0, none⟩ = some (.slice (some ⟨b, o, none⟩) d.length c)) (hD : DIn W0 d b o c aS aF) (h0 : J [] W0) :
    CallsIn Fence.wide n Tryd.prog 26 #[.func (.yield l) #[] #[], .pointer (some ⟨Bd, 0, none⟩)] W0 fun e W' => (∃ v, e = .returned v) ∧
      ((∃ ys, ys = Dl.evs d 4 ∧ J ys W') ∨ (∃ pre, pre <+: Dl.evs d 4 ∧ Jx pre W')) := by
  obtain ⟨A1, S1, E1⟩ := sl_from b o d.length c 4 h4 (lo := 4) rfl
  have HR0 : Hid (RestV d b o c 4 (.slice A1 (d.length - 4) (c - 4))) := Lib.hid ⟨_, _, rfl, fun h => ⟨E1 (by have := hD.len; omega), rfl⟩⟩
  have HD0 := Lib.hid hD
  obtain ⟨N, hN⟩ : ∃ N, N = d.length := ⟨_, rfl⟩
  refine callsIn_of_wp Tryd.func26 rfl trivial ?_ rfl
  simp only [Tryd.ntmps26, List.size_toArray, List.length_cons, List.length_nil, Nat.reduceAdd, Nat.reduceSub, Array.replicate_succ, Array.replicate_zero, List.push_toArray, List.append_toArray, List.nil_append, List.cons_append]
  clear E1
  gi_wp2
  clear S1
  gi_loopw [3] (fun v wr => ∃ p pre, p ≤ d.length ∧ RestV d b o c p v ∧ Hid (Dl.evs d 4 = pre ++ Dl.evs d p) ∧ J pre wr ∧ DIn wr d b o c aS aF ∧ n₀ ≤ wr.heap.size) (fun v _ => match v with | .slice _ m _ => m | _ => 0)
  case atStart => exact ⟨4, [], h4, HR0.out, Lib.hid rfl, h0, HD0.out, hn0⟩
  case round =>
    obtain ⟨p, pre, hp, ⟨A', c', rfl, hA⟩, HE, hJs, hDr, hnr⟩ := hrel
    by_cases hlt : p < d.length
    · obtain ⟨rfl, rfl⟩ := hA hlt
      have CF := first_any d p b o c aS aF wr hDr hlt
      have hok := Dl.evAt_ok hD.byt p
      have HSP : (Dl.evAt d p = (.bad false, 0)) ∨ (Dl.evAt d p = (.bad true, 0)) ∨ (∃ n f k, Dl.evAt d p = (.copy n f, k) ∧ p + k ≤ d.length ∧ 0 < k) ∨ (∃ m q k, Dl.evAt d p = (.fresh m q, k) ∧ p + k ≤ d.length ∧ 0 < k) := by
        unfold Dl.evAt
        split
        · exact .inl rfl
        · split
          · split
            · exact .inr (.inl rfl)
            · exact .inr (.inr (.inr ⟨_, _, _, rfl, by omega, by omega⟩))
          · split
            · exact .inr (.inl rfl)
            · exact .inr (.inr (.inl ⟨_, _, _, rfl, by omega, by omega⟩))
      rcases HSP with he | he | ⟨m, f, k, he, hk, hk0⟩ | ⟨m, q, k, he, hk, hk0⟩
      · rw [he] at CF hok
        simp only [stepV, errV] at CF
        have hYY := hY pre (.bad false)
        rw [Dl.norm_ok hok] at hYY
        have HY := Lib.hid hYY
        clear hYY hok
        have hm : 0 < d.length - p := by omega
        have HEV : Hid (Dl.evs d 4 = pre ++ [.bad false]) := Lib.hid (by rw [HE.out, Dl.evs_bad hlt he])
        have HLN : Hid (pre.length < (Dl.evs d 4).length) := Lib.hid (by rw [HEV.out]; simp)
        have HDR := Lib.hid hDr
        have HJW := Lib.hid hJs
        have HNR := Lib.hid hnr
        clear he hY hDr hJs hnr
        gi_wp2_with (refine ⟨trivial, ?_⟩; gi_at_call 27; refine (callsIn_wide.2 CF).mono ?_; rintro e w1 ⟨rfl, hb⟩; have HB := Lib.hid hb; have HJ1 := Lib.hid (hJ pre wr (w1.alloc (.cells #[.int .i64 0, .slice none 0 0, .int .i64 0] 44)) none HJW.out (only_alloc (only_of_below hb none) _) (fun r e => by cases e)); obtain ⟨fn, tmps, assign, body, hy, hR⟩ := HY.out _ HJ1.out HLN.out; simp only [stepV, errV] at hy; clear hb CF)
        refine hR.mono ?_
        rintro e W3 (⟨rfl, hJ3, hk3⟩ | ⟨rfl, hJx3⟩)
        · gi_wp2
          refine bodyPost_ret (results_none rfl _ _ _) rfl ?_
          exact ⟨⟨_, rfl⟩, .inl ⟨_, rfl, by rw [HEV.out]; exact hJ3⟩⟩
        · gi_wp2
          refine bodyPost_ret (results_none rfl _ _ _) rfl ?_
          exact ⟨⟨_, rfl⟩, .inr ⟨_, by rw [HEV.out]; exact List.prefix_refl _, hJx3⟩⟩
      · rw [he] at CF hok
        simp only [stepV, errV] at CF
        have hYY := hY pre (.bad true)
        rw [Dl.norm_ok hok] at hYY
        have HY := Lib.hid hYY
        clear hYY hok
        have hm : 0 < d.length - p := by omega
        have HEV : Hid (Dl.evs d 4 = pre ++ [.bad true]) := Lib.hid (by rw [HE.out, Dl.evs_bad hlt he])
        have HLN : Hid (pre.length < (Dl.evs d 4).length) := Lib.hid (by rw [HEV.out]; simp)
        have HDR := Lib.hid hDr
        have HJW := Lib.hid hJs
        have HNR := Lib.hid hnr
        clear he hY hDr hJs hnr
        gi_wp2_with (refine ⟨trivial, ?_⟩; gi_at_call 27; refine (callsIn_wide.2 CF).mono ?_; rintro e w1 ⟨rfl, hb⟩; have HB := Lib.hid hb; have HJ1 := Lib.hid (hJ pre wr (w1.alloc (.cells #[.int .i64 0, .slice none 0 0, .int .i64 0] 44)) none HJW.out (only_alloc (only_of_below hb none) _) (fun r e => by cases e)); obtain ⟨fn, tmps, assign, body, hy, hR⟩ := HY.out _ HJ1.out HLN.out; simp only [stepV, errV] at hy; clear hb CF)
        refine hR.mono ?_
        rintro e W3 (⟨rfl, hJ3, hk3⟩ | ⟨rfl, hJx3⟩)
        · gi_wp2
          refine bodyPost_ret (results_none rfl _ _ _) rfl ?_
          exact ⟨⟨_, rfl⟩, .inl ⟨_, rfl, by rw [HEV.out]; exact hJ3⟩⟩
        · gi_wp2
          refine bodyPost_ret (results_none rfl _ _ _) rfl ?_
          exact ⟨⟨_, rfl⟩, .inr ⟨_, by rw [HEV.out]; exact List.prefix_refl _, hJx3⟩⟩
      · rw [he] at CF hok
        simp only [stepV, errV] at CF
        have hYY := hY pre (.copy m f)
        rw [Dl.norm_ok hok] at hYY
        have HY := Lib.hid hYY
        clear hYY hok
        have hm : 0 < d.length - p := by omega
        obtain ⟨A2, S2, E2⟩ := sl_from b (o + p) (d.length - p) (c - p) k (by omega) (lo := (k : Int)) rfl
        have HE2 : Hid (RestV d b o c (p + k) (.slice A2 (d.length - p - k) (c - p - k))) := Lib.hid ⟨A2, c - p - k, by rw [Nat.sub_sub], fun h => ⟨by have := hDr.len; rw [E2 (by omega), Nat.add_assoc], by rw [Nat.sub_sub]⟩⟩
        have HEV : Hid (Dl.evs d 4 = (pre ++ [.copy m f]) ++ Dl.evs d (p + k)) := Lib.hid (by rw [HE.out, Dl.evs_step hlt he (by intro s e; cases e)]; simp)
        have HK := Lib.hid hk
        have HK0 := Lib.hid hk0
        clear E2 hk hk0
        have HLN : Hid (pre.length < (Dl.evs d 4).length) := Lib.hid (by rw [HEV.out]; simp)
        have HDR := Lib.hid hDr
        have HJW := Lib.hid hJs
        have HNR := Lib.hid hnr
        clear he hY hDr hJs hnr
        gi_wp2_with (refine ⟨trivial, ?_⟩; gi_at_call 27; refine (callsIn_wide.2 CF).mono ?_; rintro e w1 ⟨rfl, hb⟩; have HB := Lib.hid hb; have HJ1 := Lib.hid (hJ pre wr (w1.alloc (.cells #[.int .i64 (m : Int), .slice none 0 0, .int .i64 (f : Int)] 44)) none HJW.out (only_alloc (only_of_below hb none) _) (fun r e => by cases e)); obtain ⟨fn, tmps, assign, body, hy, hR⟩ := HY.out _ HJ1.out HLN.out; simp only [stepV, errV] at hy; clear hb CF)
        refine hR.mono ?_
        rintro e W3 (⟨rfl, hJ3, hk3⟩ | ⟨rfl, hJx3⟩)
        · have HK3 := Lib.hid hk3
          have HJ3 := Lib.hid hJ3
          clear hk3 hJ3 hR hy
          gi_wp2
          go_roundw
          case rel =>
            have hb3 : Below n₀ wr W3 := ((HB.out.mono HNR.out).alloc (by have := HB.out.size; have := HNR.out; omega) _).trans HK3.out
            exact ⟨p + k, _, HK.out, HE2.out, HEV, HJ3.out, HDR.out.keep hb3 hl, Nat.le_trans HNR.out hb3.size⟩
          case measure => have h1 := HK0.out; have h2 := HK.out; show d.length - p - k < d.length - p; omega
        · gi_wp2
          refine bodyPost_ret (results_none rfl _ _ _) rfl ?_
          exact ⟨⟨_, rfl⟩, .inr ⟨_, by rw [HEV.out]; exact List.prefix_append _ _, hJx3⟩⟩
      · rw [he] at CF hok
        simp only [stepV, errV] at CF
        have hYY := hY pre (.fresh m q)
        rw [Dl.norm_ok hok] at hYY
        have HY := Lib.hid hYY
        clear hYY hok
        have hm : 0 < d.length - p := by omega
        obtain ⟨A2, S2, E2⟩ := sl_from b (o + p) (d.length - p) (c - p) k (by omega) (lo := (k : Int)) rfl
        have HE2 : Hid (RestV d b o c (p + k) (.slice A2 (d.length - p - k) (c - p - k))) := Lib.hid ⟨A2, c - p - k, by rw [Nat.sub_sub], fun h => ⟨by have := hDr.len; rw [E2 (by omega), Nat.add_assoc], by rw [Nat.sub_sub]⟩⟩
        have HEV : Hid (Dl.evs d 4 = (pre ++ [.fresh m q]) ++ Dl.evs d (p + k)) := Lib.hid (by rw [HE.out, Dl.evs_step hlt he (by intro s e; cases e)]; simp)
        have HK := Lib.hid hk
        have HK0 := Lib.hid hk0
        clear E2 hk hk0
        have HLN : Hid (pre.length < (Dl.evs d 4).length) := Lib.hid (by rw [HEV.out]; simp)
        have HDR := Lib.hid hDr
        have HJW := Lib.hid hJs
        have HNR := Lib.hid hnr
        clear he hY hDr hJs hnr
        gi_wp2_with (refine ⟨trivial, ?_⟩; gi_at_call 27; refine (callsIn_wide.2 CF).mono ?_; rintro e w1 ⟨rfl, hb⟩; have HB := Lib.hid hb; have HJ1 := Lib.hid (hJ pre wr (w1.alloc (.cells #[.int .i64 (m : Int), .slice (some ⟨b, o + q, none⟩) m (c - q), .int .i64 0] 44)) none HJW.out (only_alloc (only_of_below hb none) _) (fun r e => by cases e)); obtain ⟨fn, tmps, assign, body, hy, hR⟩ := HY.out _ HJ1.out HLN.out; simp only [stepV, errV] at hy; clear hb CF)
        refine hR.mono ?_
        rintro e W3 (⟨rfl, hJ3, hk3⟩ | ⟨rfl, hJx3⟩)
        · have HK3 := Lib.hid hk3
          have HJ3 := Lib.hid hJ3
          clear hk3 hJ3 hR hy
          gi_wp2
          go_roundw
          case rel =>
            have hb3 : Below n₀ wr W3 := ((HB.out.mono HNR.out).alloc (by have := HB.out.size; have := HNR.out; omega) _).trans HK3.out
            exact ⟨p + k, _, HK.out, HE2.out, HEV, HJ3.out, HDR.out.keep hb3 hl, Nat.le_trans HNR.out hb3.size⟩
          case measure => have h1 := HK0.out; have h2 := HK.out; show d.length - p - k < d.length - p; omega
        · gi_wp2
          refine bodyPost_ret (results_none rfl _ _ _) rfl ?_
          exact ⟨⟨_, rfl⟩, .inr ⟨_, by rw [HEV.out]; exact List.prefix_append _ _, hJx3⟩⟩
    · have e : Dl.evs d p = [] := Dl.evs_end (by omega)
      have e2 : d.length - p = 0 := by omega
      have HE2 := HE.out
      rw [e, List.append_nil] at HE2
      have HE3 := Lib.hid HE2
      rw [e2]
      clear e e2 HE2
      gi_wp2
      go_end0
      exact ⟨⟨_, rfl⟩, .inl ⟨_, rfl, by rw [HE3.out]; exact hJs⟩⟩
theorem steps_any (v : Value) (w : World) (hv : ∃ A n c, v = .slice A n c) :
    Calls Tryd.prog 18 #[v] w fun e w' => e = .returned (.func (.func 26) #[] #[.pointer (some ⟨w.heap.size, 0, none⟩)]) ∧ w' = w.alloc (.cells #[v] 22) := by
  obtain ⟨A, m, c, rfl⟩ := hv
  go_enter Tryd.func18, Tryd.ntmps18
  go_wp2
  go_ret
  exact ⟨rfl, rfl⟩
theorem steps_stops (n : Nat) (hn : 1 ≤ n) (Bd n₀ : Nat) (d : List Nat) (b o c : Nat) (aS aF : Addr) (w : World)
    (hl : b < n₀ ∧ 4 < n₀ ∧ 5 < n₀) (hn0 : n₀ ≤ w.heap.size) (h4 : 4 ≤ d.length)
    (hBd : w.cell? ⟨Bd, 0, none⟩ = some (.slice (some ⟨b, o, none⟩) d.length c)) (hD : DIn w d b o c aS aF) :
    SeqStopsK Fence.wide n Tryd.prog 26 #[.pointer (some ⟨Bd, 0, none⟩)] (fun x : Dl.Ev => #[stepV b o c (Dl.norm d x), errV aS aF (Dl.norm d x)]) (Below n₀) (fun ys => ys = Dl.evs d 4) (fun pre => pre <+: Dl.evs d 4) (Dl.evs d 4).length w := fun l J Jx W hW hJ _ hY h0 =>
  steps1_in n hn l Bd n₀ d b o c aS aF J Jx W hl (Nat.le_trans hn0 hW.size) hJ h4 hY ((hW.cell (p := ⟨Bd, 0, none⟩) (block_lt_of_cell hBd)).trans hBd) (hD.below hW (Nat.le_refl _)) h0
end Go.Proofs.YthagldpgibpbdaaDoor
