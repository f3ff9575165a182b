/- slices.Chunk at bytes: it goes through a text's parts of at most 127 bytes. -/
import Derived.Test.YthagldpgibpbdaaDoorDl12
namespace Go.Proofs.YthagldpgibpbdaaDoor
open Go Go.RowKit Go.Shelf
attribute [local go_sem] Oper.semAt_some
theorem sl_full (b o len cap l h : Nat) (w : World) (_h1 : l ≤ h) (h2 : h ≤ cap) (h3 : l < h) {lo hi mx : Int} (el : lo = l) (eh : hi = h) (em : mx = h) :
    (Instr.slice 22 (.slice (some ⟨b, o, none⟩) len cap) (some (.int .i64 lo)) (some (.int .i64 hi)) (some (.int .i64 mx))).run Tryd.prog w = .ok (.slice (some ⟨b, o + l, none⟩) (h - l) (h - l)) w := by
  subst el eh em
  cases hq : Tryd.prog.info? 5 with
  | none => have h : (Tryd.prog.info? 5).map (·.size) = some 1 := by kernel_rfl
            simp [hq] at h
  | some i =>
    have hs : i.size = 1 := by have h : (Tryd.prog.info? 5).map (·.size) = some 1 := by kernel_rfl
                               simpa [hq] using h
    have hn : ((l : Nat) : Int) ≤ h := by omega
    have hm : ((h : Nat) : Int) ≤ cap := by omega
    have hc : ¬ h = l := by omega
    simp [Instr.slice, run_underlying Tryd.underlying22, Instr.sliceBounds, run_sliceBound, sizeOf, typeInfo, hq, hs, hn, hm, hc, Addr.add_mid]
namespace Dl
def chF (n : Nat) : Nat → Nat → List (Nat × Nat)
  | 0, _ => []
  | f + 1, p => if p < n then (p, min 127 (n - p)) :: chF n f (p + 127) else []
theorem chF_succ (n f p : Nat) : chF n (f + 1) p = if p < n then (p, min 127 (n - p)) :: chF n f (p + 127) else [] := rfl
theorem chF_more (n : Nat) : ∀ (f p : Nat), n ≤ p + f → ∀ g, f ≤ g → chF n g p = chF n f p
  | 0, p, h, g, _ => by
    cases g with
    | zero => rfl
    | succ g => rw [chF_succ, if_neg (by omega)]; rfl
  | f + 1, p, h, g, hg => by
    cases g with
    | zero => omega
    | succ g =>
      rw [chF_succ, chF_succ]
      by_cases hp : p < n
      · rw [if_pos hp, if_pos hp, chF_more n f _ (by omega) g (by omega)]
      · rw [if_neg hp, if_neg hp]
/-- the parts of n bytes from a place on: place, bytes -/
def chk (n p : Nat) : List (Nat × Nat) := chF n (n - p) p
theorem chk_end {n p : Nat} (h : n ≤ p) : chk n p = [] := by unfold chk; rw [show n - p = 0 by omega]; rfl
theorem chk_step {n p : Nat} (h : p < n) : chk n p = (p, min 127 (n - p)) :: chk n (p + 127) := by
  unfold chk
  obtain ⟨f, hf⟩ : ∃ f, n - p = f + 1 := ⟨n - p - 1, by omega⟩
  rw [hf, chF_succ, if_pos h, chF_more n (n - (p + 127)) _ (by omega) f (by omega)]
  rw [hf]
theorem chF_in {n : Nat} : ∀ (f p : Nat) (x : Nat × Nat), x ∈ chF n f p → 0 < x.2 ∧ x.2 ≤ 127 ∧ x.1 + x.2 ≤ n
  | 0, p, x, h => by simp [chF] at h
  | f + 1, p, x, h => by
    rw [chF_succ] at h
    split at h
    · rcases List.mem_cons.1 h with rfl | h
      · exact ⟨by simp; omega, by simp; omega, by simp; omega⟩
      · exact chF_in f _ x h
    · simp at h
end Dl
def chV (b o : Nat) (x : Nat × Nat) : Array Value := #[.slice (some ⟨b, o + x.1, none⟩) x.2 x.2]
theorem chunk_any (v : Value) (w : World) (hv : ∃ A n c, v = .slice A n c) :
    Calls Tryd.prog 32 #[v, .int .i64 127] w fun e w' => e = .returned (.func (.func 35) #[] #[.pointer (some ⟨w.heap.size, 0, none⟩), .pointer (some ⟨w.heap.size + 1, 0, none⟩)]) ∧ w' = (w.alloc (.cells #[v] 22)).alloc (.cells #[.int .i64 127] 3) := by
  obtain ⟨A, m, c, rfl⟩ := hv
  go_enter Tryd.func32, Tryd.ntmps32
  go_wp2
  go_ret
  exact ⟨rfl, rfl⟩
set_option maxRecDepth 100000 in
set_option maxHeartbeats 2000000 in
theorem chunk1_runs (n : Nat) (bS bN n₀ b o c nt : Nat) (A : Option Addr) (w : World) (hS : Boxed w bS 22 (.slice A nt c)) (hN : Boxed w bN 3 (.int .i64 127)) (hA : 0 < nt → A = some ⟨b, o, none⟩) (hc : nt ≤ c) (hn : nt ≤ 1000000) (hn0 : n₀ ≤ w.heap.size) :
    Runs n Tryd.prog 35 #[.pointer (some ⟨bS, 0, none⟩), .pointer (some ⟨bN, 0, none⟩)] (chV b o) (KpC n₀ bS bN) (Dl.chk nt 0) w := by
  intro l J W0 hW hJ hY h0
  have kW : KpC n₀ bS bN w W0 := KpC.below hW hn0 hS.lt hN.lt
  have hS0 : Boxed W0 bS 22 (.slice A nt c) := (kW.2.1 bS (.inl rfl)).trans hS
  have hN0 : Boxed W0 bN 3 (.int .i64 127) := (kW.2.1 bN (.inr rfl)).trans hN
  clear hS hN kW hW hn0
  refine callsIn_of_wp Tryd.func35 rfl trivial ?_ rfl
  simp only [Tryd.ntmps35, List.size_toArray, List.length_cons, List.length_nil, Nat.reduceAdd, Nat.reduceSub, Array.replicate_succ, Array.replicate_zero, List.push_toArray, List.append_toArray, List.nil_append, List.cons_append]
  gi_wp2
  gi_loopw [4] (fun v wr => ∃ p pre, p ≤ nt + 127 ∧ v = .int .i64 (p : Nat) ∧ Hid (Dl.chk nt 0 = pre ++ Dl.chk nt p) ∧ J pre wr ∧ Boxed wr bS 22 (.slice A nt c) ∧ Boxed wr bN 3 (.int .i64 127)) (fun v _ => nt + 127 - (intOf v).toNat)
  case atStart => exact ⟨0, [], Nat.zero_le _, rfl, Lib.hid rfl, h0, hS0, hN0⟩
  case round =>
    obtain ⟨p, pre, hp, rfl, HE, hJs, hS1, hN1⟩ := hrel
    have cS := hS1.cell
    have cN := hN1.cell
    by_cases hlt : p < nt
    · obtain rfl := hA (by omega)
      obtain ⟨e, he⟩ : ∃ e, e = min 127 (nt - p) := ⟨_, rfl⟩
      have HEV : Hid (Dl.chk nt 0 = pre ++ (p, e) :: Dl.chk nt (p + 127)) := Lib.hid (by rw [HE.out, Dl.chk_step hlt, ← he])
      have S1 : ∀ w', (Instr.slice 22 (.slice (some ⟨b, o, none⟩) nt c) (some (.int .i64 (p : Int))) none none).run Tryd.prog w' = .ok (.slice (some ⟨b, o + p, none⟩) (nt - p) (c - p)) w' := fun w' => sl_lo b o nt c p w' (by omega) (by omega) rfl
      have S2 : ∀ w', (Instr.slice 22 (.slice (some ⟨b, o, none⟩) nt c) (some (.int .i64 (p : Int))) (some (.int .i64 ((p : Int) + (e : Int)))) (some (.int .i64 ((p : Int) + (e : Int))))).run Tryd.prog w' = .ok (.slice (some ⟨b, o + p, none⟩) e e) w' := fun w' => by
        have h := sl_full b o nt c p (p + e) w' (by omega) (by omega) (by omega) (lo := (p : Int)) (hi := (p : Int) + (e : Int)) (mx := (p : Int) + (e : Int)) rfl (by omega) (by omega)
        rwa [show p + e - p = e by omega] at h
      have hJd := hJ pre wr wr.drew none hJs (only_of_below (below_drewN (Below.refl _ wr) 1) none) (fun r e => by cases e)
      obtain ⟨fn, tmps, assign, body, hy, hR⟩ := hY pre (p, e) _ wr.drew HEV.out hJd
      dsimp only [chV] at hy
      have p0 : (p : Int) < nt := by omega
      have p2 : (p : Int) + (e : Int) ≤ 1000000 := by omega
      have e2 : e ≤ 127 := by omega
      have HS1 := Lib.hid hS1
      have HN1 := Lib.hid hN1
      have m1 : (min (127 : Int) ((nt - p : Nat) : Int)) = (e : Int) := by omega
      clear he hJd hJs
      gi_wp2
      refine wpIn_wide.2 ?_
      go_region
      all_goals gi_wp2
      all_goals
        refine ⟨(fun e => by cases e), hR.mono ?_⟩
        rintro e3 W3 ⟨rfl, hJ3, hk3⟩
        have hS3 : Boxed W3 bS 22 (.slice (some ⟨b, o, none⟩) nt c) := (hk3.2.1 bS (.inl rfl)).trans HS1.out
        have hN3 : Boxed W3 bN 3 (.int .i64 127) := (hk3.2.1 bN (.inr rfl)).trans HN1.out
        have cS3 := hS3.cell
        have cN3 := hN3.cell
        have HJ3 := Lib.hid hJ3
        have HS3 := Lib.hid hS3
        have HN3 := Lib.hid hN3
        clear hJ3 hk3 hR hy hS3 hN3 cS cN hS1 hN1 m1
        gi_wp2
        go_roundw
        case rel => exact ⟨p + 127, _, by omega, by go_num, Lib.hid (by rw [HEV.out]; simp), HJ3.out, HS3.out, HN3.out⟩
        case measure => simp [intOf]; omega
    · have e : Dl.chk nt p = [] := Dl.chk_end (by omega)
      have HE2 := HE.out
      rw [e, List.append_nil] at HE2
      have HE3 := Lib.hid HE2
      clear e HE2
      have p1 : ¬ (p : Int) < nt := by omega
      gi_wp2
      go_end0
      exact ⟨⟨_, rfl⟩, by rw [HE3.out]; exact hJs⟩
end Go.Proofs.YthagldpgibpbdaaDoor
