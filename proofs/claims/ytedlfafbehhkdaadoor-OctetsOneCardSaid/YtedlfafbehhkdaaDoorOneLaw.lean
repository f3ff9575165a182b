/- The walk of the law OctetsOne: what is read by a shape has just those bytes. -/
import Derived.Test.YtedlfafbehhkdaaDoorOct23
namespace Go.Proofs.YtedlfafbehhkdaaDoor
open Go Go.RowKit
namespace Oc
theorem step_small {c : Nat} {bs : List Nat} {n k : Nat} {x : List Nat} (h : step c bs = .ok n x k) : x.length ≤ bs.length := by
  unfold step at h
  by_cases h1 : c = 111
  · rw [if_pos h1] at h
    by_cases h3 : bs.length < 32
    · rw [if_pos h3] at h; cases h
    · rw [if_neg h3] at h; injection h with _ e _; rw [← e, List.length_take]; omega
  rw [if_neg h1] at h
  by_cases h2 : c = 116
  · rw [if_pos h2] at h
    by_cases h3 : bs.length < 2
    · rw [if_pos h3] at h; cases h
    rw [if_neg h3] at h
    by_cases h4 : bs.length < 2 + val (bs.take 2)
    · rw [if_pos h4] at h; cases h
    · rw [if_neg h4] at h; injection h with _ e _; rw [← e, List.length_take, List.length_drop]; omega
  rw [if_neg h2] at h
  by_cases h3 : bs.length < zs c
  · rw [if_pos h3] at h; cases h
  rw [if_neg h3] at h
  by_cases h4 : mostN c < val (bs.take (zs c))
  · rw [if_pos h4] at h; cases h
  · rw [if_neg h4] at h; injection h with _ e _; rw [← e]; exact Nat.zero_le _
theorem next_small (bs : List Nat) : ∀ (s : List Nat) (l0 : List (Nat × List Nat)) (p0 : Nat) (l : List (Nat × List Nat)) (p : Nat), (∀ q ∈ l0, q.2.length ≤ bs.length) → s.foldl (Got.next bs) (.ok l0 p0) = .ok l p → ∀ q ∈ l, q.2.length ≤ bs.length
  | [], l0, p0, l, p, h0, h => by
    injection h with h1 h2
    rw [← h1]; exact h0
  | c :: s, l0, p0, l, p, h0, h => by
    rw [List.foldl_cons, Got.next] at h
    cases hs : step c (bs.drop p0) with
    | bad e =>
      simp only [hs] at h
      rw [next_bad] at h
      cases h
    | ok n x k =>
      simp only [hs] at h
      refine next_small bs s _ _ l p (fun q hq => ?_) h
      rcases List.mem_append.1 hq with hq | hq
      · exact h0 q hq
      · rw [List.mem_singleton.1 hq]
        have := step_small hs
        rw [List.length_drop] at this
        show x.length ≤ bs.length
        omega
theorem reads_small {s bs : List Nat} {l : List (Nat × List Nat)} {p : Nat} (h : reads s bs = .ok l p) : ∀ q ∈ l, q.2.length ≤ bs.length := next_small bs s [] 0 l p (fun q hq => by cases hq) h
end Oc
theorem flds_small {s : ByteArray} {xs : List Nat} {l : List (Nat × List Nat)} {p : Nat} {fs : List Fld} (h : Oc.reads (shN s) xs = .ok l p) (hs : fs.map Oc.says = l.map Oc.lays) : ∀ f ∈ fs, f.bs.length ≤ xs.length := by
  intro f hf
  have h1 : Oc.says f ∈ l.map Oc.lays := by rw [← hs]; exact List.mem_map_of_mem hf
  obtain ⟨q, hq, e⟩ := List.mem_map.1 h1
  injection e with _ e
  rw [show f.bs = q.2 from e.symm]
  exact Oc.reads_small h q hq
theorem text_size (l : List Nat) : (textOf l).size = l.length := by simp [textOf, ByteArray.size]
theorem text_app (l r : List Nat) : textOf l ++ textOf r = textOf (l ++ r) := by
  apply ByteArray.ext
  rw [ByteArray.data_append]
  simp [textOf]
theorem run_neq_ev (a : Addr) (w : World) : (binOp .neq 30 (ev a) .nilIface).run Tryd.prog w = .ok (.bool true) w := by kernel_rfl
theorem run_eql_ev (a : Addr) (w : World) : (binOp .eql 30 (ev a) .nilIface).run Tryd.prog w = .ok (.bool false) w := by kernel_rfl
set_option maxRecDepth 100000 in
theorem one_big (s : ByteArray) (A : Option Addr) (n c : Nat) (a : Nat → Addr) (w : World) (hS : OSents w a) (h : 60 < s.size ∨ 1000 < n) :
    Calls Tryd.prog 4 #[.string s, .slice A n c] w fun e w' => e = .returned (.bool true) ∧ Below w.heap.size w w' := by
  have CA := alive_any a w hS
  clear hS
  by_cases h1 : 60 < s.size
  · have i1 : (60 : Int) < (s.size : Int) := by omega
    go_enter Tryd.func4, Tryd.ntmps4
    go_wp2_with (go_at_call 6; refine CA.mono ?_; rintro e w1 ⟨rfl, hb⟩; have HB := Lib.hid hb; clear hb)
    go_ret
    exact ⟨rfl, HB.out⟩
  · have i1 : ¬ (60 : Int) < (s.size : Int) := by omega
    have i2 : (1000 : Int) < (n : Int) := by omega
    go_enter Tryd.func4, Tryd.ntmps4
    go_wp2_with (go_at_call 6; refine CA.mono ?_; rintro e w1 ⟨rfl, hb⟩; have HB := Lib.hid hb; clear hb)
    go_ret
    exact ⟨rfl, HB.out⟩
set_option maxRecDepth 100000 in
theorem one_bad (s : ByteArray) (A : Option Addr) (n c : Nat) (xs : List Nat) (a : Nat → Addr) (ae : Addr) (w : World) (hv : Rd w (.slice A n c) xs) (hb : Oc.bytes xs) (hS : OSents w a) (hs : s.size ≤ 60) (hn : n ≤ 1000) (h : ∀ w0 w2 i r e w', FieldsPost s xs a w0 w2 i r e w' → Fails w2 r (ev ae) e w') :
    Calls Tryd.prog 4 #[.string s, .slice A n c] w fun e w' => e = .returned (.bool true) ∧ Below w.heap.size w w' := by
  have CA := alive_any a w hS
  have HSE := Lib.hid hS
  have HV := Lib.hid hv
  have HH := Lib.hid h
  have HBY := Lib.hid hb
  have q1 := run_neq_ev ae
  clear hS hv h hb
  have i1 : ¬ (60 : Int) < (s.size : Int) := by omega
  have i2 : ¬ (1000 : Int) < (n : Int) := by omega
  go_enter Tryd.func4, Tryd.ntmps4
  go_wp2_with (first
    | (go_at_call 6; refine CA.mono ?_; rintro e w1 ⟨rfl, hb⟩; have HB := Lib.hid hb; have CR := orest_bad s xs a A n c w1 (HV.out.below hb (Nat.le_refl _)) (by omega) HBY.out (HSE.out.below hb (Nat.le_refl _)) ae (HH.out w1); clear hb CA)
    | (go_at_call 14; refine CR.mono ?_; rintro e w2 ⟨rfl, hb⟩; have HB2 := Lib.hid (below_then HB.out hb); clear hb CR))
  go_ret
  exact ⟨rfl, HB2.out⟩
set_option maxRecDepth 100000 in
theorem one_ok (s : ByteArray) (A : Option Addr) (n c : Nat) (xs : List Nat) (a : Nat → Addr) (w : World) (hv : Rd w (.slice A n c) xs) (hb : Oc.bytes xs) (hS : OSents w a) (hs : s.size ≤ 60) (hn : n ≤ 1000) (hk : Oc.known s.data.toList = true) (l : List (Nat × List Nat)) (p : Nat) (h : Oc.reads (shN s) xs = .ok l p) :
    Calls Tryd.prog 4 #[.string s, .slice A n c] w fun e w' => e = .returned (.bool true) ∧ Below w.heap.size w w' := by
  have CA := alive_any a w hS
  have HSE := Lib.hid hS
  have HV := Lib.hid hv
  have HH := Lib.hid h
  have HBY := Lib.hid hb
  have hxl : xs.length = n := by obtain ⟨_, _, e, _⟩ := hv; injection e with _ e _; exact e.symm
  have HXL := Lib.hid hxl
  obtain ⟨ys, hys⟩ : ∃ ys, ys = xs.drop p := ⟨_, rfl⟩
  have HYS : Hid (xs.drop p = ys) := Lib.hid hys.symm
  obtain ⟨T1, hT1⟩ : ∃ T1, T1 = textOf (xs.take p) := ⟨_, rfl⟩
  obtain ⟨T2, hT2⟩ : ∃ T2, T2 = textOf ys := ⟨_, rfl⟩
  obtain ⟨T3, hT3⟩ : ∃ T3, T3 = textOf xs := ⟨_, rfl⟩
  have W1 : ∀ w', (Op.stringOp .add T1 T2).run Tryd.prog w' = .ok (.string T3) w' := fun w' => by
    have e := run_string_add_sum (P := Tryd.prog) w' T1 T2 (by rw [hT1, hT2, hys, text_size, text_size, List.length_take, List.length_drop]; have := HXL.out; omega)
    have e2 : T1 ++ T2 = T3 := by rw [hT1, hT2, hys, text_app, List.take_append_drop, ← hT3]
    rw [e2] at e
    exact e
  have HT1 := Lib.hid hT1
  have HT2 := Lib.hid hT2
  have HT3 := Lib.hid hT3
  clear hys hT1 hT2 hT3
  clear hS hv h hb hxl
  have i1 : ¬ (60 : Int) < (s.size : Int) := by omega
  have i2 : ¬ (1000 : Int) < (n : Int) := by omega
  go_enter Tryd.func4, Tryd.ntmps4
  go_wp2_with (first
    | (go_at_call 6; refine CA.mono ?_; rintro e w1 ⟨rfl, hb⟩; have HB := Lib.hid hb; have CR := orest_any s xs a A n c w1 (HV.out.below hb (Nat.le_refl _)) (by omega) HBY.out (by have := HXL.out; omega) (HSE.out.below hb (Nat.le_refl _)) hk l p HH.out; rw [HYS.out] at CR; clear hb CA)
    | (go_at_call 14; refine CR.mono ?_; rintro e w2 ⟨A1, b, c1, A2, c2, fs, rfl, hA, hrow, hsy, hrd, hb⟩; have HB2 := Lib.hid (below_then HB.out hb); obtain ⟨g1, g2, g3, g4⟩ := Oc.reads_back s.data.toList xs fs l p HH.out hsy (fun f hf => (hrow.r f hf).2) hk HBY.out; have hfl := flds_small HH.out hsy; have hS2 := HSE.out.below HB2.out (Nat.le_refl _); have CW := write_any s A1 b 0 c1 fs (a 6) (a 0) w2 (by omega) hA hrow (by rw [g3]; simp; omega) (fun f hf => by rw [← (hrow.r f hf).2]; have := hfl f hf; have := HXL.out; omega) (hS2 6 (by omega)).var (hS2 0 (by omega)).var; have HG1 := Lib.hid g1; have HG2 := Lib.hid g2; have HG3 : Hid (fs.length = s.size) := Lib.hid (by rw [g3]; simp); have HRD := Lib.hid hrd; clear hb CR g1 g2 g3 hA hrow hsy hrd hfl hS2)
    | (go_at_call 8; refine CW.mono ?_; rintro e w4 ⟨hb4, _, _, hok⟩; obtain ⟨v, rfl, hp⟩ := hok hk HG3.out HG2.out; have HB4 := Lib.hid (below_then HB2.out hb4); have q1 : (convert 24 9 v).run Tryd.prog w4 = .ok (.string T1) w4 := (by have h := conv_rd hp.rd; rw [HG1.out, ← HT1.out] at h; exact h); have q2 : (convert 24 9 (.slice A2 ys.length c2)).run Tryd.prog w4 = .ok (.string T2) w4 := (by have h := conv_rd (HRD.out.below hb4 (Nat.le_refl _)); rw [← HT2.out] at h; exact h); have q3 : (convert 24 9 (.slice A n c)).run Tryd.prog w4 = .ok (.string T3) w4 := (by have h := conv_rd (HV.out.below HB4.out (Nat.le_refl _)); rw [← HT3.out] at h; exact h); clear hb4 hok hp CW))
  go_ret
  exact ⟨rfl, HB4.out⟩
end Go.Proofs.YtedlfafbehhkdaaDoor
