/- The walk of the law OctetsTake: what a function reads of bytes. -/
import Derived.Test.YtedlfafbehhkdaaDoorOct27
namespace Go.Proofs.YtedlfafbehhkdaaDoor
open Go Go.RowKit
set_option maxRecDepth 100000 in
theorem take_big (A : Option Addr) (n c : Nat) (a : Nat → Addr) (w : World) (hS : OSents w a) (h : 1000 < n) :
    Calls Tryd.prog 5 #[.slice A n c] w fun e w' => e = .returned (.bool true) ∧ Below w.heap.size w w' := by
  have CA := alive_any a w hS
  clear hS
  have i1 : (1000 : Int) < (n : Int) := by omega
  go_enter Tryd.func5, Tryd.ntmps5
  go_wp2_with (go_at_call 6; refine CA.mono ?_; rintro e w1 ⟨rfl, hb⟩; have HB := Lib.hid hb; clear hb)
  go_ret
  exact ⟨rfl, HB.out⟩
theorem below_kpt {w w' : World} (h : Kpt NoS w w') : Below w.heap.size w w' := Kpt.below h
section
variable (A : Option Addr) (n c : Nat) (xs : List Nat) (a : Nat → Addr)
/-- .. by a function that breaks off -/
theorem take_broken (w : World) (hv : Rd w (.slice A n c) xs) (hb : Oc.bytes xs) (hS : Sents w a) (j : Nat) (hj : (n = 0 ∧ j = 1) ∨ (0 < n ∧ j = 18)) :
    Calls Tryd.prog 15 #[.slice A n c, .func (.func 17) #[] #[]] w fun e w' => e = .returned (.tuple #[.int .i64 0, ev (a j)]) ∧ Below w.heap.size w w' := by
  have hxl : xs.length = n := by obtain ⟨_, _, e, _⟩ := hv; injection e with _ e _; exact e.symm
  refine (takeI_bad 17 #[] NoS w w A n c xs (a j) enter_broken (Below.refl _ _) hv (fun _ h => h.elim) ?_).mono fun e w' h => ⟨h.1, below_kpt h.2⟩
  rcases hj with ⟨h0, rfl⟩ | ⟨h0, rfl⟩
  · exact broken_short xs a w w hS.o (by omega)
  · exact broken_state xs a w w hb hS (by omega)
theorem take_strange (w : World) (hv : Rd w (.slice A n c) xs) (hS : OSents w a) :
    Calls Tryd.prog 15 #[.slice A n c, .func (.func 18) #[] #[]] w fun e w' => e = .returned (.tuple #[.int .i64 0, ev (a 6)]) ∧ Below w.heap.size w w' :=
  (takeI_bad 18 #[] NoS w w A n c xs (a 6) enter_strange (Below.refl _ _) hv (fun _ h => h.elim) (strange_bad xs a w w hS)).mono fun e w' h => ⟨h.1, below_kpt h.2⟩
theorem bto_known : Oc.known (⟨#[98, 116, 111]⟩ : ByteArray).data.toList = true := by decide +kernel
theorem bto_sh : shN ⟨#[98, 116, 111]⟩ = [98, 116, 111] := by decide +kernel
set_option maxRecDepth 100000 in
set_option maxHeartbeats 1000000 in
theorem take_badz (w : World) (hv : Rd w (.slice A n c) xs) (hb : Oc.bytes xs) (hS : Sents w a) (hn : n ≤ 1000) (h : Oc.reads [98, 116, 111] xs = .bad 2) (h0 : n = 0) :
    Calls Tryd.prog 5 #[.slice A n c] w fun e w' => e = .returned (.bool true) ∧ Below w.heap.size w w' := by
  have hxl : xs.length = n := by obtain ⟨_, _, e, _⟩ := hv; injection e with _ e _; exact e.symm
  have CA := alive_any a w hS.o
  have HSE := Lib.hid hS
  have HV := Lib.hid hv
  have HBY := Lib.hid hb
  have HXL := Lib.hid hxl
  have i1 : ¬ (1000 : Int) < (n : Int) := by omega
  subst h0
  clear hS hv hb hxl
  have HH := Lib.hid h
  clear h
  go_enter Tryd.func5, Tryd.ntmps5
  go_wp2_with (first
    | (go_at_call 6; refine CA.mono ?_; rintro e w1 ⟨rfl, hb⟩; have HB := Lib.hid hb; have CT := (takeI_bad 16 #[] NoS w1 w1 A 0 c xs (a 1) enter_third (Below.refl _ _) (HV.out.below hb (Nat.le_refl _)) (fun _ h => h.elim) (third_bad xs a w1 w1 HBY.out (HSE.out.below hb (Nat.le_refl _)).o 2 HH.out).2); clear hb CA)
    | (go_at_call 15; refine CT.mono ?_; rintro e w2 ⟨rfl, hk⟩; have HB2 := Lib.hid (below_then HB.out (below_kpt hk)); have CR := (rrest_any ⟨#[98, 116, 111]⟩ xs A 0 c w2 (by decide) (HV.out.below HB2.out (Nat.le_refl _)) HBY.out (by have := HXL.out; omega)); clear hk CT)
    | (go_at_call 12; refine CR.mono ?_; rintro e w3 hp; obtain rfl := hp.2.2.1 bto_known 2 (by rw [bto_sh]; exact HH.out); have HB3 := Lib.hid (below_then HB2.out hp.1); have CN : Calls Tryd.prog 10 #[ev (a 1)] w3 fun e w' => e = .returned (.int .i64 2) ∧ Below w3.heap.size w3 w' := num_any 1 (by omega) a w3 (HSE.out.below HB3.out (Nat.le_refl _)); clear hp CR)
    | (go_at_call 10; refine CN.mono ?_; rintro e w4 ⟨rfl, hb⟩; have HB4 := Lib.hid (below_then HB3.out hb); have CB := take_broken A 0 c xs a w4 (HV.out.below HB4.out (Nat.le_refl _)) HBY.out (HSE.out.below HB4.out (Nat.le_refl _)) 1 (by omega); clear hb CN)
    | (go_at_call 15; refine CB.mono ?_; rintro e w5 ⟨rfl, hb⟩; have HB5 := Lib.hid (below_then HB4.out hb); have CM : Calls Tryd.prog 10 #[ev (a 1)] w5 fun e w' => e = .returned (.int .i64 2) ∧ Below w5.heap.size w5 w' := num_any 1 (by omega) a w5 (HSE.out.below HB5.out (Nat.le_refl _)); clear hb CB)
    | (go_at_call 10; refine CM.mono ?_; rintro e w6 ⟨rfl, hb⟩; have HB6 := Lib.hid (below_then HB5.out hb); have CS := take_strange A 0 c xs a w6 (HV.out.below HB6.out (Nat.le_refl _)) (HSE.out.below HB6.out (Nat.le_refl _)).o; clear hb CM)
    | (go_at_call 15; refine CS.mono ?_; rintro e w7 ⟨rfl, hb⟩; have HB7 := Lib.hid (below_then HB6.out hb); have CK : Calls Tryd.prog 10 #[ev (a 6)] w7 fun e w' => e = .returned (.int .i64 7) ∧ Below w7.heap.size w7 w' := num_any 6 (by omega) a w7 (HSE.out.below HB7.out (Nat.le_refl _)); clear hb CS)
    | (go_at_call 10; refine CK.mono ?_; rintro e w8 ⟨rfl, hb⟩; have HB8 := Lib.hid (below_then HB7.out hb); clear hb CK))
  go_ret
  exact ⟨rfl, HB8.out⟩
set_option maxRecDepth 100000 in
set_option maxHeartbeats 1000000 in
theorem take_badp (w : World) (hv : Rd w (.slice A n c) xs) (hb : Oc.bytes xs) (hS : Sents w a) (hn : n ≤ 1000) (h : Oc.reads [98, 116, 111] xs = .bad 2) (h0 : 0 < n) :
    Calls Tryd.prog 5 #[.slice A n c] w fun e w' => e = .returned (.bool true) ∧ Below w.heap.size w w' := by
  have hxl : xs.length = n := by obtain ⟨_, _, e, _⟩ := hv; injection e with _ e _; exact e.symm
  have CA := alive_any a w hS.o
  have HSE := Lib.hid hS
  have HV := Lib.hid hv
  have HBY := Lib.hid hb
  have HXL := Lib.hid hxl
  have i1 : ¬ (1000 : Int) < (n : Int) := by omega
  have bz : ((n : Int) == 0) = false := by simp; omega
  have iz : (0 : Int) < (n : Int) := by omega
  clear hS hv hb hxl
  have HH := Lib.hid h
  clear h
  go_enter Tryd.func5, Tryd.ntmps5
  go_wp2_with (first
    | (go_at_call 6; refine CA.mono ?_; rintro e w1 ⟨rfl, hb⟩; have HB := Lib.hid hb; have CT := (takeI_bad 16 #[] NoS w1 w1 A n c xs (a 1) enter_third (Below.refl _ _) (HV.out.below hb (Nat.le_refl _)) (fun _ h => h.elim) (third_bad xs a w1 w1 HBY.out (HSE.out.below hb (Nat.le_refl _)).o 2 HH.out).2); clear hb CA)
    | (go_at_call 15; refine CT.mono ?_; rintro e w2 ⟨rfl, hk⟩; have HB2 := Lib.hid (below_then HB.out (below_kpt hk)); have CR := (rrest_any ⟨#[98, 116, 111]⟩ xs A n c w2 (by decide) (HV.out.below HB2.out (Nat.le_refl _)) HBY.out (by have := HXL.out; omega)); clear hk CT)
    | (go_at_call 12; refine CR.mono ?_; rintro e w3 hp; obtain rfl := hp.2.2.1 bto_known 2 (by rw [bto_sh]; exact HH.out); have HB3 := Lib.hid (below_then HB2.out hp.1); have CN : Calls Tryd.prog 10 #[ev (a 1)] w3 fun e w' => e = .returned (.int .i64 2) ∧ Below w3.heap.size w3 w' := num_any 1 (by omega) a w3 (HSE.out.below HB3.out (Nat.le_refl _)); clear hp CR)
    | (go_at_call 10; refine CN.mono ?_; rintro e w4 ⟨rfl, hb⟩; have HB4 := Lib.hid (below_then HB3.out hb); have CB := take_broken A n c xs a w4 (HV.out.below HB4.out (Nat.le_refl _)) HBY.out (HSE.out.below HB4.out (Nat.le_refl _)) 18 (by omega); clear hb CN)
    | (go_at_call 15; refine CB.mono ?_; rintro e w5 ⟨rfl, hb⟩; have HB5 := Lib.hid (below_then HB4.out hb); have CM : Calls Tryd.prog 10 #[ev (a 18)] w5 fun e w' => e = .returned (.int .i64 19) ∧ Below w5.heap.size w5 w' := num_any 18 (by omega) a w5 (HSE.out.below HB5.out (Nat.le_refl _)); clear hb CB)
    | (go_at_call 10; refine CM.mono ?_; rintro e w6 ⟨rfl, hb⟩; have HB6 := Lib.hid (below_then HB5.out hb); have CS := take_strange A n c xs a w6 (HV.out.below HB6.out (Nat.le_refl _)) (HSE.out.below HB6.out (Nat.le_refl _)).o; clear hb CM)
    | (go_at_call 15; refine CS.mono ?_; rintro e w7 ⟨rfl, hb⟩; have HB7 := Lib.hid (below_then HB6.out hb); have CK : Calls Tryd.prog 10 #[ev (a 6)] w7 fun e w' => e = .returned (.int .i64 7) ∧ Below w7.heap.size w7 w' := num_any 6 (by omega) a w7 (HSE.out.below HB7.out (Nat.le_refl _)); clear hb CS)
    | (go_at_call 10; refine CK.mono ?_; rintro e w8 ⟨rfl, hb⟩; have HB8 := Lib.hid (below_then HB7.out hb); clear hb CK))
  go_ret
  exact ⟨rfl, HB8.out⟩
theorem reads_true {K : Nat} {cap : Array Value} {S : Nat → Prop} {w0 w : World} {ys zs : List Nat} {R : Nat → Value → World → Prop} (h : ReadsTo K cap S w0 w ys zs R) : ReadsTo K cap S w0 w ys zs (fun _ _ _ => True) := fun w2 i r h1 h2 h3 h4 =>
  (h w2 i r h1 h2 h3 h4).mono fun e w' ⟨u, g1, g2, g3, _⟩ => ⟨u, g1, g2, g3, trivial⟩
set_option maxRecDepth 100000 in
set_option maxHeartbeats 1000000 in
theorem take_longz (w : World) (hv : Rd w (.slice A n c) xs) (hb : Oc.bytes xs) (hS : Sents w a) (hn : n ≤ 1000) (l : List (Nat × List Nat)) (p : Nat) (h : Oc.reads [98, 116, 111] xs = .ok l p) (hp : 0 < (xs.drop p).length) (h0 : n = 0) :
    Calls Tryd.prog 5 #[.slice A n c] w fun e w' => e = .returned (.bool true) ∧ Below w.heap.size w w' := by
  have hxl : xs.length = n := by obtain ⟨_, _, e, _⟩ := hv; injection e with _ e _; exact e.symm
  have CA := alive_any a w hS.o
  have HSE := Lib.hid hS
  have HV := Lib.hid hv
  have HBY := Lib.hid hb
  have HXL := Lib.hid hxl
  have i1 : ¬ (1000 : Int) < (n : Int) := by omega
  subst h0
  clear hS hv hb hxl
  have HH := Lib.hid h
  have HPZ := Lib.hid hp
  obtain ⟨zl, hzl⟩ : ∃ zl, zl = (xs.drop p).length := ⟨_, rfl⟩
  have HZS : Hid ((xs.drop p).length = zl) := Lib.hid hzl.symm
  have izl : (0 : Int) < (zl : Int) := by omega
  clear h hp hzl
  go_enter Tryd.func5, Tryd.ntmps5
  go_wp2_with (first
    | (go_at_call 6; refine CA.mono ?_; rintro e w1 ⟨rfl, hb⟩; have HB := Lib.hid hb; have CT := (takeI_long 16 #[] NoS w1 w1 A 0 c xs (xs.drop p) (a 2) enter_third (Below.refl _ _) (HV.out.below hb (Nat.le_refl _)) (fun _ h => h.elim) (reads_true (third_ok xs w1 w1 HBY.out (by have := HXL.out; omega) l p HH.out).choose_spec.choose_spec.choose_spec.2.2.2.2.2) HPZ.out ((HSE.out.below hb (Nat.le_refl _)) 2 (by omega)).var); clear hb CA)
    | (go_at_call 15; refine CT.mono ?_; rintro e w2 ⟨rfl, hk⟩; have HB2 := Lib.hid (below_then HB.out (below_kpt hk)); have CR := (rrest_any ⟨#[98, 116, 111]⟩ xs A 0 c w2 (by decide) (HV.out.below HB2.out (Nat.le_refl _)) HBY.out (by have := HXL.out; omega)); clear hk CT)
    | (go_at_call 12; refine CR.mono ?_; rintro e w3 hp; obtain ⟨A1, b1, c1, fs, A2, c2, rfl, hA1, hrow, hsy, hrd⟩ := hp.2.2.2 bto_known l p (by rw [bto_sh]; exact HH.out); rw [HZS.out]; have HB3 := Lib.hid (below_then HB2.out hp.1); have CN : Calls Tryd.prog 10 #[ev (a 2)] w3 fun e w' => e = .returned (.int .i64 3) ∧ Below w3.heap.size w3 w' := num_any 2 (by omega) a w3 (HSE.out.below HB3.out (Nat.le_refl _)); clear hp CR hA1 hrow hsy hrd)
    | (go_at_call 10; refine CN.mono ?_; rintro e w4 ⟨rfl, hb⟩; have HB4 := Lib.hid (below_then HB3.out hb); have CB := take_broken A 0 c xs a w4 (HV.out.below HB4.out (Nat.le_refl _)) HBY.out (HSE.out.below HB4.out (Nat.le_refl _)) 1 (by omega); clear hb CN)
    | (go_at_call 15; refine CB.mono ?_; rintro e w5 ⟨rfl, hb⟩; have HB5 := Lib.hid (below_then HB4.out hb); have CM : Calls Tryd.prog 10 #[ev (a 1)] w5 fun e w' => e = .returned (.int .i64 2) ∧ Below w5.heap.size w5 w' := num_any 1 (by omega) a w5 (HSE.out.below HB5.out (Nat.le_refl _)); clear hb CB)
    | (go_at_call 10; refine CM.mono ?_; rintro e w6 ⟨rfl, hb⟩; have HB6 := Lib.hid (below_then HB5.out hb); have CS := take_strange A 0 c xs a w6 (HV.out.below HB6.out (Nat.le_refl _)) (HSE.out.below HB6.out (Nat.le_refl _)).o; clear hb CM)
    | (go_at_call 15; refine CS.mono ?_; rintro e w7 ⟨rfl, hb⟩; have HB7 := Lib.hid (below_then HB6.out hb); have CK : Calls Tryd.prog 10 #[ev (a 6)] w7 fun e w' => e = .returned (.int .i64 7) ∧ Below w7.heap.size w7 w' := num_any 6 (by omega) a w7 (HSE.out.below HB7.out (Nat.le_refl _)); clear hb CS)
    | (go_at_call 10; refine CK.mono ?_; rintro e w8 ⟨rfl, hb⟩; have HB8 := Lib.hid (below_then HB7.out hb); clear hb CK))
  go_ret
  exact ⟨rfl, HB8.out⟩
set_option maxRecDepth 100000 in
set_option maxHeartbeats 1000000 in
theorem take_longp (w : World) (hv : Rd w (.slice A n c) xs) (hb : Oc.bytes xs) (hS : Sents w a) (hn : n ≤ 1000) (l : List (Nat × List Nat)) (p : Nat) (h : Oc.reads [98, 116, 111] xs = .ok l p) (hp : 0 < (xs.drop p).length) (h0 : 0 < n) :
    Calls Tryd.prog 5 #[.slice A n c] w fun e w' => e = .returned (.bool true) ∧ Below w.heap.size w w' := by
  have hxl : xs.length = n := by obtain ⟨_, _, e, _⟩ := hv; injection e with _ e _; exact e.symm
  have CA := alive_any a w hS.o
  have HSE := Lib.hid hS
  have HV := Lib.hid hv
  have HBY := Lib.hid hb
  have HXL := Lib.hid hxl
  have i1 : ¬ (1000 : Int) < (n : Int) := by omega
  have bz : ((n : Int) == 0) = false := by simp; omega
  have iz : (0 : Int) < (n : Int) := by omega
  clear hS hv hb hxl
  have HH := Lib.hid h
  have HPZ := Lib.hid hp
  obtain ⟨zl, hzl⟩ : ∃ zl, zl = (xs.drop p).length := ⟨_, rfl⟩
  have HZS : Hid ((xs.drop p).length = zl) := Lib.hid hzl.symm
  have izl : (0 : Int) < (zl : Int) := by omega
  clear h hp hzl
  go_enter Tryd.func5, Tryd.ntmps5
  go_wp2_with (first
    | (go_at_call 6; refine CA.mono ?_; rintro e w1 ⟨rfl, hb⟩; have HB := Lib.hid hb; have CT := (takeI_long 16 #[] NoS w1 w1 A n c xs (xs.drop p) (a 2) enter_third (Below.refl _ _) (HV.out.below hb (Nat.le_refl _)) (fun _ h => h.elim) (reads_true (third_ok xs w1 w1 HBY.out (by have := HXL.out; omega) l p HH.out).choose_spec.choose_spec.choose_spec.2.2.2.2.2) HPZ.out ((HSE.out.below hb (Nat.le_refl _)) 2 (by omega)).var); clear hb CA)
    | (go_at_call 15; refine CT.mono ?_; rintro e w2 ⟨rfl, hk⟩; have HB2 := Lib.hid (below_then HB.out (below_kpt hk)); have CR := (rrest_any ⟨#[98, 116, 111]⟩ xs A n c w2 (by decide) (HV.out.below HB2.out (Nat.le_refl _)) HBY.out (by have := HXL.out; omega)); clear hk CT)
    | (go_at_call 12; refine CR.mono ?_; rintro e w3 hp; obtain ⟨A1, b1, c1, fs, A2, c2, rfl, hA1, hrow, hsy, hrd⟩ := hp.2.2.2 bto_known l p (by rw [bto_sh]; exact HH.out); rw [HZS.out]; have HB3 := Lib.hid (below_then HB2.out hp.1); have CN : Calls Tryd.prog 10 #[ev (a 2)] w3 fun e w' => e = .returned (.int .i64 3) ∧ Below w3.heap.size w3 w' := num_any 2 (by omega) a w3 (HSE.out.below HB3.out (Nat.le_refl _)); clear hp CR hA1 hrow hsy hrd)
    | (go_at_call 10; refine CN.mono ?_; rintro e w4 ⟨rfl, hb⟩; have HB4 := Lib.hid (below_then HB3.out hb); have CB := take_broken A n c xs a w4 (HV.out.below HB4.out (Nat.le_refl _)) HBY.out (HSE.out.below HB4.out (Nat.le_refl _)) 18 (by omega); clear hb CN)
    | (go_at_call 15; refine CB.mono ?_; rintro e w5 ⟨rfl, hb⟩; have HB5 := Lib.hid (below_then HB4.out hb); have CM : Calls Tryd.prog 10 #[ev (a 18)] w5 fun e w' => e = .returned (.int .i64 19) ∧ Below w5.heap.size w5 w' := num_any 18 (by omega) a w5 (HSE.out.below HB5.out (Nat.le_refl _)); clear hb CB)
    | (go_at_call 10; refine CM.mono ?_; rintro e w6 ⟨rfl, hb⟩; have HB6 := Lib.hid (below_then HB5.out hb); have CS := take_strange A n c xs a w6 (HV.out.below HB6.out (Nat.le_refl _)) (HSE.out.below HB6.out (Nat.le_refl _)).o; clear hb CM)
    | (go_at_call 15; refine CS.mono ?_; rintro e w7 ⟨rfl, hb⟩; have HB7 := Lib.hid (below_then HB6.out hb); have CK : Calls Tryd.prog 10 #[ev (a 6)] w7 fun e w' => e = .returned (.int .i64 7) ∧ Below w7.heap.size w7 w' := num_any 6 (by omega) a w7 (HSE.out.below HB7.out (Nat.le_refl _)); clear hb CS)
    | (go_at_call 10; refine CK.mono ?_; rintro e w8 ⟨rfl, hb⟩; have HB8 := Lib.hid (below_then HB7.out hb); clear hb CK))
  go_ret
  exact ⟨rfl, HB8.out⟩
theorem fs_three {fs : List Fld} {a b c : Nat × List Nat} (h : fs.map Oc.says = [a, b, c].map Oc.lays) : ∃ f0 f1 f2, fs = [f0, f1, f2] := by
  have hl := says_len h
  match fs, hl with
  | [f0, f1, f2], _ => exact ⟨f0, f1, f2, rfl⟩
theorem three_says {f0 f1 f2 : Fld} {v0 : Nat} {t os : List Nat} (h : [f0, f1, f2].map Oc.says = [(v0, []), (0, t), (0, os)].map Oc.lays) : f0.n = (v0 : Int) ∧ f1.bs = t ∧ f2.bs = os ∧ True := by
  simp only [List.map_cons, List.map_nil] at h
  injection h with h1 h
  injection h with h2 h
  injection h with h3 _
  injection h1 with h1 _
  injection h2 with _ h2
  injection h3 with _ h3
  exact ⟨h1, h2, h3, trivial⟩
theorem third_cells {w : World} {b : Nat} {f0 f1 f2 : Fld} {os : List Nat} (h : FRow w b 0 [f0, f1, f2]) (hb : f2.bs = os) (hl : os.length = 32) : ∃ bo oo, w.cell? ⟨b, 5, none⟩ = some (.slice (some ⟨bo, oo, none⟩) 32 f2.c) ∧ w.cell? ⟨bo, oo, none⟩ = some (.int .u8 ((os.getD 0 0 : Nat) : Int)) := by
  have hs := h.s 2 (by simp)
  obtain ⟨hr, hfl⟩ := h.r f2 (by simp)
  rw [hb] at hr hfl
  obtain ⟨A, c, hv, _, hA⟩ := hr
  obtain ⟨bo, oo, rfl, _, hx⟩ := hA (by omega)
  injection hv with e1 e2 e3
  rw [show ([f0, f1, f2] : List Fld)[2] = f2 from rfl, e1, ← hfl, hl] at hs
  exact ⟨bo, oo, hs, hx 0 (by omega)⟩
set_option maxRecDepth 100000 in
set_option maxHeartbeats 1000000 in
theorem take_good (w : World) (hv : Rd w (.slice A n c) xs) (hb : Oc.bytes xs) (hS : Sents w a) (hn : n ≤ 1000) (l : List (Nat × List Nat)) (p : Nat) (h : Oc.reads [98, 116, 111] xs = .ok l p) (hp : xs.drop p = []) (h0 : 0 < n) :
    Calls Tryd.prog 5 #[.slice A n c] w fun e w' => e = .returned (.bool true) ∧ Below w.heap.size w w' := by
  have hxl : xs.length = n := by obtain ⟨_, _, e, _⟩ := hv; injection e with _ e _; exact e.symm
  have CA := alive_any a w hS.o
  have HSE := Lib.hid hS
  have HV := Lib.hid hv
  have HBY := Lib.hid hb
  have HXL := Lib.hid hxl
  have i1 : ¬ (1000 : Int) < (n : Int) := by omega
  have bz : ((n : Int) == 0) = false := by simp; omega
  have iz : (0 : Int) < (n : Int) := by omega
  clear hS hv hb hxl
  have HH := Lib.hid h
  have HPZ := Lib.hid hp
  obtain ⟨v0, t, os, rfl, hol, hv0, htl, hx0, _⟩ := third_ok xs w w HBY.out (by have := HXL.out; omega) l p h
  have hread : ∀ w1, ReadsTo 16 #[] NoS w1 w1 xs [] (fun _ u _ => u = .int .i64 ((v0 : Int) + (t.length : Int) + ((os.getD 0 0 : Nat) : Int))) := fun w1 => by
    obtain ⟨v0', t', os', e, _, _, _, _, hr⟩ := third_ok xs w1 w1 HBY.out (by have := HXL.out; omega) _ p h
    rw [hp] at hr
    injection e with e1 e2
    injection e2 with e2 e3
    injection e3 with e3 _
    injection e1 with e1 _
    injection e2 with _ e2
    injection e3 with _ e3
    subst e1 e2 e3
    rw [show (([] : List Nat).length : Int) = 0 from rfl, Int.add_zero] at hr
    exact hr
  have HRD := Lib.hid hread
  have HOL := Lib.hid hol
  clear h hp hread
  obtain ⟨x, hx⟩ : ∃ x, x = os.getD 0 0 := ⟨_, rfl⟩
  have HXO : Hid (os.getD 0 0 = x) := Lib.hid hx.symm
  rw [← hx] at hx0
  obtain ⟨V, hV⟩ : ∃ V, V = t.length := ⟨_, rfl⟩
  have HVL : Hid (t.length = V) := Lib.hid hV.symm
  rw [← hV] at htl
  clear hx hV
  have W1 : IntKind.i64.wrap ((v0 : Int) + (V : Int)) = (v0 : Int) + (V : Int) := IntWalk.i64_in _ (by omega)
  have W2 : IntKind.i64.wrap ((v0 : Int) + (V : Int) + (x : Int)) = (v0 : Int) + (V : Int) + (x : Int) := IntWalk.i64_in _ (by omega)
  have CNN := num_nil
  go_enter Tryd.func5, Tryd.ntmps5
  go_wp2_with (first
    | (go_at_call 6; refine CA.mono ?_; rintro e w1 ⟨rfl, hb⟩; have HB := Lib.hid hb; have CT := (takeI_ok 16 #[] NoS w1 w1 A n c xs (fun _ u _ => u = .int .i64 ((v0 : Int) + (t.length : Int) + ((os.getD 0 0 : Nat) : Int))) enter_third (Below.refl _ _) (HV.out.below hb (Nat.le_refl _)) (fun _ h => h.elim) (HRD.out w1) (fun _ _ _ _ h _ => h)); clear hb CA)
    | (go_at_call 15; refine CT.mono ?_; rintro e w2 ⟨u, r, rfl, _, hu, hk⟩; rw [HVL.out, HXO.out] at hu; subst hu; have HB2 := Lib.hid (below_then HB.out (below_kpt hk)); have CR := (rrest_any ⟨#[98, 116, 111]⟩ xs A n c w2 (by decide) (HV.out.below HB2.out (Nat.le_refl _)) HBY.out (by have := HXL.out; omega)); clear hk CT)
    | (go_at_call 12; refine CR.mono ?_; rintro e w3 hp; obtain ⟨A1, b1, c1, fs, A2, c2, rfl, hA1, hrow, hsy, hrd⟩ := hp.2.2.2 bto_known _ p (by rw [bto_sh]; exact HH.out); have HB3 := Lib.hid (below_then HB2.out hp.1); obtain ⟨f0, f1, f2, rfl⟩ : ∃ f0 f1 f2, fs = [f0, f1, f2] := fs_three hsy; obtain rfl := hA1 (by simp); obtain ⟨m1, m2, m3, m4⟩ := three_says hsy; obtain ⟨bo, oo, p2, p3⟩ := third_cells hrow m3 HOL.out; have p0 : w3.cell? ⟨b1, 0, none⟩ = some (.int .i64 (v0 : Int)) := (by have h := hrow.n 0 (by simp); rw [show ([f0, f1, f2] : List Fld)[0] = f0 from rfl, m1] at h; exact h); have p1 : w3.cell? ⟨b1, 3, none⟩ = some (.slice f1.A V f1.c) := (by have h := hrow.s 1 (by simp); have hl := (hrow.r f1 (by simp)).2; rw [m2, HVL.out] at hl; rw [show ([f0, f1, f2] : List Fld)[1] = f1 from rfl, ← hl] at h; exact h); rw [HXO.out] at p3; rw [HPZ.out]; clear hp CR hA1 hrow hsy hrd m1 m2 m3 m4))
  go_quiet (fail)
  have HB3' := Lib.hid (below_drewN HB3.out nq)
  clear p0 p1 p2 p3
  generalize w3.drewN nq = w4 at HB3' ⊢
  have CB := take_broken A n c xs a w4 (HV.out.below HB3'.out (Nat.le_refl _)) HBY.out (HSE.out.below HB3'.out (Nat.le_refl _)) 18 (by omega)
  have HB4 := HB3'
  go_wp2_with (first
    | (go_at_call 10; refine (CNN _).mono ?_; rintro e w5 ⟨rfl, rfl⟩; clear CNN)
    | (go_at_call 15; refine CB.mono ?_; rintro e w5 ⟨rfl, hb⟩; have HB5 := Lib.hid (below_then HB4.out hb); have CM : Calls Tryd.prog 10 #[ev (a 18)] w5 fun e w' => e = .returned (.int .i64 19) ∧ Below w5.heap.size w5 w' := num_any 18 (by omega) a w5 (HSE.out.below HB5.out (Nat.le_refl _)); clear hb CB)
    | (go_at_call 10; refine CM.mono ?_; rintro e w6 ⟨rfl, hb⟩; have HB6 := Lib.hid (below_then HB5.out hb); have CS := take_strange A n c xs a w6 (HV.out.below HB6.out (Nat.le_refl _)) (HSE.out.below HB6.out (Nat.le_refl _)).o; clear hb CM)
    | (go_at_call 15; refine CS.mono ?_; rintro e w7 ⟨rfl, hb⟩; have HB7 := Lib.hid (below_then HB6.out hb); have CK : Calls Tryd.prog 10 #[ev (a 6)] w7 fun e w' => e = .returned (.int .i64 7) ∧ Below w7.heap.size w7 w' := num_any 6 (by omega) a w7 (HSE.out.below HB7.out (Nat.le_refl _)); clear hb CS)
    | (go_at_call 10; refine CK.mono ?_; rintro e w8 ⟨rfl, hb⟩; have HB8 := Lib.hid (below_then HB7.out hb); clear hb CK))
  go_ret
  exact ⟨rfl, HB8.out⟩
end
end Go.Proofs.YtedlfafbehhkdaaDoor
