/- octets.Take of an object, whatever reads it. -/
import Derived.Test.YtgcgomdhdgjpdaaGreatDoorMOb18s
namespace Go.Proofs.YtgcgomdhdgjpdaaGreatDoor
open Go Go.RowKit
theorem belowO_run (u : World) (v : Value) : Below u.heap.size u (runBoxO (takeBox u v) u.heap.size) :=
 (((((Below.refl _ _).alloc (Nat.le_refl _) _).alloc (by simp) _).alloc (by simp <;> omega) _).alloc (by simp <;> omega) _).alloc (by simp <;> omega) _
theorem inAtO_run {w0 u : World} {v : Value} {xs : List Nat} (hw : Below w0.heap.size w0 u) (hv : Rd w0 v xs) : InAt w0 (runBoxO (takeBox u v) u.heap.size) ((takeBox u v).heap.size + 2) u.heap.size xs := by
 refine ⟨v, ⟨?_, ?_, ?_⟩, hv, below_then hw (belowO_run u v), hw.size, ?_⟩
 ·have h := Blk.new (((takeBox u v).alloc (.cells #[.pointer (some ⟨u.heap.size, 0, none⟩)] 238)).alloc (.cells zOc 183)) 258 #[.pointer (some ⟨u.heap.size, 0, none⟩)]
  rwa [show (((takeBox u v).alloc (.cells #[.pointer (some ⟨u.heap.size, 0, none⟩)] 238)).alloc (.cells zOc 183)).heap.size = (takeBox u v).heap.size + 2 by simp] at h
 ·exact ((((Blk.new u _ _).alloc _).alloc _).alloc _).alloc _
 ·rw [takeBox_size]; omega
 ·rw [takeBox_size]; have := hw.size; omega
theorem varO_run (u : World) (v : Value) : Blk (runBoxO (takeBox u v) u.heap.size) (u.heap.size + 1) 238 #[.pointer (some ⟨u.heap.size, 0, none⟩)] := by
 have h := Blk.new (u.alloc (.cells #[v, .bool true, .bool false, .nilIface] 240)) 238 #[.pointer (some ⟨u.heap.size, 0, none⟩)]
 rw [show (u.alloc (.cells #[v, .bool true, .bool false, .nilIface] 240)).heap.size = u.heap.size + 1 by simp] at h
 exact ((h.alloc _).alloc _).alloc _
theorem resO_run (u : World) (v : Value) : Blk (runBoxO (takeBox u v) u.heap.size) ((takeBox u v).heap.size + 1) 183 zOc := by
 have h := Blk.new ((takeBox u v).alloc (.cells #[.pointer (some ⟨u.heap.size, 0, none⟩)] 238)) 183 zOc
 rw [World.size_alloc] at h
 exact h.alloc _
abbrev wzO (w : World) : World := (w.alloc (.cells zOc 183)).alloc (.cells zOc 183)
theorem resultsO2 {fn : Func} {t s : Tmp} (hr : fn.results = #[.cell t 183, .tmp s]) {tmps : Array Value} {W : World} {g : Nat} {cs : Array Value} (h4 : tmps.getD t undef = .pointer (some ⟨g, 0, none⟩)) (hb : Blk W g 183 cs) (hs : cs.size = 36) :
  (results fn tmps).run Tryz.prog W = .ok (.tuple #[.agg cs, tmps.getD s undef]) W := by
 have hl : (loadVar 183 ⟨g, 0, none⟩).run Tryz.prog W = .ok (.agg cs) W := run_loadVar_row W g 183 183 cs (0, 0) _ hb Tryz.underlying183 (by rfl) (by rw [hs]; kernel_rfl)
 simp only [Array.getD_eq_getD_getElem?] at h4 ⊢
 simp [results, hr, h4, asAddr, hl]
set_option maxRecDepth 100000 in
set_option maxHeartbeats 1000000 in
theorem takeO_ok (K : Nat) (cap : Array Value) (w0 w : World) (A : Option Addr) (n c : Nat) (xs : List Nat) (R : Nat → Array Value → World → Prop) (hK : ∀ args w, (callFunc K args).run Tryz.prog w = .ok (.enter K args) w)
  (hw : Below w0.heap.size w0 w) (hv : Rd w0 (.slice A n c) xs)
  (hread : ∀ (w2 : World) (i r : Nat), w.heap.size ≤ r → w.heap.size ≤ i → InAt w0 w2 i r xs → Below w.heap.size w w2 →
   Calls Tryz.prog K (#[.pointer (some ⟨i, 0, none⟩)] ++ cap) w2 fun e w' => ∃ cs, e = .returned (.agg cs) ∧ cs.size = 36 ∧ cs.all (·.oneCell') = true ∧ InAt w0 w' i r [] ∧ Kpt (fun b => b = r) w2 w' ∧ R w2.heap.size cs w')
  (hR : ∀ m cs a b, R m cs a → Kpt (fun b => b < m) a b → R m cs b) :
  Calls Tryz.prog 135 #[.slice A n c, .func (.func K) #[] cap] w fun e w' => ∃ cs m, e = .returned (.tuple #[.agg cs, .nilIface]) ∧ cs.size = 36 ∧ w.heap.size ≤ m ∧ R m cs w' ∧ Below w.heap.size w w' := by
 have hmf : ∀ (fn : Fn) (first cap : Array Value) (w : World), (Instr.makeFunc fn first cap).run Tryz.prog w = .ok (.func fn first cap) w := fun _ _ _ _ => rfl
 obtain ⟨u, hu⟩ : ∃ u, u = wzO w := ⟨_, rfl⟩
 have us : u.heap.size = w.heap.size + 2 := by rw [hu]; simp
 have ub : Below w.heap.size w u := hu ▸ ((Below.refl _ _).alloc (Nat.le_refl _) _).alloc (by simp) _
 have hw' : Below w0.heap.size w0 u := below_then hw ub
 have CR := runO_ok K cap u.heap.size (takeBox u (.slice A n c)) (fun cs w' => ∃ w1, InAt w0 w1 ((takeBox u (.slice A n c)).heap.size + 2) u.heap.size [] ∧ Kpt (fun b => b = u.heap.size) (runBoxO (takeBox u (.slice A n c)) u.heap.size) w1 ∧ R (runBoxO (takeBox u (.slice A n c)) u.heap.size).heap.size cs w1 ∧ cs.all (·.oneCell') = true ∧ w1.grownBy w' (some ((takeBox u (.slice A n c)).heap.size + 1))) hK
  ((hread (runBoxO (takeBox u (.slice A n c)) u.heap.size) ((takeBox u (.slice A n c)).heap.size + 2) u.heap.size (by omega) (by rw [takeBox_size]; omega) (inAtO_run hw' hv) (ub.trans ((belowO_run u _).mono (by omega)))).mono fun e w' ⟨cs, he, hs, h1, hi, hk, hr⟩ => ⟨cs, he, hs, h1, hk.blk (resO_run u _) (by rw [takeBox_size]; omega), w', hi, hk, hr, h1, World.grownBy.refl _ _⟩)
  (fun cs a b ⟨w1, h1, h2, h3, h4, h5⟩ hg => ⟨w1, h1, h2, h3, h4, only_trans h5 hg⟩)
 have HT : Hid ((((w.alloc (.cells zOc 183)).alloc (.cells zOc 183)).alloc (.cells #[.slice A n c, .bool true, .bool false, .nilIface] 240)).alloc (.cells #[.pointer (some ⟨w.heap.size + 1 + 1, 0, none⟩)] 238) = takeBox u (.slice A n c)) := Lib.hid (by
  show _ = (u.alloc _).alloc (.cells #[.pointer (some ⟨u.heap.size, 0, none⟩)] _)
  rw [us, hu])
 rw [us] at CR
 have HU := Lib.hid hu
 have HRR := Lib.hid hR
 clear hread hR hw hv hw'
 go_enter_defers Tryz.func135, Tryz.ntmps135
 go_wp2_with (go_at_call 160; refine pause ?_)
 unfold Paused
 change Calls _ _ _ ((((w.alloc (.cells zOc 183)).alloc (.cells zOc 183)).alloc (.cells #[.slice A n c, .bool true, .bool false, .nilIface] 240)).alloc (.cells #[.pointer (some ⟨w.heap.size + 1 + 1, 0, none⟩)] 238)) _
 rw [HT.out]
 refine CR.mono ?_
 rintro e w5 ⟨cs, rfl, hs, wA, hi, hk, hr, h1, hg⟩
 have hX : Below w.heap.size w (runBoxO (takeBox u (.slice A n c)) u.heap.size) := ub.trans ((belowO_run u _).mono (by omega))
 have hz4 : Blk u w.heap.size 183 zOc := by rw [HU.out]; exact (Blk.new w 183 zOc).alloc _
 have gne : ∀ k, k < w.heap.size + 4 → k ≠ (takeBox u (.slice A n c)).heap.size + 1 := fun k hk => by rw [takeBox_size]; omega
 have hgA : ∀ k (T : TypeId) (C : Array Value), k < w.heap.size + 4 → k ≠ w.heap.size + 2 → Blk (runBoxO (takeBox u (.slice A n c)) (w.heap.size + 2)) k T C → Blk w5 k T C := fun k T C hk1 hk2 hb => (hk.blk hb (by omega)).grown hg (fun e => gne k hk1 (by injection e))
 have hXb := belowO_run u (.slice A n c)
 rw [us] at hXb hX
 have B4 : Blk w5 w.heap.size 183 zOc := hgA _ _ _ (by omega) (by omega) (hz4.below hXb (by omega))
 have B7 : Blk w5 (w.heap.size + 3) 238 #[.pointer (some ⟨w.heap.size + 2, 0, none⟩)] := hgA _ _ _ (by omega) (by omega) (by have h := varO_run u (.slice A n c); rw [us] at h; exact h)
 obtain ⟨vz, hz, ⟨Az, cz, rfl, _, _⟩, _⟩ := hi
 have BR : Blk w5 (w.heap.size + 2) 240 #[.slice Az 0 cz, .bool true, .bool false, .nilIface] := Blk.grown hz.r_ hg (fun e => gne (w.heap.size + 2) (by omega) (by injection e))
 have KA : Kpt (fun b => w.heap.size ≤ b) (runBoxO (takeBox u (.slice A n c)) (w.heap.size + 2)) w5 := ⟨hg.os.trans hk.os, hg.tape.trans hk.tape, hg.output.trans hk.output, Nat.le_trans hk.size hg.size, fun b hb hn => (hg.block b (Nat.lt_of_lt_of_le hb hk.size) (fun e => by injection e with e; rw [takeBox_size, us] at e; omega)).trans (hk.block b hb (by omega))⟩
 have sz5 : w.heap.size + 7 ≤ w5.heap.size := Nat.le_trans (by simp [us]) KA.size
 have HS := Lib.hid hs
 have H1 := Lib.hid h1
 have HRA := Lib.hid hr
 have HHK := Lib.hid hk
 have HHG := Lib.hid hg
 have HB4 := Lib.hid B4
 have HB7 := Lib.hid B7
 have HBR := Lib.hid BR
 have HKA := Lib.hid KA
 have HXX := Lib.hid hX
 have HSZ := Lib.hid sz5
 have HUS := Lib.hid us
 clear hs h1 hr hk hg B4 B7 BR KA hX hXb hz hgA gne hz4 CR ub us sz5 hu
 go_wp2_with (with_reducible (show wpList _ _ _ (Oper.mk _ (Op.store 183 _ _) _ _ _ _ :: _) _ _); refine pause ?_)
 unfold Paused
 change wpList _ _ _ _ _ (w5.alloc (.cells zOc 183))
 refine wpList_store_row (by rfl) 183 (.tmp 8) (.tmp 15) (by rfl) w5.heap.size cs (by rfl) (by rfl) 183 zOc (Blk.new w5 _ _) (by rw [HS.out]; kernel_rfl) (by rw [HS.out]; rfl) H1.out ?_
 have b6 : Below w5.heap.size w5 ((w5.alloc (.cells zOc 183)).setRow w5.heap.size cs) := below_row ((Below.refl _ _).alloc (Nat.le_refl _) _) (Nat.le_refl _) _
 have HB6 := Lib.hid b6
 have HB8 := Lib.hid ((Blk.new w5 183 zOc).row cs)
 generalize (w5.alloc (.cells zOc 183)).setRow w5.heap.size cs = w6 at b6 HB6 HB8 ⊢
 have p0 : w6.cell? ⟨w.heap.size + 3, 0, none⟩ = some (.pointer (some ⟨w.heap.size + 2, 0, none⟩)) := (HB7.out.below b6 HB7.out.lt).cell 0
 have p1 : w6.cell? ⟨w.heap.size + 2, 2, none⟩ = some (.bool false) := (HBR.out.below b6 HBR.out.lt).cell 2
 have p2 : w6.cell? ⟨w.heap.size + 2, 0, none⟩ = some (.slice Az 0 cz) := (HBR.out.below b6 HBR.out.lt).cell 0
 have HB46 := Lib.hid (HB4.out.below b6 HB4.out.lt)
 have HBR6 := Lib.hid (HBR.out.below b6 HBR.out.lt)
 have HP0 := Lib.hid p0
 obtain ⟨g8, hg8⟩ : ∃ g, g = w5.heap.size := ⟨_, rfl⟩
 have hg8l : w.heap.size + 7 ≤ g8 := by rw [hg8]; exact HSZ.out
 rw [← hg8] at HB8 ⊢
 have HG8 := Lib.hid hg8
 clear b6 hg8
 simp only [Act.put]
 go_wp2_with (with_reducible (show wpList _ _ _ (Oper.mk _ (Op.load 183 _) _ _ _ _ :: _) _ _); refine pause ?_)
 unfold Paused
 refine wpList_row_w (by rfl) 183 (.tmp 8) (by rfl) g8 (by rfl) 183 cs _ HB8.out Tryz.underlying183 (by rfl) (by rw [HS.out]; kernel_rfl) ?_
 go_wp2_with (with_reducible (show wpList _ _ _ (Oper.mk _ (Op.store 183 _ _) _ _ _ _ :: _) _ _); refine pause ?_)
 unfold Paused
 refine wpList_store_row (by rfl) 183 (.tmp 4) (.tmp 33) (by rfl) w.heap.size cs (by rfl) (by rfl) 183 zOc HB46.out (by rw [HS.out]; kernel_rfl) (by rw [HS.out]; rfl) H1.out ?_
 have HB4c := Lib.hid (HB46.out.row cs)
 have HG7 := Lib.hid (show w6.grownBy (w6.setRow w.heap.size cs) (some w.heap.size) from ⟨rfl, rfl, rfl, by simp, fun k _ hk => setRow_other w6 _ k _ (fun e => hk (by rw [e]))⟩)
 have HBR7 := Lib.hid (HBR6.out.grown HG7.out (fun e => by injection e with e; omega))
 have q0 : (w6.setRow w.heap.size cs).cell? ⟨w.heap.size + 3, 0, none⟩ = some (.pointer (some ⟨w.heap.size + 2, 0, none⟩)) := ((HB7.out.below HB6.out HB7.out.lt).grown HG7.out (fun e => by injection e with e; omega)).cell 0
 generalize w6.setRow w.heap.size cs = w7 at HB4c HG7 HBR7 q0 ⊢
 clear p0 p1 p2 HP0
 go_wp2
 refine leaves_cons (f := 159) (args := #[.pointer (some ⟨w.heap.size + 3, 0, none⟩)]) (by simp) (by simp [go_sem]) ?_
 refine (closeO_any (w.heap.size + 3) (w.heap.size + 2) _ _ _ _ w7 q0 HBR7.out).mono ?_
 rintro e u' w8 ⟨rfl, rfl, hg8'⟩
 have K8 : Kpt (fun b => b < (runBoxO (takeBox u (.slice A n c)) (w.heap.size + 2)).heap.size) wA w8 := by
  have sz : w.heap.size + 7 ≤ (runBoxO (takeBox u (.slice A n c)) (w.heap.size + 2)).heap.size := by simp [HUS.out]
  have k1 : Kpt (fun b => b < (runBoxO (takeBox u (.slice A n c)) (w.heap.size + 2)).heap.size) wA w5 := Kpt.of_grown HHG.out (by rw [takeBox_size, HUS.out]; omega)
  exact ((k1.trans (Kpt.of_below HB6.out)).trans (Kpt.of_grown HG7.out (by omega))).trans (Kpt.of_grown hg8' (by omega))
 have KB : Kpt (fun b => w.heap.size ≤ b) (runBoxO (takeBox u (.slice A n c)) (w.heap.size + 2)) w8 := ((HKA.out.trans (Kpt.of_below HB6.out)).trans (Kpt.of_grown HG7.out (Nat.le_refl _))).trans (Kpt.of_grown hg8' (by omega))
 have hbl : Below w.heap.size w w8 := HXX.out.trans ⟨KB.os, KB.tape, KB.output, KB.size, fun k hk => KB.block k (Nat.lt_of_lt_of_le hk HXX.out.size) (by omega)⟩
 refine ⟨_, resultsO2 (t := 4) (s := 5) rfl (by rfl) (HB4c.out.grown hg8' (fun e => by injection e with e; omega)) HS.out, ?_⟩
 exact ⟨cs, _, rfl, HS.out, by simp [HUS.out]; omega, HRR.out _ _ _ _ HRA.out K8, hbl⟩
theorem wpn {P : Program} {C : Code} {Q : Exit → Act → World → Prop} {a : Act} {w : World} (h : C.wp P (fun e a w => e = .normal ∧ Q .normal a w) a w) : C.wp P Q a w :=
 Code.wp_mono (fun e a w h => by rw [h.1]; exact h.2) h
set_option maxRecDepth 100000 in
set_option maxHeartbeats 1000000 in
theorem takeO_bad (K : Nat) (cap : Array Value) (w0 w : World) (A : Option Addr) (n c : Nat) (xs : List Nat) (ae : Addr) (hK : ∀ args w, (callFunc K args).run Tryz.prog w = .ok (.enter K args) w)
  (hw : Below w0.heap.size w0 w) (hv : Rd w0 (.slice A n c) xs)
  (hread : ∀ (w2 : World) (i r : Nat), w.heap.size ≤ r → w.heap.size ≤ i → InAt w0 w2 i r xs → Below w.heap.size w w2 →
   Calls Tryz.prog K (#[.pointer (some ⟨i, 0, none⟩)] ++ cap) w2 fun e w' => e = .panicked [{ v := stopV r, recovered := false }] ∧ Dead w' r (ev ae) ∧ Kpt (fun b => b = r) w2 w') :
  Calls Tryz.prog 135 #[.slice A n c, .func (.func K) #[] cap] w fun e w' => e = .returned (.tuple #[.agg zOc, ev ae]) ∧ Below w.heap.size w w' := by
 have hmf : ∀ (fn : Fn) (first cap : Array Value) (w : World), (Instr.makeFunc fn first cap).run Tryz.prog w = .ok (.func fn first cap) w := fun _ _ _ _ => rfl
 obtain ⟨u, hu⟩ : ∃ u, u = wzO w := ⟨_, rfl⟩
 have us : u.heap.size = w.heap.size + 2 := by rw [hu]; simp
 have ub : Below w.heap.size w u := hu ▸ ((Below.refl _ _).alloc (Nat.le_refl _) _).alloc (by simp) _
 have hw' : Below w0.heap.size w0 u := below_then hw ub
 have v2 : Blk (runBoxO (takeBox u (.slice A n c)) u.heap.size) (takeBox u (.slice A n c)).heap.size 238 #[.pointer (some ⟨u.heap.size, 0, none⟩)] := ((Blk.new (takeBox u (.slice A n c)) _ _).alloc _).alloc _
 have CR := runO_bad K cap u.heap.size (takeBox u (.slice A n c)) (fun w' => Dead w' u.heap.size (ev ae) ∧ Kpt (fun b => b = u.heap.size) (runBoxO (takeBox u (.slice A n c)) u.heap.size) w') hK
  ((hread (runBoxO (takeBox u (.slice A n c)) u.heap.size) ((takeBox u (.slice A n c)).heap.size + 2) u.heap.size (by omega) (by rw [takeBox_size]; omega) (inAtO_run hw' hv) (ub.trans ((belowO_run u _).mono (by omega)))).mono fun e w' ⟨he, hd, hk⟩ => ⟨he, hk.blk (resO_run u _) (by rw [takeBox_size]; omega), hd, hk⟩)
  (fun a h => (h.2.blk v2 (by rw [takeBox_size]; omega)).cell 0) (fun a b h k => ⟨h.1.grown k, h.2.trans (Kpt.of_below k)⟩)
 have HT : Hid ((((w.alloc (.cells zOc 183)).alloc (.cells zOc 183)).alloc (.cells #[.slice A n c, .bool true, .bool false, .nilIface] 240)).alloc (.cells #[.pointer (some ⟨w.heap.size + 1 + 1, 0, none⟩)] 238) = takeBox u (.slice A n c)) := Lib.hid (by
  show _ = (u.alloc _).alloc (.cells #[.pointer (some ⟨u.heap.size, 0, none⟩)] _)
  rw [us, hu])
 rw [us] at CR
 have HU := Lib.hid hu
 clear hread hw hv hw' v2
 go_enter_defers Tryz.func135, Tryz.ntmps135
 go_wp2_with (go_at_call 160; refine pause ?_)
 unfold Paused
 change Calls _ _ _ ((((w.alloc (.cells zOc 183)).alloc (.cells zOc 183)).alloc (.cells #[.slice A n c, .bool true, .bool false, .nilIface] 240)).alloc (.cells #[.pointer (some ⟨w.heap.size + 1 + 1, 0, none⟩)] 238)) _
 rw [HT.out]
 refine CR.mono ?_
 rintro e w5 ⟨rfl, hd, hk⟩
 have hX : Below w.heap.size w (runBoxO (takeBox u (.slice A n c)) u.heap.size) := ub.trans ((belowO_run u _).mono (by omega))
 have hz4 : Blk u w.heap.size 183 zOc := by rw [HU.out]; exact (Blk.new w 183 zOc).alloc _
 have hz6 : Blk u (w.heap.size + 1) 183 zOc := by
  rw [HU.out]
  have h := Blk.new (w.alloc (.cells zOc 183)) 183 zOc
  rwa [World.size_alloc] at h
 have hXb := belowO_run u (.slice A n c)
 have hvr := varO_run u (.slice A n c)
 rw [us] at hXb hX hvr
 have B4 : Blk w5 w.heap.size 183 zOc := hk.blk (hz4.below hXb (by omega)) (by omega)
 have B6 : Blk w5 (w.heap.size + 1) 183 zOc := hk.blk (hz6.below hXb (by omega)) (by omega)
 have B7 : Blk w5 (w.heap.size + 3) 238 #[.pointer (some ⟨w.heap.size + 2, 0, none⟩)] := hk.blk hvr (by omega)
 obtain ⟨vd, hd⟩ := hd
 have KA : Kpt (fun b => w.heap.size ≤ b) (runBoxO (takeBox u (.slice A n c)) (w.heap.size + 2)) w5 := ⟨hk.os, hk.tape, hk.output, hk.size, fun b hb hn => hk.block b hb (by omega)⟩
 have HB4 := Lib.hid B4
 have HB6 := Lib.hid B6
 have HB7 := Lib.hid B7
 have HBR := Lib.hid hd
 have HKA := Lib.hid KA
 have HXX := Lib.hid hX
 have hm : Tryz.prog.follows .mixedOrders = true := by kernel_rfl
 clear hd hk B4 B6 B7 KA hX hXb hvr hz4 hz6 CR ub us hu
 go_wp2_with (with_reducible (show wpList _ _ _ (Oper.mk _ (Op.store 183 _ _) _ _ _ _ :: _) _ _); refine pause ?_)
 unfold Paused
 change wpList _ _ _ _ _ (w5.alloc (.cells zOc 183))
 refine wpList_store_row (by rfl) 183 (.tmp 8) (.tmp 15) (by rfl) w5.heap.size zOc (by rfl) (by rfl) 183 zOc (Blk.new w5 _ _) (by kernel_rfl) (by rfl) (by kernel_rfl) ?_
 have b6 : Below w5.heap.size w5 ((w5.alloc (.cells zOc 183)).setRow w5.heap.size zOc) := below_row ((Below.refl _ _).alloc (Nat.le_refl _) _) (Nat.le_refl _) _
 have HBB := Lib.hid b6
 generalize (w5.alloc (.cells zOc 183)).setRow w5.heap.size zOc = w6 at b6 HBB ⊢
 have p0 : w6.cell? ⟨w.heap.size + 3, 0, none⟩ = some (.pointer (some ⟨w.heap.size + 2, 0, none⟩)) := (HB7.out.below b6 HB7.out.lt).cell 0
 have p1 : w6.cell? ⟨w.heap.size + 2, 2, none⟩ = some (.bool true) := (HBR.out.below b6 HBR.out.lt).cell 2
 have p2 : w6.cell? ⟨w.heap.size + 2, 3, none⟩ = some (ev ae) := (HBR.out.below b6 HBR.out.lt).cell 3
 have HB46 := Lib.hid (HB4.out.below b6 HB4.out.lt)
 have HB66 := Lib.hid (HB6.out.below b6 HB6.out.lt)
 have HBR6 := Lib.hid (HBR.out.below b6 HBR.out.lt)
 clear b6
 simp only [Act.put]
 go_wp2
 refine wpn ?_
 refine wp_region_held (S := fun w' => w' = w6.drew) hm ?_
 change wpAnyH _ _ _ _ _ _ _ _ w6.drew
 refine wpAnyH_take (i := 0) (v := .agg zOc) rfl (by kernel_rfl) (by kernel_rfl) (by kernel_rfl) (fun _ _ _ h => by cases h.1) (takes_row 183 (.tmp 6) (by rfl) (by rfl) (w.heap.size + 1) (by rfl) 183 zOc _ (fun w' hw => by rw [hw]; exact HB66.out.drew) Tryz.underlying183 (by rfl) (by kernel_rfl)) rfl ?_
 try simp only [Act.put, List.getElem_toArray, List.getElem_cons_zero, List.setIfInBounds_toArray, List.set_cons_zero, List.set_cons_succ]
 refine wpAnyH_take (i := 1) (v := ?_) rfl (by kernel_rfl) (by kernel_rfl) (by kernel_rfl) (fun _ _ _ h => by cases h.1) (Or.inl ⟨by rfl, ?_⟩) rfl ?_
 rotate_left
 ·rintro w' rfl; go_simp; with_reducible rfl
 try simp only [Act.put, List.getElem_toArray, List.getElem_cons_zero, List.getElem_cons_succ, List.setIfInBounds_toArray, List.set_cons_zero, List.set_cons_succ]
 refine wpAnyH_take (i := 2) (v := ?_) rfl (by kernel_rfl) (by kernel_rfl) (by kernel_rfl) (fun _ _ _ h => by cases h.1) (Or.inl ⟨by rfl, ?_⟩) rfl ?_
 rotate_left
 ·rintro w' rfl; go_simp; with_reducible rfl
 try simp only [Act.put, List.getElem_toArray, List.getElem_cons_zero, List.getElem_cons_succ, List.setIfInBounds_toArray, List.set_cons_zero, List.set_cons_succ]
 refine wpAnyH_take (i := 3) (v := ?_) rfl (by kernel_rfl) (by kernel_rfl) (by kernel_rfl) (fun _ _ _ h => by cases h.1) (Or.inl ⟨by rfl, ?_⟩) rfl ?_
 rotate_left
 ·rintro w' rfl; go_simp; with_reducible rfl
 try simp only [Act.put, List.getElem_toArray, List.getElem_cons_zero, List.getElem_cons_succ, List.setIfInBounds_toArray, List.set_cons_zero, List.set_cons_succ]
 refine wpAnyH_take (i := 4) (v := ?_) rfl (by kernel_rfl) (by kernel_rfl) (by kernel_rfl) (fun _ _ _ h => by cases h.1) (Or.inl ⟨by rfl, ?_⟩) rfl ?_
 rotate_left
 ·rintro w' rfl; go_simp; with_reducible rfl
 try simp only [Act.put, List.getElem_toArray, List.getElem_cons_zero, List.getElem_cons_succ, List.setIfInBounds_toArray, List.set_cons_zero, List.set_cons_succ]
 refine all_one (i := 5) (by kernel_rfl) rfl (by rfl) (fun K hK => ?_)
 refine wp_store_row 183 (.tmp 4) (.tmp 20) (by rfl) w.heap.size zOc (by rfl) (by rfl) 183 zOc HB46.out.drew (by kernel_rfl) (by rfl) (by kernel_rfl) ?_
 rw [setRow_self w6.drew w.heap.size zOc 183 (0, 0) HB46.out.drew]
 refine hK _ _ rfl ?_
 try simp only [Act.put, List.getElem_toArray, List.getElem_cons_zero, List.getElem_cons_succ]
 refine all_one (i := 6) (by kernel_rfl) rfl (by rfl) (fun K hK => ?_)
 go_simp
 refine hK _ _ rfl ?_
 try simp only [Act.put, List.getElem_toArray, List.getElem_cons_zero, List.getElem_cons_succ, List.setIfInBounds_toArray, List.set_cons_zero, List.set_cons_succ]
 refine wpAnyH_done (by kernel_rfl) ?_ _
 refine ⟨rfl, ?_⟩
 have q0 : w6.drew.cell? ⟨w.heap.size + 3, 0, none⟩ = some (.pointer (some ⟨w.heap.size + 2, 0, none⟩)) := p0
 clear p0 p1 p2
 go_wp2
 refine leaves_cons (f := 159) (args := #[.pointer (some ⟨w.heap.size + 3, 0, none⟩)]) (by simp) (by simp [go_sem]) ?_
 refine (closeO_any (w.heap.size + 3) (w.heap.size + 2) _ _ _ _ w6.drew q0 HBR6.out.drew).mono ?_
 rintro e u' w8 ⟨rfl, rfl, hg8⟩
 have KB : Kpt (fun b => w.heap.size ≤ b) (runBoxO (takeBox u (.slice A n c)) (w.heap.size + 2)) w8 := ((HKA.out.trans (Kpt.of_below HBB.out)).trans (Kpt.of_below (below_drewN (Below.refl _ w6) 1))).trans (Kpt.of_grown hg8 (by omega))
 have hbl : Below w.heap.size w w8 := HXX.out.trans ⟨KB.os, KB.tape, KB.output, KB.size, fun k hk => KB.block k (Nat.lt_of_lt_of_le hk HXX.out.size) (by omega)⟩
 exact ⟨_, resultsO2 (t := 4) (s := 5) rfl (by rfl) (HB46.out.drew.grown hg8 (fun e => by injection e with e; omega)) (by rfl), rfl, hbl⟩
theorem own_ne' {w : World} {B n z r : Nat} {v : Value} {cs : List Value} {e : TypeId} (h : w.ownsRow B e z v n cs) (hr : r < B) : some r ≠ v.ownBlock := fun e => by
 have := (h.lt r e.symm).1
 omega
theorem own_far {w : World} {B n z r : Nat} {v : Value} {cs : List Value} {e : TypeId} (h : w.ownsRow B e z v n cs) (hr : r < B) : v.ownBlock = none ∨ v.ownBlock ≠ some r := by
 cases hv : v.ownBlock with
 | none => exact Or.inl rfl
 | some g => exact Or.inr (fun e => own_ne' h hr (by rw [hv, e]))
structure NX (w0 wf w : World) (i r : Nat) (v : Value) (k : Nat) (zs ys : List Nat) : Prop where
 at_ : InAt w0 w i r ys
 row : w.ownsRow wf.heap.size 5 1 v k (cellsB zs)
 grw : wf.grownBy w (some r)
 old : r < wf.heap.size ∧ i < wf.heap.size ∧ w0.heap.size ≤ wf.heap.size
section
variable {w0 wf w w' : World} {i r k : Nat} {v : Value} {zs ys : List Nat}
theorem NX.start (h : InAt w0 w i r ys) : NX w0 w w i r nilV 0 [] ys := by
 have h2 := h
 obtain ⟨v, k, hr, hw, h1, h3⟩ := h2
 exact ⟨h, World.ownsRow_nil _ _ _ _, World.grownBy.refl w _, k.r_.lt, k.i_.lt, hw.size⟩
theorem NX.read (h : NX w0 wf w i r v k zs ys) (hg : w.grownBy w' (some r)) {us : List Nat} (hi : InAt w0 w' i r us) : NX w0 wf w' i r v k zs us :=
 ⟨hi, h.row.kept hg (own_far h.row h.old.1), only_trans h.grw hg, h.old⟩
theorem NX.below (h : NX w0 wf w i r v k zs ys) (hb : Below w.heap.size w w') : NX w0 wf w' i r v k zs ys :=
 ⟨h.at_.below hb, h.row.kept (only_of_below hb none) (by cases hv : v.ownBlock with | none => exact Or.inl rfl | some g => exact Or.inr (by simp)), only_trans h.grw (only_of_below hb _), h.old⟩
theorem NX.app (h : NX w0 wf w i r v k zs ys) {v2 : Value} {k2 : Nat} {us : List Nat} (ho : w'.ownsRow wf.heap.size 5 1 v2 k2 (cellsB us)) (hg : w.grownBy w' v.ownBlock) : NX w0 wf w' i r v2 k2 us ys := by
 have n1 := own_ne' h.row h.old.1
 have n2 := own_ne' h.row h.old.2.1
 obtain ⟨u, a, hr, hw, h1, h2⟩ := h.at_
 refine ⟨⟨u, ⟨a.i_.grown hg n2, a.r_.grown hg n1, a.ne⟩, hr, below_own hw h.row h.old.2.2 hg, h1, h2⟩, ho, ?_, h.old⟩
 refine ⟨hg.os.trans h.grw.os, hg.tape.trans h.grw.tape, hg.output.trans h.grw.output, Nat.le_trans h.grw.size hg.size, fun j hj hne => ?_⟩
 rw [hg.block j (Nat.lt_of_lt_of_le hj h.grw.size) (own_ne' h.row hj)]
 exact h.grw.block j hj hne
end
theorem val_one (x : Nat) (ys : List Nat) : Oc.val ((x :: ys).take 1) = x := by simp [Oc.val]
theorem ibyte_ok (i r x : Nat) (ys : List Nat) (w0 w : World) (h : InAt w0 w i r (x :: ys)) (hb : Oc.bytes (x :: ys)) :
  Calls Tryz.prog 161 #[.pointer (some ⟨i, 0, none⟩), .int .u8 98] w fun e w' => e = .returned (.int .i64 ((x : Nat) : Int)) ∧ InAt w0 w' i r ys ∧ w.grownBy w' (some r) := by
 have hx := hb x (List.mem_cons_self ..)
 have h1 := inum_ok i r 98 1 (x :: ys) w0 w h rfl (by decide) (by decide) (by simp) hb (by rw [val_one]; show x ≤ 255; omega) rfl
 rw [val_one] at h1
 exact h1
theorem ibyte_short (i r : Nat) (aS : Addr) (w0 w : World) (h : InAt w0 w i r []) (hS : w0.cell? ⟨3, 0, none⟩ = some (ev aS)) :
  Calls Tryz.prog 161 #[.pointer (some ⟨i, 0, none⟩), .int .u8 98] w (Fails w r (ev aS)) :=
 inum_short i r 98 1 aS [] w0 w h rfl (by decide) (by simp) ((h.bel.1.cell (block_lt_of_cell hS)).trans hS)
theorem small_conv (x : Nat) (h : x < 256) : IntKind.u8.wrap (x : Int) = (x : Int) := by show ((x : Int)) % 256 = _; omega
theorem drop_at {xs : List Nat} {k : Nat} (h : k < xs.length) : xs.drop k = xs.getD k 0 :: xs.drop (k + 1) := by
 rw [List.drop_eq_getElem_cons h]; simp [List.getD, h]
theorem take_at {xs : List Nat} {k : Nat} (h : k < xs.length) : xs.take (k + 1) = xs.take k ++ [xs.getD k 0] := by
 rw [List.take_succ_eq_append_getElem h]; simp [List.getD, h]
def NRel (xs : List Nat) (w0 wf wr : World) (i r : Nat) (v : Value) (k : Nat) : Prop := NX w0 wf wr i r v k (xs.take k) (xs.drop k)
set_option maxRecDepth 100000 in
set_option maxHeartbeats 1000000 in
theorem onext_ok (i r n : Nat) (xs : List Nat) (w0 w : World) (h : InAt w0 w i r xs) (hb : Oc.bytes xs) (hn : n ≤ xs.length) (hz : n ≤ 1000000) :
  Calls Tryz.prog 162 #[.pointer (some ⟨i, 0, none⟩), .int .i64 (n : Int)] w fun e w' => ∃ v, e = .returned v ∧ w'.ownsRow w.heap.size 5 1 v n (cellsB (xs.take n)) ∧ InAt w0 w' i r (xs.drop n) ∧ w.grownBy w' (some r) := by
 have HX : Hid (NRel xs w0 w w i r nilV 0) := Lib.hid (NX.start h)
 have HB := Lib.hid hb
 have HN := Lib.hid hn
 clear h hb hn
 go_enter Tryz.func162, Tryz.ntmps162
 go_wp2
 go_loopw [5, 7] (fun v j wr => ∃ k : Nat, k ≤ n ∧ j = .int .i64 k ∧ Hid (NRel xs w0 w wr i r v k)) (fun _ j _ => n - (intOf j).toNat)
 case atStart => exact ⟨0, Nat.zero_le _, rfl, HX⟩
 case round =>
  obtain ⟨k, hk, rfl, HR⟩ := hrel
  by_cases hlt : k < n
  ·have HA := HR.out.at_
   rw [drop_at (by have := HN.out; omega)] at HA
   have HC := Lib.hid (show Oc.bytes (xs.getD k 0 :: xs.drop (k + 1)) from by rw [← drop_at (by have := HN.out; omega)]; exact Oc.bytes_drop HB.out k)
   have HTK := Lib.hid (take_at (xs := xs) (k := k) (by have := HN.out; omega))
   have HLK := Lib.hid (show (xs.take k).length = k from by rw [List.length_take]; have := HN.out; omega)
   have HRd : Hid (NX w0 w wr i r u5 k (xs.take k) (xs.drop k)) := Lib.hid HR.out
   generalize xs.getD k 0 = x at HA HC HTK
   have CN := ibyte_ok i r x (xs.drop (k + 1)) w0 wr HA HC.out
   have q1 := small_conv x (HC.out x (List.mem_cons_self ..))
   have i1 : ((k : Nat) : Int) < n := by omega
   have i2 : (0 : Int) ≤ ((k : Nat) : Int) := by omega
   have i3 : ((k : Nat) : Int) < 1000000 := by omega
   clear HA
   go_wp2_with (first
    | (go_at_call 161; refine CN.mono ?_; rintro e w1 ⟨rfl, hi, hg⟩; have HY := Lib.hid (HRd.out.read hg hi); clear hi hg)
    | (with_reducible (show wpList _ _ _ (Oper.mk _ (Op.call (Call.mk (Callee.builtin Builtin.append) _ _)) _ _ _ _ :: _) _ _); refine pause ?_))
   unfold Paused
   change wpList _ _ _ _ _ (w1.alloc (.cells (u8s [x]) 5))
   have hbb : Below w1.heap.size w1 (w1.alloc (.cells (u8s [x]) 5)) := (Below.refl _ _).alloc (Nat.le_refl _) _
   have HZ := Lib.hid (HY.out.below hbb)
   have HRb : Hid (Rd (w1.alloc (.cells (u8s [x]) 5)) (.slice (some ⟨w1.heap.size, 0, none⟩) 1 1) [x]) := Lib.hid (rd_of_lit w1 [x] _ (by simp))
   clear hbb
   generalize w1.alloc (.cells (u8s [x]) 5) = w2 at HZ HRb ⊢
   generalize w1.heap.size = gs at HRb ⊢
   have HROW : Hid (w2.ownsRow w.heap.size 5 1 u5 (xs.take k).length (cellsB (xs.take k))) := Lib.hid (by rw [HLK.out]; exact HZ.out.row)
   refine wpList_appendB (by rfl) (.tmp 9) (.tmp 13) (by rfl) w.heap.size _ (xs.take k) (by rfl) HROW.out HZ.out.grw.size _ (by rfl) [x] HRb.out (by rw [HLK.out]; simp only [List.length_cons, List.length_nil]; omega) ?_
   intro v2 w3 ho hg
   have HN2 : Hid (NRel xs w0 w w3 i r v2 (k + 1)) := Lib.hid (by
    unfold NRel
    rw [HTK.out]
    have h := ho
    rw [List.length_append, HLK.out] at h
    exact HZ.out.app h hg)
   clear ho hg
   go_wp2
   go_roundw
   case rel => exact ⟨k + 1, by omega, by go_num, HN2⟩
   case measure => simp [intOf]; omega
  ·obtain rfl : k = n := by omega
   go_wp2
   go_ret
   exact ⟨_, rfl, HR.out.row, HR.out.at_, HR.out.grw⟩
set_option maxRecDepth 100000 in
set_option maxHeartbeats 1000000 in
theorem onext_short (i r n : Nat) (aS : Addr) (xs : List Nat) (w0 w : World) (h : InAt w0 w i r xs) (hb : Oc.bytes xs) (hn : xs.length < n) (hz : n ≤ 1000000) (hS : w0.cell? ⟨3, 0, none⟩ = some (ev aS)) :
  Calls Tryz.prog 162 #[.pointer (some ⟨i, 0, none⟩), .int .i64 (n : Int)] w (Fails w r (ev aS)) := by
 have HX : Hid (NRel xs w0 w w i r nilV 0) := Lib.hid (NX.start h)
 have HB := Lib.hid hb
 have HN := Lib.hid hn
 have HS := Lib.hid hS
 clear h hb hn hS
 go_enter Tryz.func162, Tryz.ntmps162
 go_wp2
 go_loopw [5, 7] (fun v j wr => ∃ k : Nat, k ≤ xs.length ∧ j = .int .i64 k ∧ Hid (NRel xs w0 w wr i r v k)) (fun _ j _ => n - (intOf j).toNat)
 case atStart => exact ⟨0, Nat.zero_le _, rfl, HX⟩
 case round =>
  obtain ⟨k, hk, rfl, HR⟩ := hrel
  have i1 : ((k : Nat) : Int) < n := by have := HN.out; omega
  have i2 : (0 : Int) ≤ ((k : Nat) : Int) := by omega
  have i3 : ((k : Nat) : Int) < 1000000 := by omega
  by_cases hlt : k < xs.length
  ·have HA := HR.out.at_
   rw [drop_at hlt] at HA
   have HC := Lib.hid (show Oc.bytes (xs.getD k 0 :: xs.drop (k + 1)) from by rw [← drop_at hlt]; exact Oc.bytes_drop HB.out k)
   have HTK := Lib.hid (take_at hlt)
   have HLK := Lib.hid (show (xs.take k).length = k from by rw [List.length_take]; omega)
   have HRd : Hid (NX w0 w wr i r u5 k (xs.take k) (xs.drop k)) := Lib.hid HR.out
   have HK1 := Lib.hid (show k + 1 ≤ xs.length from hlt)
   generalize xs.getD k 0 = x at HA HC HTK
   have CN := ibyte_ok i r x (xs.drop (k + 1)) w0 wr HA HC.out
   have q1 := small_conv x (HC.out x (List.mem_cons_self ..))
   clear HA hlt hk
   go_wp2_with (first
    | (go_at_call 161; refine CN.mono ?_; rintro e w1 ⟨rfl, hi, hg⟩; have HY := Lib.hid (HRd.out.read hg hi); clear hi hg)
    | (with_reducible (show wpList _ _ _ (Oper.mk _ (Op.call (Call.mk (Callee.builtin Builtin.append) _ _)) _ _ _ _ :: _) _ _); refine pause ?_))
   unfold Paused
   change wpList _ _ _ _ _ (w1.alloc (.cells (u8s [x]) 5))
   have hbb : Below w1.heap.size w1 (w1.alloc (.cells (u8s [x]) 5)) := (Below.refl _ _).alloc (Nat.le_refl _) _
   have HZ := Lib.hid (HY.out.below hbb)
   have HRb : Hid (Rd (w1.alloc (.cells (u8s [x]) 5)) (.slice (some ⟨w1.heap.size, 0, none⟩) 1 1) [x]) := Lib.hid (rd_of_lit w1 [x] _ (by simp))
   clear hbb
   generalize w1.alloc (.cells (u8s [x]) 5) = w2 at HZ HRb ⊢
   generalize w1.heap.size = gs at HRb ⊢
   have HROW : Hid (w2.ownsRow w.heap.size 5 1 u5 (xs.take k).length (cellsB (xs.take k))) := Lib.hid (by rw [HLK.out]; exact HZ.out.row)
   refine wpList_appendB (by rfl) (.tmp 9) (.tmp 13) (by rfl) w.heap.size _ (xs.take k) (by rfl) HROW.out HZ.out.grw.size _ (by rfl) [x] HRb.out (by rw [HLK.out]; simp only [List.length_cons, List.length_nil]; omega) ?_
   intro v2 w3 ho hg
   have HN2 : Hid (NRel xs w0 w w3 i r v2 (k + 1)) := Lib.hid (by
    unfold NRel
    rw [HTK.out]
    have h := ho
    rw [List.length_append, HLK.out] at h
    exact HZ.out.app h hg)
   clear ho hg
   go_wp2
   go_roundw
   case rel => exact ⟨k + 1, HK1.out, by go_num, HN2⟩
   case measure => simp [intOf]; omega
  ·have HA := HR.out.at_
   rw [List.drop_of_length_le (by omega)] at HA
   have CN := ibyte_short i r aS w0 wr HA HS.out
   clear HA
   go_wp2_with (go_at_call 161; refine CN.mono ?_; rintro e w1 ⟨rfl, hd, hg⟩)
   exact ⟨rfl, rfl, hd, only_trans HR.out.grw hg⟩
end Go.Proofs.YtgcgomdhdgjpdaaGreatDoor
