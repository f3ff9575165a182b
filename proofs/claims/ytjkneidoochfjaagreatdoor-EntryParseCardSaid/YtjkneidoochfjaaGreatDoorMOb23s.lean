/- octets.Take of an object whose reading ends by an error. -/
import Derived.Test.YtjkneidoochfjaaGreatDoorMOb18s
import Derived.Test.YtjkneidoochfjaaGreatDoorMOct12s
import Derived.Test.YtjkneidoochfjaaGreatDoorMEn4s
namespace Go.Proofs.YtjkneidoochfjaaGreatDoor
open Go Go.RowKit
theorem wpn {P : Program} {C : Code} {Q : Exit → Act → World → Prop} {a : Act} {w : World} (h : C.wp P (fun e a w => e = .normal ∧ Q .normal a w) a w) : C.wp P Q a w :=
  Code.wp_mono (fun e a w h => by rw [h.1]; exact h.2) h
set_option maxRecDepth 100000 in
set_option maxHeartbeats 1000000 in
theorem takeO_bad (K : Nat) (cap : Array Value) (w0 w : World) (A : Option Addr) (n c : Nat) (xs : List Nat) (ae : Addr) (hK : ∀ args w, (callFunc K args).run Tryz.prog w = .ok (.enter K args) w)
    (hw : Below w0.heap.size w0 w) (hv : Rd w0 (.slice A n c) xs)
    (hread : ∀ (w2 : World) (i r : Nat), w.heap.size ≤ r → w.heap.size ≤ i → InAt w0 w2 i r xs → Below w.heap.size w w2 →
      Calls Tryz.prog K (#[.pointer (some ⟨i, 0, none⟩)] ++ cap) w2 fun e w' => e = .panicked [{ v := stopV r, recovered := false }] ∧ Dead w' r (ev ae) ∧ Kpt (fun b => b = r) w2 w') :
    Calls Tryz.prog 89 #[.slice A n c, .func (.func K) #[] cap] w fun e w' => e = .returned (.tuple #[.agg zOc, ev ae]) ∧ Below w.heap.size w w' := by
  have hmf : ∀ (fn : Fn) (first cap : Array Value) (w : World), (Instr.makeFunc fn first cap).run Tryz.prog w = .ok (.func fn first cap) w := fun _ _ _ _ => rfl
  obtain ⟨u, hu⟩ : ∃ u, u = wzO w := ⟨_, rfl⟩
  have us : u.heap.size = w.heap.size + 2 := by rw [hu]; simp
  have ub : Below w.heap.size w u := hu ▸ ((Below.refl _ _).alloc (Nat.le_refl _) _).alloc (by simp) _
  have hw' : Below w0.heap.size w0 u := below_then hw ub
  have v2 : Blk (runBoxO (takeBox u (.slice A n c)) u.heap.size) (takeBox u (.slice A n c)).heap.size 107 #[.pointer (some ⟨u.heap.size, 0, none⟩)] := ((Blk.new (takeBox u (.slice A n c)) _ _).alloc _).alloc _
  have CR := runO_bad K cap u.heap.size (takeBox u (.slice A n c)) (fun w' => Dead w' u.heap.size (ev ae) ∧ Kpt (fun b => b = u.heap.size) (runBoxO (takeBox u (.slice A n c)) u.heap.size) w') hK
    ((hread (runBoxO (takeBox u (.slice A n c)) u.heap.size) ((takeBox u (.slice A n c)).heap.size + 2) u.heap.size (by omega) (by rw [takeBox_size]; omega) (inAtO_run hw' hv) (ub.trans ((belowO_run u _).mono (by omega)))).mono fun e w' ⟨he, hd, hk⟩ => ⟨he, hk.blk (resO_run u _) (by rw [takeBox_size]; omega), hd, hk⟩)
    (fun a h => (h.2.blk v2 (by rw [takeBox_size]; omega)).cell 0) (fun a b h k => ⟨h.1.grown k, h.2.trans (Kpt.of_below k)⟩)
  have HT : Hid ((((w.alloc (.cells zOc 120)).alloc (.cells zOc 120)).alloc (.cells #[.slice A n c, .bool true, .bool false, .nilIface] 109)).alloc (.cells #[.pointer (some ⟨w.heap.size + 1 + 1, 0, none⟩)] 107) = takeBox u (.slice A n c)) := Lib.hid (by
    show _ = (u.alloc _).alloc (.cells #[.pointer (some ⟨u.heap.size, 0, none⟩)] _)
    rw [us, hu])
  rw [us] at CR
  have HU := Lib.hid hu
  clear hread hw hv hw' v2
  go_enter_defers Tryz.func89, Tryz.ntmps89
  go_wp2_with (go_at_call 102; refine pause ?_)
  unfold Paused
  change Calls _ _ _ ((((w.alloc (.cells zOc 120)).alloc (.cells zOc 120)).alloc (.cells #[.slice A n c, .bool true, .bool false, .nilIface] 109)).alloc (.cells #[.pointer (some ⟨w.heap.size + 1 + 1, 0, none⟩)] 107)) _
  rw [HT.out]
  refine CR.mono ?_
  rintro e w5 ⟨rfl, hd, hk⟩
  have hX : Below w.heap.size w (runBoxO (takeBox u (.slice A n c)) u.heap.size) := ub.trans ((belowO_run u _).mono (by omega))
  have hz4 : Blk u w.heap.size 120 zOc := by rw [HU.out]; exact (Blk.new w 120 zOc).alloc _
  have hz6 : Blk u (w.heap.size + 1) 120 zOc := by
    rw [HU.out]
    have h := Blk.new (w.alloc (.cells zOc 120)) 120 zOc
    rwa [World.size_alloc] at h
  have hXb := belowO_run u (.slice A n c)
  have hvr := varO_run u (.slice A n c)
  rw [us] at hXb hX hvr
  have B4 : Blk w5 w.heap.size 120 zOc := hk.blk (hz4.below hXb (by omega)) (by omega)
  have B6 : Blk w5 (w.heap.size + 1) 120 zOc := hk.blk (hz6.below hXb (by omega)) (by omega)
  have B7 : Blk w5 (w.heap.size + 3) 107 #[.pointer (some ⟨w.heap.size + 2, 0, none⟩)] := hk.blk hvr (by omega)
  obtain ⟨vd, hd⟩ := hd
  have KA : Kpt (fun b => w.heap.size ≤ b) (runBoxO (takeBox u (.slice A n c)) (w.heap.size + 2)) w5 := ⟨hk.os, hk.tape, hk.output, hk.size, fun b hb hn => hk.block b hb (by omega)⟩
  have HB4 := Lib.hid B4
  have HB6 := Lib.hid B6
  have HB7 := Lib.hid B7
  have HBR := Lib.hid hd
  have HKA := Lib.hid KA
  have HXX := Lib.hid hX
  have hm : Tryz.prog.follows .mixedOrders = true := by kernel_rfl
  clear hd hk B4 B6 B7 KA hX hXb hvr hz4 hz6 CR ub us hu
  go_wp2_with (with_reducible (show wpList _ _ _ (Oper.mk _ (Op.store 120 _ _) _ _ _ _ :: _) _ _); refine pause ?_)
  unfold Paused
  change wpList _ _ _ _ _ (w5.alloc (.cells zOc 120))
  refine wpList_store_row (by rfl) 120 (.tmp 8) (.tmp 15) (by rfl) w5.heap.size zOc (by rfl) (by rfl) 120 zOc (Blk.new w5 _ _) (by kernel_rfl) (by rfl) (by kernel_rfl) ?_
  have b6 : Below w5.heap.size w5 ((w5.alloc (.cells zOc 120)).setRow w5.heap.size zOc) := below_row ((Below.refl _ _).alloc (Nat.le_refl _) _) (Nat.le_refl _) _
  have HBB := Lib.hid b6
  generalize (w5.alloc (.cells zOc 120)).setRow w5.heap.size zOc = w6 at b6 HBB ⊢
  have p0 : w6.cell? ⟨w.heap.size + 3, 0, none⟩ = some (.pointer (some ⟨w.heap.size + 2, 0, none⟩)) := (HB7.out.below b6 HB7.out.lt).cell 0
  have p1 : w6.cell? ⟨w.heap.size + 2, 2, none⟩ = some (.bool true) := (HBR.out.below b6 HBR.out.lt).cell 2
  have p2 : w6.cell? ⟨w.heap.size + 2, 3, none⟩ = some (ev ae) := (HBR.out.below b6 HBR.out.lt).cell 3
  have HB46 := Lib.hid (HB4.out.below b6 HB4.out.lt)
  have HB66 := Lib.hid (HB6.out.below b6 HB6.out.lt)
  have HBR6 := Lib.hid (HBR.out.below b6 HBR.out.lt)
  clear b6
  simp only [Act.put]
  go_wp2
  refine wpn ?_
  refine wp_region_held (S := fun w' => w' = w6.drew) hm ?_
  change wpAnyH _ _ _ _ _ _ _ _ w6.drew
  refine wpAnyH_take (i := 0) (v := .agg zOc) rfl (by kernel_rfl) (by kernel_rfl) (by kernel_rfl) (fun _ _ _ h => by cases h.1) (takes_row 120 (.tmp 6) (by rfl) (by rfl) (w.heap.size + 1) (by rfl) 120 zOc _ (fun w' hw => by rw [hw]; exact HB66.out.drew) Tryz.underlying120 (by rfl) (by kernel_rfl)) rfl ?_
  try simp only [Act.put, List.getElem_toArray, List.getElem_cons_zero, List.setIfInBounds_toArray, List.set_cons_zero, List.set_cons_succ]
  refine wpAnyH_take (i := 1) (v := ?_) rfl (by kernel_rfl) (by kernel_rfl) (by kernel_rfl) (fun _ _ _ h => by cases h.1) (Or.inl ⟨by rfl, ?_⟩) rfl ?_
  rotate_left
  · rintro w' rfl; go_simp; with_reducible rfl
  try simp only [Act.put, List.getElem_toArray, List.getElem_cons_zero, List.getElem_cons_succ, List.setIfInBounds_toArray, List.set_cons_zero, List.set_cons_succ]
  refine wpAnyH_take (i := 2) (v := ?_) rfl (by kernel_rfl) (by kernel_rfl) (by kernel_rfl) (fun _ _ _ h => by cases h.1) (Or.inl ⟨by rfl, ?_⟩) rfl ?_
  rotate_left
  · rintro w' rfl; go_simp; with_reducible rfl
  try simp only [Act.put, List.getElem_toArray, List.getElem_cons_zero, List.getElem_cons_succ, List.setIfInBounds_toArray, List.set_cons_zero, List.set_cons_succ]
  refine wpAnyH_take (i := 3) (v := ?_) rfl (by kernel_rfl) (by kernel_rfl) (by kernel_rfl) (fun _ _ _ h => by cases h.1) (Or.inl ⟨by rfl, ?_⟩) rfl ?_
  rotate_left
  · rintro w' rfl; go_simp; with_reducible rfl
  try simp only [Act.put, List.getElem_toArray, List.getElem_cons_zero, List.getElem_cons_succ, List.setIfInBounds_toArray, List.set_cons_zero, List.set_cons_succ]
  refine wpAnyH_take (i := 4) (v := ?_) rfl (by kernel_rfl) (by kernel_rfl) (by kernel_rfl) (fun _ _ _ h => by cases h.1) (Or.inl ⟨by rfl, ?_⟩) rfl ?_
  rotate_left
  · rintro w' rfl; go_simp; with_reducible rfl
  try simp only [Act.put, List.getElem_toArray, List.getElem_cons_zero, List.getElem_cons_succ, List.setIfInBounds_toArray, List.set_cons_zero, List.set_cons_succ]
  refine all_one (i := 5) (by kernel_rfl) rfl (by rfl) (fun K hK => ?_)
  refine wp_store_row 120 (.tmp 4) (.tmp 20) (by rfl) w.heap.size zOc (by rfl) (by rfl) 120 zOc HB46.out.drew (by kernel_rfl) (by rfl) (by kernel_rfl) ?_
  rw [setRow_self w6.drew w.heap.size zOc 120 (0, 0) HB46.out.drew]
  refine hK _ _ rfl ?_
  try simp only [Act.put, List.getElem_toArray, List.getElem_cons_zero, List.getElem_cons_succ]
  refine all_one (i := 6) (by kernel_rfl) rfl (by rfl) (fun K hK => ?_)
  go_simp
  refine hK _ _ rfl ?_
  try simp only [Act.put, List.getElem_toArray, List.getElem_cons_zero, List.getElem_cons_succ, List.setIfInBounds_toArray, List.set_cons_zero, List.set_cons_succ]
  refine wpAnyH_done (by kernel_rfl) ?_ _
  refine ⟨rfl, ?_⟩
  have q0 : w6.drew.cell? ⟨w.heap.size + 3, 0, none⟩ = some (.pointer (some ⟨w.heap.size + 2, 0, none⟩)) := p0
  clear p0 p1 p2
  go_wp2
  refine leaves_cons (f := 101) (args := #[.pointer (some ⟨w.heap.size + 3, 0, none⟩)]) (by simp) (by simp [go_sem]) ?_
  refine (closeO_any (w.heap.size + 3) (w.heap.size + 2) _ _ _ _ w6.drew q0 HBR6.out.drew).mono ?_
  rintro e u' w8 ⟨rfl, rfl, hg8⟩
  have KB : Kpt (fun b => w.heap.size ≤ b) (runBoxO (takeBox u (.slice A n c)) (w.heap.size + 2)) w8 := ((HKA.out.trans (Kpt.of_below HBB.out)).trans (Kpt.of_below (below_drewN (Below.refl _ w6) 1))).trans (Kpt.of_grown hg8 (by omega))
  have hbl : Below w.heap.size w w8 := HXX.out.trans ⟨KB.os, KB.tape, KB.output, KB.size, fun k hk => KB.block k (Nat.lt_of_lt_of_le hk HXX.out.size) (by omega)⟩
  exact ⟨_, resultsO2 (t := 4) (s := 5) rfl (by rfl) (HB46.out.drew.grown hg8 (fun e => by injection e with e; omega)) (by rfl), rfl, hbl⟩
end Go.Proofs.YtjkneidoochfjaaGreatDoor
/- octets.Take of an object: bytes left behind it. -/
namespace Go.Proofs.YtjkneidoochfjaaGreatDoor
open Go Go.RowKit
end Go.Proofs.YtjkneidoochfjaaGreatDoor
/- octets.run of an entry, whatever reads it: its result lies in a variable. -/
namespace Go.Proofs.YtjkneidoochfjaaGreatDoor
open Go Go.RowKit
/-- no entry -/
def zE : Array Value := #[.int .i64 0, .int .i64 0, .int .i64 0, .slice none 0 0, .slice none 0 0]
/-- the world in which the function that reads is called: run's variable, its result, the In -/
abbrev runBoxE (w : World) (r : Nat) : World := ((w.alloc (.cells #[.pointer (some ⟨r, 0, none⟩)] 107)).alloc (.cells zE 25)).alloc (.cells #[.pointer (some ⟨r, 0, none⟩)] 144)
theorem resultsE {fn : Func} {t : Tmp} (hr : fn.results = #[.cell t 25]) {tmps : Array Value} {W : World} {g : Nat} {cs : Array Value} (h4 : tmps.getD t undef = .pointer (some ⟨g, 0, none⟩)) (hb : Blk W g 25 cs) (hs : cs.size = 5) :
    (results fn tmps).run Tryz.prog W = .ok (.agg cs) W := by
  have hl : (loadVar 25 ⟨g, 0, none⟩).run Tryz.prog W = .ok (.agg cs) W := run_loadVar_row W g 25 25 cs (0, 0) _ hb Tryz.underlying25 (by rfl) (by rw [hs]; kernel_rfl)
  simp only [Array.getD_eq_getD_getElem?] at h4
  simp [results, hr, h4, asAddr, hl]
theorem catchE_idle (q : Nat) (w : World) :
    CallsD Tryz.prog 83 #[.pointer (some ⟨q, 0, none⟩)] .returning w fun e u' w' => e = .returned (.tuple #[]) ∧ u' = .returning ∧ w' = w := by
  refine callsD_of_wpS Tryz.func83 rfl fun c₀ cs hu => ?_
  apply wpS_seq
  apply wpS_region
  simp [wpOpsS, go_sem, recoverD, hu, Tryz.ntmps83, Exit.thenS]
  rw [slots17]
  refine wpS_of_wp ?_
  go_wp2
  exact ⟨rfl, _, by rw [← hu], _, results_none rfl _ _ _, rfl, rfl, rfl⟩
set_option maxRecDepth 100000 in
theorem catchE_stop (q r : Nat) (older : List PanicEntry) (w : World) (hq : w.cell? ⟨q, 0, none⟩ = some (.pointer (some ⟨r, 0, none⟩))) :
    CallsD Tryz.prog 83 #[.pointer (some ⟨q, 0, none⟩)] (.panicking ({ v := stopV r, recovered := false } :: older)) w fun e u' w' =>
      e = .returned (.tuple #[]) ∧ u' = .panicking ({ v := stopV r, recovered := true } :: older) ∧ Below w.heap.size w w' := by
  refine callsD_of_wpS Tryz.func83 rfl fun c₀ cs hu => ?_
  apply wpS_seq
  apply wpS_region
  simp [wpOpsS, go_sem, recoverD, hu, Tryz.ntmps83, Exit.thenS]
  rw [slots17]
  refine wpS_of_wp ?_
  have h1 := stop_eql r
  have h2 := stop_assert r
  have h3 := stop_neq r
  have hb : Hid (Below w.heap.size w (w.alloc (.cells #[.pointer (some ⟨r, 0, none⟩)] 142))) := Lib.hid ((Below.refl _ _).alloc (Nat.le_refl _) _)
  have hq2 : (w.alloc (.cells #[.pointer (some ⟨r, 0, none⟩)] 142)).cell? ⟨q, 0, none⟩ = some (.pointer (some ⟨r, 0, none⟩)) := (hb.out.cell (p := ⟨q, 0, none⟩) (block_lt_of_cell hq)).trans hq
  go_wp2
  refine ⟨rfl, .panicking ({ v := stopV r, recovered := true } :: older), rfl, .tuple #[], ?_, rfl, rfl, hb.out⟩
  exact results_none rfl _ _ _
theorem closeE_any (q r : Nat) (v0 v1 v2 v3 : Value) (w : World) (hq : w.cell? ⟨q, 0, none⟩ = some (.pointer (some ⟨r, 0, none⟩))) (hr : Blk w r 109 #[v0, v1, v2, v3]) :
    CallsD Tryz.prog 57 #[.pointer (some ⟨q, 0, none⟩)] .returning w fun e u' w' => u' = .returning ∧ (e = .returned (.tuple #[]) ∧ w.grownBy w' (some r)) := by
  have HG : Hid (w.grownBy ((((w.setCell ⟨r, 0, none⟩ (.slice none 0 0)).setCell ⟨r, 1, none⟩ (.bool false)).setCell ⟨r, 2, none⟩ (.bool false)).setCell ⟨r, 3, none⟩ .nilIface) (some r)) := Lib.hid (only_setCell (p := ⟨r, 3, none⟩) (only_setCell (p := ⟨r, 2, none⟩) (only_setCell (p := ⟨r, 1, none⟩) (only_setCell (p := ⟨r, 0, none⟩) (World.grownBy.refl w (some r)) (Or.inl rfl) _) (Or.inl rfl) _) (Or.inl rfl) _) (Or.inl rfl) _)
  have c0 : w.cell? ⟨r, 0, none⟩ = some v0 := hr.cell 0
  have c1 : w.cell? ⟨r, 1, none⟩ = some v1 := hr.cell 1
  have c2 : w.cell? ⟨r, 2, none⟩ = some v2 := hr.cell 2
  have c3 : w.cell? ⟨r, 3, none⟩ = some v3 := hr.cell 3
  have z0 := hr.frozen 0
  have z1 := hr.frozen 1
  have z2 := hr.frozen 2
  have z3 := hr.frozen 3
  clear hr
  go_enter_d Tryz.func57, Tryz.ntmps57
  go_wp2
  go_end0
  exact ⟨rfl, HG.out⟩
theorem runE_ok (K : Nat) (cap : Array Value) (r : Nat) (w : World) (R : Array Value → World → Prop) (hK : ∀ args w, (callFunc K args).run Tryz.prog w = .ok (.enter K args) w)
    (hread : Calls Tryz.prog K (#[.pointer (some ⟨w.heap.size + 2, 0, none⟩)] ++ cap) (runBoxE w r) fun e w' => ∃ cs, e = .returned (.agg cs) ∧ cs.size = 5 ∧ cs.all (·.oneCell') = true ∧ Blk w' (w.heap.size + 1) 25 zE ∧ R cs w')
    (hR : ∀ cs a b, R cs a → a.grownBy b (some (w.heap.size + 1)) → R cs b) :
    Calls Tryz.prog 58 #[.pointer (some ⟨r, 0, none⟩), .func (.func K) #[] cap] w fun e w' => ∃ cs, e = .returned (.agg cs) ∧ cs.size = 5 ∧ R cs w' := by
  have hmf : ∀ (fn : Fn) (first cap : Array Value) (w : World), (Instr.makeFunc fn first cap).run Tryz.prog w = .ok (.func fn first cap) w := fun _ _ _ _ => rfl
  go_enter_defers Tryz.func58, Tryz.ntmps58
  go_wp2_with (refine hread.mono ?_; rintro e w1 ⟨cs, rfl, hs, h1, hb, hr⟩; have HR := Lib.hid hr; have HB := Lib.hid hb; have HS := Lib.hid hs; have HO := Lib.hid h1; clear hr hb hs h1; refine pause ?_)
  unfold Paused
  go_wp2_with (with_reducible (show wpList _ _ _ (Oper.mk _ (Op.store 25 _ _) _ _ _ _ :: _) _ _); refine pause ?_)
  unfold Paused
  refine wpList_store_row (by rfl) 25 (.tmp 4) (.tmp 10) (by rfl) (w.heap.size + 1) cs (by rfl) (by rfl) 25 zE HB.out (by rw [HS.out]; kernel_rfl) (by rw [HS.out]; rfl) HO.out ?_
  have HB2 := Lib.hid (HB.out.row cs)
  have HG := Lib.hid (show w1.grownBy (w1.setRow (w.heap.size + 1) cs) (some (w.heap.size + 1)) from ⟨rfl, rfl, rfl, by simp, fun k _ hk => setRow_other w1 _ k _ (fun e => hk (by rw [e]))⟩)
  generalize w1.setRow (w.heap.size + 1) cs = w2 at HB2 HG ⊢
  go_wp2
  refine leaves_cons (f := 83) (args := #[.pointer (some ⟨w.heap.size, 0, none⟩)]) (by simp) (by simp [go_sem]) ?_
  refine (catchE_idle w.heap.size _).mono ?_
  rintro e u' w'' ⟨rfl, rfl, rfl⟩
  refine ⟨_, resultsE (t := 4) rfl (by rfl) HB2.out HS.out, ?_⟩
  exact ⟨cs, rfl, HS.out, hR _ _ _ HR.out HG.out⟩
theorem runE_bad (K : Nat) (cap : Array Value) (r : Nat) (w : World) (R : World → Prop) (hK : ∀ args w, (callFunc K args).run Tryz.prog w = .ok (.enter K args) w)
    (hread : Calls Tryz.prog K (#[.pointer (some ⟨w.heap.size + 2, 0, none⟩)] ++ cap) (runBoxE w r) fun e w' => e = .panicked [{ v := stopV r, recovered := false }] ∧ Blk w' (w.heap.size + 1) 25 zE ∧ R w')
    (hq : ∀ a, R a → a.cell? ⟨w.heap.size, 0, none⟩ = some (.pointer (some ⟨r, 0, none⟩))) (hR : ∀ a b, R a → Below a.heap.size a b → R b) :
    Calls Tryz.prog 58 #[.pointer (some ⟨r, 0, none⟩), .func (.func K) #[] cap] w fun e w' => e = .returned (.agg zE) ∧ R w' := by
  have hmf : ∀ (fn : Fn) (first cap : Array Value) (w : World), (Instr.makeFunc fn first cap).run Tryz.prog w = .ok (.func fn first cap) w := fun _ _ _ _ => rfl
  go_enter_defers Tryz.func58, Tryz.ntmps58
  go_wp2_with (refine hread.mono ?_; rintro e w1 ⟨rfl, hb, hr⟩; have HR := Lib.hid hr; have HB := Lib.hid hb; clear hr hb)
  refine leaves_cons (f := 83) (args := #[.pointer (some ⟨w.heap.size, 0, none⟩)]) (by simp) (by simp [go_sem]) ?_
  refine (catchE_stop w.heap.size r [] _ (hq _ HR.out)).mono ?_
  rintro e u' w'' ⟨rfl, rfl, hb⟩
  exact ⟨_, resultsE (t := 4) rfl (by rfl) (HB.out.below hb HB.out.lt) (by rfl), rfl, hR _ _ HR.out hb⟩
end Go.Proofs.YtjkneidoochfjaaGreatDoor
/- octets.Take of an entry, whatever reads it. -/
namespace Go.Proofs.YtjkneidoochfjaaGreatDoor
open Go Go.RowKit
theorem belowE_run (u : World) (v : Value) : Below u.heap.size u (runBoxE (takeBox u v) u.heap.size) :=
  (((((Below.refl _ _).alloc (Nat.le_refl _) _).alloc (by simp) _).alloc (by simp <;> omega) _).alloc (by simp <;> omega) _).alloc (by simp <;> omega) _
theorem inAtE_run {w0 u : World} {v : Value} {xs : List Nat} (hw : Below w0.heap.size w0 u) (hv : Rd w0 v xs) : InAt w0 (runBoxE (takeBox u v) u.heap.size) ((takeBox u v).heap.size + 2) u.heap.size xs := by
  refine ⟨v, ⟨?_, ?_, ?_⟩, hv, below_then hw (belowE_run u v), hw.size, ?_⟩
  · have h := Blk.new (((takeBox u v).alloc (.cells #[.pointer (some ⟨u.heap.size, 0, none⟩)] 107)).alloc (.cells zE 25)) 144 #[.pointer (some ⟨u.heap.size, 0, none⟩)]
    rwa [show (((takeBox u v).alloc (.cells #[.pointer (some ⟨u.heap.size, 0, none⟩)] 107)).alloc (.cells zE 25)).heap.size = (takeBox u v).heap.size + 2 by simp] at h
  · exact ((((Blk.new u _ _).alloc _).alloc _).alloc _).alloc _
  · rw [takeBox_size]; omega
  · rw [takeBox_size]; have := hw.size; omega
theorem varE_run (u : World) (v : Value) : Blk (runBoxE (takeBox u v) u.heap.size) (u.heap.size + 1) 107 #[.pointer (some ⟨u.heap.size, 0, none⟩)] := by
  have h := Blk.new (u.alloc (.cells #[v, .bool true, .bool false, .nilIface] 109)) 107 #[.pointer (some ⟨u.heap.size, 0, none⟩)]
  rw [show (u.alloc (.cells #[v, .bool true, .bool false, .nilIface] 109)).heap.size = u.heap.size + 1 by simp] at h
  exact ((h.alloc _).alloc _).alloc _
theorem resE_run (u : World) (v : Value) : Blk (runBoxE (takeBox u v) u.heap.size) ((takeBox u v).heap.size + 1) 25 zE := by
  have h := Blk.new ((takeBox u v).alloc (.cells #[.pointer (some ⟨u.heap.size, 0, none⟩)] 107)) 25 zE
  rw [World.size_alloc] at h
  exact h.alloc _
/-- Take's two variables of an entry -/
abbrev wzE (w : World) : World := (w.alloc (.cells zE 25)).alloc (.cells zE 25)
theorem resultsE2 {fn : Func} {t s : Tmp} (hr : fn.results = #[.cell t 25, .tmp s]) {tmps : Array Value} {W : World} {g : Nat} {cs : Array Value} (h4 : tmps.getD t undef = .pointer (some ⟨g, 0, none⟩)) (hb : Blk W g 25 cs) (hs : cs.size = 5) :
    (results fn tmps).run Tryz.prog W = .ok (.tuple #[.agg cs, tmps.getD s undef]) W := by
  have hl : (loadVar 25 ⟨g, 0, none⟩).run Tryz.prog W = .ok (.agg cs) W := run_loadVar_row W g 25 25 cs (0, 0) _ hb Tryz.underlying25 (by rfl) (by rw [hs]; kernel_rfl)
  simp only [Array.getD_eq_getD_getElem?] at h4 ⊢
  simp [results, hr, h4, asAddr, hl]
set_option maxRecDepth 100000 in
set_option maxHeartbeats 1000000 in
theorem takeE_ok (K : Nat) (cap : Array Value) (w0 w : World) (A : Option Addr) (n c : Nat) (xs : List Nat) (R : Nat → Array Value → World → Prop) (hK : ∀ args w, (callFunc K args).run Tryz.prog w = .ok (.enter K args) w)
    (hw : Below w0.heap.size w0 w) (hv : Rd w0 (.slice A n c) xs)
    (hread : ∀ (w2 : World) (i r : Nat), w.heap.size ≤ r → w.heap.size ≤ i → InAt w0 w2 i r xs → Below w.heap.size w w2 →
      Calls Tryz.prog K (#[.pointer (some ⟨i, 0, none⟩)] ++ cap) w2 fun e w' => ∃ cs, e = .returned (.agg cs) ∧ cs.size = 5 ∧ cs.all (·.oneCell') = true ∧ InAt w0 w' i r [] ∧ Kpt (fun b => b = r) w2 w' ∧ R w2.heap.size cs w')
    (hR : ∀ m cs a b, R m cs a → Kpt (fun b => b < m) a b → R m cs b) :
    Calls Tryz.prog 30 #[.slice A n c, .func (.func K) #[] cap] w fun e w' => ∃ cs m, e = .returned (.tuple #[.agg cs, .nilIface]) ∧ cs.size = 5 ∧ w.heap.size ≤ m ∧ R m cs w' ∧ Below w.heap.size w w' := by
  have hmf : ∀ (fn : Fn) (first cap : Array Value) (w : World), (Instr.makeFunc fn first cap).run Tryz.prog w = .ok (.func fn first cap) w := fun _ _ _ _ => rfl
  obtain ⟨u, hu⟩ : ∃ u, u = wzE w := ⟨_, rfl⟩
  have us : u.heap.size = w.heap.size + 2 := by rw [hu]; simp
  have ub : Below w.heap.size w u := hu ▸ ((Below.refl _ _).alloc (Nat.le_refl _) _).alloc (by simp) _
  have hw' : Below w0.heap.size w0 u := below_then hw ub
  have CR := runE_ok K cap u.heap.size (takeBox u (.slice A n c)) (fun cs w' => ∃ w1, InAt w0 w1 ((takeBox u (.slice A n c)).heap.size + 2) u.heap.size [] ∧ Kpt (fun b => b = u.heap.size) (runBoxE (takeBox u (.slice A n c)) u.heap.size) w1 ∧ R (runBoxE (takeBox u (.slice A n c)) u.heap.size).heap.size cs w1 ∧ cs.all (·.oneCell') = true ∧ w1.grownBy w' (some ((takeBox u (.slice A n c)).heap.size + 1))) hK
    ((hread (runBoxE (takeBox u (.slice A n c)) u.heap.size) ((takeBox u (.slice A n c)).heap.size + 2) u.heap.size (by omega) (by rw [takeBox_size]; omega) (inAtE_run hw' hv) (ub.trans ((belowE_run u _).mono (by omega)))).mono fun e w' ⟨cs, he, hs, h1, hi, hk, hr⟩ => ⟨cs, he, hs, h1, hk.blk (resE_run u _) (by rw [takeBox_size]; omega), w', hi, hk, hr, h1, World.grownBy.refl _ _⟩)
    (fun cs a b ⟨w1, h1, h2, h3, h4, h5⟩ hg => ⟨w1, h1, h2, h3, h4, only_trans h5 hg⟩)
  have HT : Hid ((((w.alloc (.cells zE 25)).alloc (.cells zE 25)).alloc (.cells #[.slice A n c, .bool true, .bool false, .nilIface] 109)).alloc (.cells #[.pointer (some ⟨w.heap.size + 1 + 1, 0, none⟩)] 107) = takeBox u (.slice A n c)) := Lib.hid (by
    show _ = (u.alloc _).alloc (.cells #[.pointer (some ⟨u.heap.size, 0, none⟩)] _)
    rw [us, hu])
  rw [us] at CR
  have HU := Lib.hid hu
  have HRR := Lib.hid hR
  clear hread hR hw hv hw'
  go_enter_defers Tryz.func30, Tryz.ntmps30
  go_wp2_with (go_at_call 58; refine pause ?_)
  unfold Paused
  change Calls _ _ _ ((((w.alloc (.cells zE 25)).alloc (.cells zE 25)).alloc (.cells #[.slice A n c, .bool true, .bool false, .nilIface] 109)).alloc (.cells #[.pointer (some ⟨w.heap.size + 1 + 1, 0, none⟩)] 107)) _
  rw [HT.out]
  refine CR.mono ?_
  rintro e w5 ⟨cs, rfl, hs, wA, hi, hk, hr, h1, hg⟩
  have hX : Below w.heap.size w (runBoxE (takeBox u (.slice A n c)) u.heap.size) := ub.trans ((belowE_run u _).mono (by omega))
  have hz4 : Blk u w.heap.size 25 zE := by rw [HU.out]; exact (Blk.new w 25 zE).alloc _
  have gne : ∀ k, k < w.heap.size + 4 → k ≠ (takeBox u (.slice A n c)).heap.size + 1 := fun k hk => by rw [takeBox_size]; omega
  have hgA : ∀ k (T : TypeId) (C : Array Value), k < w.heap.size + 4 → k ≠ w.heap.size + 2 → Blk (runBoxE (takeBox u (.slice A n c)) (w.heap.size + 2)) k T C → Blk w5 k T C := fun k T C hk1 hk2 hb => (hk.blk hb (by omega)).grown hg (fun e => gne k hk1 (by injection e))
  have hXb := belowE_run u (.slice A n c)
  rw [us] at hXb hX
  have B4 : Blk w5 w.heap.size 25 zE := hgA _ _ _ (by omega) (by omega) (hz4.below hXb (by omega))
  have B7 : Blk w5 (w.heap.size + 3) 107 #[.pointer (some ⟨w.heap.size + 2, 0, none⟩)] := hgA _ _ _ (by omega) (by omega) (by have h := varE_run u (.slice A n c); rw [us] at h; exact h)
  obtain ⟨vz, hz, ⟨Az, cz, rfl, _, _⟩, _⟩ := hi
  have BR : Blk w5 (w.heap.size + 2) 109 #[.slice Az 0 cz, .bool true, .bool false, .nilIface] := Blk.grown hz.r_ hg (fun e => gne (w.heap.size + 2) (by omega) (by injection e))
  have KA : Kpt (fun b => w.heap.size ≤ b) (runBoxE (takeBox u (.slice A n c)) (w.heap.size + 2)) w5 := ⟨hg.os.trans hk.os, hg.tape.trans hk.tape, hg.output.trans hk.output, Nat.le_trans hk.size hg.size, fun b hb hn => (hg.block b (Nat.lt_of_lt_of_le hb hk.size) (fun e => by injection e with e; rw [takeBox_size, us] at e; omega)).trans (hk.block b hb (by omega))⟩
  have sz5 : w.heap.size + 7 ≤ w5.heap.size := Nat.le_trans (by simp [us]) KA.size
  have HS := Lib.hid hs
  have H1 := Lib.hid h1
  have HRA := Lib.hid hr
  have HHK := Lib.hid hk
  have HHG := Lib.hid hg
  have HB4 := Lib.hid B4
  have HB7 := Lib.hid B7
  have HBR := Lib.hid BR
  have HKA := Lib.hid KA
  have HXX := Lib.hid hX
  have HSZ := Lib.hid sz5
  have HUS := Lib.hid us
  clear hs h1 hr hk hg B4 B7 BR KA hX hXb hz hgA gne hz4 CR ub us sz5 hu
  go_wp2_with (with_reducible (show wpList _ _ _ (Oper.mk _ (Op.store 25 _ _) _ _ _ _ :: _) _ _); refine pause ?_)
  unfold Paused
  change wpList _ _ _ _ _ (w5.alloc (.cells zE 25))
  refine wpList_store_row (by rfl) 25 (.tmp 8) (.tmp 15) (by rfl) w5.heap.size cs (by rfl) (by rfl) 25 zE (Blk.new w5 _ _) (by rw [HS.out]; kernel_rfl) (by rw [HS.out]; rfl) H1.out ?_
  have b6 : Below w5.heap.size w5 ((w5.alloc (.cells zE 25)).setRow w5.heap.size cs) := below_row ((Below.refl _ _).alloc (Nat.le_refl _) _) (Nat.le_refl _) _
  have HB6 := Lib.hid b6
  have HB8 := Lib.hid ((Blk.new w5 25 zE).row cs)
  generalize (w5.alloc (.cells zE 25)).setRow w5.heap.size cs = w6 at b6 HB6 HB8 ⊢
  have p0 : w6.cell? ⟨w.heap.size + 3, 0, none⟩ = some (.pointer (some ⟨w.heap.size + 2, 0, none⟩)) := (HB7.out.below b6 HB7.out.lt).cell 0
  have p1 : w6.cell? ⟨w.heap.size + 2, 2, none⟩ = some (.bool false) := (HBR.out.below b6 HBR.out.lt).cell 2
  have p2 : w6.cell? ⟨w.heap.size + 2, 0, none⟩ = some (.slice Az 0 cz) := (HBR.out.below b6 HBR.out.lt).cell 0
  have HB46 := Lib.hid (HB4.out.below b6 HB4.out.lt)
  have HBR6 := Lib.hid (HBR.out.below b6 HBR.out.lt)
  have HP0 := Lib.hid p0
  obtain ⟨g8, hg8⟩ : ∃ g, g = w5.heap.size := ⟨_, rfl⟩
  have hg8l : w.heap.size + 7 ≤ g8 := by rw [hg8]; exact HSZ.out
  rw [← hg8] at HB8 ⊢
  have HG8 := Lib.hid hg8
  clear b6 hg8
  simp only [Act.put]
  go_wp2_with (with_reducible (show wpList _ _ _ (Oper.mk _ (Op.load 25 _) _ _ _ _ :: _) _ _); refine pause ?_)
  unfold Paused
  refine wpList_row_w (by rfl) 25 (.tmp 8) (by rfl) g8 (by rfl) 25 cs _ HB8.out Tryz.underlying25 (by rfl) (by rw [HS.out]; kernel_rfl) ?_
  go_wp2_with (with_reducible (show wpList _ _ _ (Oper.mk _ (Op.store 25 _ _) _ _ _ _ :: _) _ _); refine pause ?_)
  unfold Paused
  refine wpList_store_row (by rfl) 25 (.tmp 4) (.tmp 33) (by rfl) w.heap.size cs (by rfl) (by rfl) 25 zE HB46.out (by rw [HS.out]; kernel_rfl) (by rw [HS.out]; rfl) H1.out ?_
  have HB4c := Lib.hid (HB46.out.row cs)
  have HG7 := Lib.hid (show w6.grownBy (w6.setRow w.heap.size cs) (some w.heap.size) from ⟨rfl, rfl, rfl, by simp, fun k _ hk => setRow_other w6 _ k _ (fun e => hk (by rw [e]))⟩)
  have HBR7 := Lib.hid (HBR6.out.grown HG7.out (fun e => by injection e with e; omega))
  have q0 : (w6.setRow w.heap.size cs).cell? ⟨w.heap.size + 3, 0, none⟩ = some (.pointer (some ⟨w.heap.size + 2, 0, none⟩)) := ((HB7.out.below HB6.out HB7.out.lt).grown HG7.out (fun e => by injection e with e; omega)).cell 0
  generalize w6.setRow w.heap.size cs = w7 at HB4c HG7 HBR7 q0 ⊢
  clear p0 p1 p2 HP0
  go_wp2
  refine leaves_cons (f := 57) (args := #[.pointer (some ⟨w.heap.size + 3, 0, none⟩)]) (by simp) (by simp [go_sem]) ?_
  refine (closeE_any (w.heap.size + 3) (w.heap.size + 2) _ _ _ _ w7 q0 HBR7.out).mono ?_
  rintro e u' w8 ⟨rfl, rfl, hg8'⟩
  have K8 : Kpt (fun b => b < (runBoxE (takeBox u (.slice A n c)) (w.heap.size + 2)).heap.size) wA w8 := by
    have sz : w.heap.size + 7 ≤ (runBoxE (takeBox u (.slice A n c)) (w.heap.size + 2)).heap.size := by simp [HUS.out]
    have k1 : Kpt (fun b => b < (runBoxE (takeBox u (.slice A n c)) (w.heap.size + 2)).heap.size) wA w5 := Kpt.of_grown HHG.out (by rw [takeBox_size, HUS.out]; omega)
    exact ((k1.trans (Kpt.of_below HB6.out)).trans (Kpt.of_grown HG7.out (by omega))).trans (Kpt.of_grown hg8' (by omega))
  have KB : Kpt (fun b => w.heap.size ≤ b) (runBoxE (takeBox u (.slice A n c)) (w.heap.size + 2)) w8 := ((HKA.out.trans (Kpt.of_below HB6.out)).trans (Kpt.of_grown HG7.out (Nat.le_refl _))).trans (Kpt.of_grown hg8' (by omega))
  have hbl : Below w.heap.size w w8 := HXX.out.trans ⟨KB.os, KB.tape, KB.output, KB.size, fun k hk => KB.block k (Nat.lt_of_lt_of_le hk HXX.out.size) (by omega)⟩
  refine ⟨_, resultsE2 (t := 4) (s := 5) rfl (by rfl) (HB4c.out.grown hg8' (fun e => by injection e with e; omega)) HS.out, ?_⟩
  exact ⟨cs, _, rfl, HS.out, by simp [HUS.out]; omega, HRR.out _ _ _ _ HRA.out K8, hbl⟩
end Go.Proofs.YtjkneidoochfjaaGreatDoor
/- octets.Take of an entry whose reading ends by an error. -/
namespace Go.Proofs.YtjkneidoochfjaaGreatDoor
open Go Go.RowKit
set_option maxRecDepth 100000 in
set_option maxHeartbeats 1000000 in
theorem takeE_bad (K : Nat) (cap : Array Value) (w0 w : World) (A : Option Addr) (n c : Nat) (xs : List Nat) (ae : Addr) (hK : ∀ args w, (callFunc K args).run Tryz.prog w = .ok (.enter K args) w)
    (hw : Below w0.heap.size w0 w) (hv : Rd w0 (.slice A n c) xs)
    (hread : ∀ (w2 : World) (i r : Nat), w.heap.size ≤ r → w.heap.size ≤ i → InAt w0 w2 i r xs → Below w.heap.size w w2 →
      Calls Tryz.prog K (#[.pointer (some ⟨i, 0, none⟩)] ++ cap) w2 fun e w' => e = .panicked [{ v := stopV r, recovered := false }] ∧ Dead w' r (ev ae) ∧ Kpt (fun b => b = r) w2 w') :
    Calls Tryz.prog 30 #[.slice A n c, .func (.func K) #[] cap] w fun e w' => e = .returned (.tuple #[.agg zE, ev ae]) ∧ Below w.heap.size w w' := by
  have hmf : ∀ (fn : Fn) (first cap : Array Value) (w : World), (Instr.makeFunc fn first cap).run Tryz.prog w = .ok (.func fn first cap) w := fun _ _ _ _ => rfl
  obtain ⟨u, hu⟩ : ∃ u, u = wzE w := ⟨_, rfl⟩
  have us : u.heap.size = w.heap.size + 2 := by rw [hu]; simp
  have ub : Below w.heap.size w u := hu ▸ ((Below.refl _ _).alloc (Nat.le_refl _) _).alloc (by simp) _
  have hw' : Below w0.heap.size w0 u := below_then hw ub
  have v2 : Blk (runBoxE (takeBox u (.slice A n c)) u.heap.size) (takeBox u (.slice A n c)).heap.size 107 #[.pointer (some ⟨u.heap.size, 0, none⟩)] := ((Blk.new (takeBox u (.slice A n c)) _ _).alloc _).alloc _
  have CR := runE_bad K cap u.heap.size (takeBox u (.slice A n c)) (fun w' => Dead w' u.heap.size (ev ae) ∧ Kpt (fun b => b = u.heap.size) (runBoxE (takeBox u (.slice A n c)) u.heap.size) w') hK
    ((hread (runBoxE (takeBox u (.slice A n c)) u.heap.size) ((takeBox u (.slice A n c)).heap.size + 2) u.heap.size (by omega) (by rw [takeBox_size]; omega) (inAtE_run hw' hv) (ub.trans ((belowE_run u _).mono (by omega)))).mono fun e w' ⟨he, hd, hk⟩ => ⟨he, hk.blk (resE_run u _) (by rw [takeBox_size]; omega), hd, hk⟩)
    (fun a h => (h.2.blk v2 (by rw [takeBox_size]; omega)).cell 0) (fun a b h k => ⟨h.1.grown k, h.2.trans (Kpt.of_below k)⟩)
  have HT : Hid ((((w.alloc (.cells zE 25)).alloc (.cells zE 25)).alloc (.cells #[.slice A n c, .bool true, .bool false, .nilIface] 109)).alloc (.cells #[.pointer (some ⟨w.heap.size + 1 + 1, 0, none⟩)] 107) = takeBox u (.slice A n c)) := Lib.hid (by
    show _ = (u.alloc _).alloc (.cells #[.pointer (some ⟨u.heap.size, 0, none⟩)] _)
    rw [us, hu])
  rw [us] at CR
  have HU := Lib.hid hu
  clear hread hw hv hw' v2
  go_enter_defers Tryz.func30, Tryz.ntmps30
  go_wp2_with (go_at_call 58; refine pause ?_)
  unfold Paused
  change Calls _ _ _ ((((w.alloc (.cells zE 25)).alloc (.cells zE 25)).alloc (.cells #[.slice A n c, .bool true, .bool false, .nilIface] 109)).alloc (.cells #[.pointer (some ⟨w.heap.size + 1 + 1, 0, none⟩)] 107)) _
  rw [HT.out]
  refine CR.mono ?_
  rintro e w5 ⟨rfl, hd, hk⟩
  have hX : Below w.heap.size w (runBoxE (takeBox u (.slice A n c)) u.heap.size) := ub.trans ((belowE_run u _).mono (by omega))
  have hz4 : Blk u w.heap.size 25 zE := by rw [HU.out]; exact (Blk.new w 25 zE).alloc _
  have hz6 : Blk u (w.heap.size + 1) 25 zE := by
    rw [HU.out]
    have h := Blk.new (w.alloc (.cells zE 25)) 25 zE
    rwa [World.size_alloc] at h
  have hXb := belowE_run u (.slice A n c)
  have hvr := varE_run u (.slice A n c)
  rw [us] at hXb hX hvr
  have B4 : Blk w5 w.heap.size 25 zE := hk.blk (hz4.below hXb (by omega)) (by omega)
  have B6 : Blk w5 (w.heap.size + 1) 25 zE := hk.blk (hz6.below hXb (by omega)) (by omega)
  have B7 : Blk w5 (w.heap.size + 3) 107 #[.pointer (some ⟨w.heap.size + 2, 0, none⟩)] := hk.blk hvr (by omega)
  obtain ⟨vd, hd⟩ := hd
  have KA : Kpt (fun b => w.heap.size ≤ b) (runBoxE (takeBox u (.slice A n c)) (w.heap.size + 2)) w5 := ⟨hk.os, hk.tape, hk.output, hk.size, fun b hb hn => hk.block b hb (by omega)⟩
  have HB4 := Lib.hid B4
  have HB6 := Lib.hid B6
  have HB7 := Lib.hid B7
  have HBR := Lib.hid hd
  have HKA := Lib.hid KA
  have HXX := Lib.hid hX
  have hm : Tryz.prog.follows .mixedOrders = true := by kernel_rfl
  clear hd hk B4 B6 B7 KA hX hXb hvr hz4 hz6 CR ub us hu
  go_wp2_with (with_reducible (show wpList _ _ _ (Oper.mk _ (Op.store 25 _ _) _ _ _ _ :: _) _ _); refine pause ?_)
  unfold Paused
  change wpList _ _ _ _ _ (w5.alloc (.cells zE 25))
  refine wpList_store_row (by rfl) 25 (.tmp 8) (.tmp 15) (by rfl) w5.heap.size zE (by rfl) (by rfl) 25 zE (Blk.new w5 _ _) (by kernel_rfl) (by rfl) (by kernel_rfl) ?_
  have b6 : Below w5.heap.size w5 ((w5.alloc (.cells zE 25)).setRow w5.heap.size zE) := below_row ((Below.refl _ _).alloc (Nat.le_refl _) _) (Nat.le_refl _) _
  have HBB := Lib.hid b6
  generalize (w5.alloc (.cells zE 25)).setRow w5.heap.size zE = w6 at b6 HBB ⊢
  have p0 : w6.cell? ⟨w.heap.size + 3, 0, none⟩ = some (.pointer (some ⟨w.heap.size + 2, 0, none⟩)) := (HB7.out.below b6 HB7.out.lt).cell 0
  have p1 : w6.cell? ⟨w.heap.size + 2, 2, none⟩ = some (.bool true) := (HBR.out.below b6 HBR.out.lt).cell 2
  have p2 : w6.cell? ⟨w.heap.size + 2, 3, none⟩ = some (ev ae) := (HBR.out.below b6 HBR.out.lt).cell 3
  have HB46 := Lib.hid (HB4.out.below b6 HB4.out.lt)
  have HB66 := Lib.hid (HB6.out.below b6 HB6.out.lt)
  have HBR6 := Lib.hid (HBR.out.below b6 HBR.out.lt)
  clear b6
  simp only [Act.put]
  go_wp2
  refine wpn ?_
  refine wp_region_held (S := fun w' => w' = w6.drew) hm ?_
  change wpAnyH _ _ _ _ _ _ _ _ w6.drew
  refine wpAnyH_take (i := 0) (v := .agg zE) rfl (by kernel_rfl) (by kernel_rfl) (by kernel_rfl) (fun _ _ _ h => by cases h.1) (takes_row 25 (.tmp 6) (by rfl) (by rfl) (w.heap.size + 1) (by rfl) 25 zE _ (fun w' hw => by rw [hw]; exact HB66.out.drew) Tryz.underlying25 (by rfl) (by kernel_rfl)) rfl ?_
  try simp only [Act.put, List.getElem_toArray, List.getElem_cons_zero, List.setIfInBounds_toArray, List.set_cons_zero, List.set_cons_succ]
  refine wpAnyH_take (i := 1) (v := ?_) rfl (by kernel_rfl) (by kernel_rfl) (by kernel_rfl) (fun _ _ _ h => by cases h.1) (Or.inl ⟨by rfl, ?_⟩) rfl ?_
  rotate_left
  · rintro w' rfl; go_simp; with_reducible rfl
  try simp only [Act.put, List.getElem_toArray, List.getElem_cons_zero, List.getElem_cons_succ, List.setIfInBounds_toArray, List.set_cons_zero, List.set_cons_succ]
  refine wpAnyH_take (i := 2) (v := ?_) rfl (by kernel_rfl) (by kernel_rfl) (by kernel_rfl) (fun _ _ _ h => by cases h.1) (Or.inl ⟨by rfl, ?_⟩) rfl ?_
  rotate_left
  · rintro w' rfl; go_simp; with_reducible rfl
  try simp only [Act.put, List.getElem_toArray, List.getElem_cons_zero, List.getElem_cons_succ, List.setIfInBounds_toArray, List.set_cons_zero, List.set_cons_succ]
  refine wpAnyH_take (i := 3) (v := ?_) rfl (by kernel_rfl) (by kernel_rfl) (by kernel_rfl) (fun _ _ _ h => by cases h.1) (Or.inl ⟨by rfl, ?_⟩) rfl ?_
  rotate_left
  · rintro w' rfl; go_simp; with_reducible rfl
  try simp only [Act.put, List.getElem_toArray, List.getElem_cons_zero, List.getElem_cons_succ, List.setIfInBounds_toArray, List.set_cons_zero, List.set_cons_succ]
  refine wpAnyH_take (i := 4) (v := ?_) rfl (by kernel_rfl) (by kernel_rfl) (by kernel_rfl) (fun _ _ _ h => by cases h.1) (Or.inl ⟨by rfl, ?_⟩) rfl ?_
  rotate_left
  · rintro w' rfl; go_simp; with_reducible rfl
  try simp only [Act.put, List.getElem_toArray, List.getElem_cons_zero, List.getElem_cons_succ, List.setIfInBounds_toArray, List.set_cons_zero, List.set_cons_succ]
  refine all_one (i := 5) (by kernel_rfl) rfl (by rfl) (fun K hK => ?_)
  refine wp_store_row 25 (.tmp 4) (.tmp 20) (by rfl) w.heap.size zE (by rfl) (by rfl) 25 zE HB46.out.drew (by kernel_rfl) (by rfl) (by kernel_rfl) ?_
  rw [setRow_self w6.drew w.heap.size zE 25 (0, 0) HB46.out.drew]
  refine hK _ _ rfl ?_
  try simp only [Act.put, List.getElem_toArray, List.getElem_cons_zero, List.getElem_cons_succ]
  refine all_one (i := 6) (by kernel_rfl) rfl (by rfl) (fun K hK => ?_)
  go_simp
  refine hK _ _ rfl ?_
  try simp only [Act.put, List.getElem_toArray, List.getElem_cons_zero, List.getElem_cons_succ, List.setIfInBounds_toArray, List.set_cons_zero, List.set_cons_succ]
  refine wpAnyH_done (by kernel_rfl) ?_ _
  refine ⟨rfl, ?_⟩
  have q0 : w6.drew.cell? ⟨w.heap.size + 3, 0, none⟩ = some (.pointer (some ⟨w.heap.size + 2, 0, none⟩)) := p0
  clear p0 p1 p2
  go_wp2
  refine leaves_cons (f := 57) (args := #[.pointer (some ⟨w.heap.size + 3, 0, none⟩)]) (by simp) (by simp [go_sem]) ?_
  refine (closeE_any (w.heap.size + 3) (w.heap.size + 2) _ _ _ _ w6.drew q0 HBR6.out.drew).mono ?_
  rintro e u' w8 ⟨rfl, rfl, hg8⟩
  have KB : Kpt (fun b => w.heap.size ≤ b) (runBoxE (takeBox u (.slice A n c)) (w.heap.size + 2)) w8 := ((HKA.out.trans (Kpt.of_below HBB.out)).trans (Kpt.of_below (below_drewN (Below.refl _ w6) 1))).trans (Kpt.of_grown hg8 (by omega))
  have hbl : Below w.heap.size w w8 := HXX.out.trans ⟨KB.os, KB.tape, KB.output, KB.size, fun k hk => KB.block k (Nat.lt_of_lt_of_le hk HXX.out.size) (by omega)⟩
  exact ⟨_, resultsE2 (t := 4) (s := 5) rfl (by rfl) (HB46.out.drew.grown hg8 (fun e => by injection e with e; omega)) (by rfl), rfl, hbl⟩
end Go.Proofs.YtjkneidoochfjaaGreatDoor
