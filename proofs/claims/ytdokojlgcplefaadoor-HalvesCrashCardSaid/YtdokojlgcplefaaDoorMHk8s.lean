/- Layer 5: Append, wherever the power fails. -/
import Derived.Test.YtdokojlgcplefaaDoorMHk7
import Derived.Test.YtdokojlgcplefaaDoorMHk16s
import Derived.Test.YtdokojlgcplefaaDoorMHk17
namespace Go.Proofs.YtdokojlgcplefaaDoor
open Go Go.RowKit
def AppendP (B : Nat) (a : Nat → Addr) (w : World) (l d z U n m nd k : Nat) (row : Option Nat) (ls : List (List Nat)) (bs : List Nat) (M : Bool × Dk.D) (e : Ending) (w' : World) : Prop :=
 (M.1 = true ∧ e = .returned .nilIface ∧ LogsAt B w' l d z U n (m + nd) false (ls ++ [bs]) M.2 k ∧ AFr B l row w w') ∨
 (M.1 = false ∧ e = .returned (ev (a 15)) ∧ LogsAt B w' l d z U n m true ls M.2 k ∧ LFr B l w w')
set_option maxRecDepth 100000 in
set_option maxHeartbeats 1000000 in
theorem append_any {B l d z k U : Nat} {S : Dk.D} (a : Nat → Addr) (w0 w : World) (n m : Nat) (v : Value) (us : List Value) (ls : List (List Nat)) (hU : U = 0 ∨ U = 1) (hL : LogAt B w l d z U n v m false) (hR : Recs B w v us ls) (hD : DkX B w d S k) (hz : 2 ≤ z) (hi : z + z ≤ S.size) (hk : k + 100000 < 1000000) (hE : Env B a w0 w) (hn : n ≤ Hv.top) (hlen : ls.length ≤ 90000)
  (A : Option Addr) (nb c nd : Nat) (bs : List Nat) (hbl : bs.length = nb) (hb1 : 1 ≤ nb) (hb2 : nb ≤ 3000) (hr : ∀ w', TFr B w w' → Rd w' (.slice A nb c) bs) (hby : Sha.Byte bs) (hnd : nd = Hv.need (nb : Int)) (hm : m + nd ≤ z) :
  Calls Tryd.prog 10 #[.pointer (some ⟨l, 0, none⟩), .slice A nb c] w (AppendP B a w l d z U n m nd (k + nd + 1) v.ownBlock ls bs (Hv.appM (Hv.fst z U) m n ls.length bs S)) := by
 have hsz := hD.ok.size
 obtain ⟨AV, cV, rfl⟩ := row_slice hR.row
 have hnd1 : 1 ≤ nd := by rw [hnd, Hv.need_of hb1 hb2]; omega
 have hndz : nd ≤ 4096 := by omega
 have CN := need_any (nb : Int)
 rw [← hnd] at CN
 obtain ⟨wa, hwa⟩ : ∃ wa, wa = (w.alloc (.cells #[.pointer (some ⟨l, 0, none⟩)] 30)).alloc (.cells #[.slice A nb c] 39) := ⟨_, rfl⟩
 have HWA := Lib.hid hwa
 have HBA : Hid (Below w.heap.size w wa) := Lib.hid (by rw [hwa]; exact ((Below.refl _ _).alloc (Nat.le_refl _) _).alloc (by simp) _)
 have HSA : Hid (wa.heap.size = w.heap.size + 2) := Lib.hid (by rw [hwa]; simp)
 have HQ2 : Hid (Blk wa w.heap.size 30 #[.pointer (some ⟨l, 0, none⟩)]) := Lib.hid (by rw [hwa]; exact (Blk.new w _ _).alloc _)
 have HQ3 : Hid (Blk wa (w.heap.size + 1) 39 #[.slice A nb c]) := Lib.hid (by
  rw [hwa]
  have := Blk.new (w.alloc (.cells #[.pointer (some ⟨l, 0, none⟩)] 30)) 39 #[.slice A nb c]
  simpa using this)
 obtain ⟨wb, hwb⟩ : ∃ wb, wb = wa.alloc (.cells #[.int .i64 (nd : Int)] 3) := ⟨_, rfl⟩
 have HWB := Lib.hid hwb
 have HB1 : Hid (Below wa.heap.size wa wb) := Lib.hid (by rw [hwb]; exact below_al wa _)
 have HBB : Hid (Below w.heap.size w wb) := Lib.hid (below_then HBA.out HB1.out)
 have HQ5 : Hid (Blk wb wa.heap.size 3 #[.int .i64 (nd : Int)]) := Lib.hid (by rw [hwb]; exact Blk.new _ _ _)
 have HSB : Hid (wb.heap.size = w.heap.size + 3) := Lib.hid (by rw [hwb]; have := HSA.out; simp; omega)
 have HBS : Hid (B ≤ w.heap.size) := Lib.hid (by have := hD.lt; omega)
 have HWK : Hid (∀ wc, Below w.heap.size w wc → wb.heap.size ≤ wc.heap.size → Blk wc w.heap.size 30 #[.pointer (some ⟨l, 0, none⟩)] → Blk wc (w.heap.size + 1) 39 #[.slice A nb c] → Blk wc wa.heap.size 3 #[.int .i64 (nd : Int)] →
   Calls Tryd.prog 20 #[.pointer (some ⟨l, 0, none⟩), .func (.func 24) #[] #[.pointer (some ⟨w.heap.size, 0, none⟩), .pointer (some ⟨w.heap.size + 1, 0, none⟩), .pointer (some ⟨wa.heap.size, 0, none⟩)]] wc (AppendP B a w l d z U n m nd (k + nd + 1) (Value.slice AV ls.length cV).ownBlock ls bs (Hv.appM (Hv.fst z U) m n ls.length bs S))) := Lib.hid (fun wc hwc hsc h2 h3 h5 => by
  have hba := below_attBox wc l
  have hwc2 := below_then hwc hba
  have hw := apwork_any a w0 (attBox wc l) n m AV cV us ls hU (hL.below hwc2) (hR.below hwc2) (hD.below hwc2) hz hi hk (hE.below hwc2) hn hlen w.heap.size (w.heap.size + 1) wa.heap.size A nb c nd bs hbl hb1 hb2 (fun w' ht => hr w' ((TFr.below hwc2).trans ht)) hby hnd hm (h2.below hba h2.lt) (h3.below hba h3.lt) (h5.below hba h5.lt) (fun e => by
   obtain ⟨_, cs, hg⟩ := own_blk hR.row e.symm
   have := hg.lt
   omega)
  have e3 : (#[] : Array Value) ++ #[.pointer (some ⟨w.heap.size, 0, none⟩), .pointer (some ⟨w.heap.size + 1, 0, none⟩), .pointer (some ⟨wa.heap.size, 0, none⟩)] = #[.pointer (some ⟨w.heap.size, 0, none⟩), .pointer (some ⟨w.heap.size + 1, 0, none⟩), .pointer (some ⟨wa.heap.size, 0, none⟩)] := by simp
  have hgl : ∀ g, (Value.slice AV ls.length cV).ownBlock = some g → g < w.heap.size := fun g e => by
   obtain ⟨_, cs, hg⟩ := own_blk hR.row e
   exact hg.lt
  have hlt := hL.blk.lt
  have hsw := hwc.size
  have hB0 := HBS.out
  have her : Blk (attBox wc l) (wc.heap.size + 1) 27 #[.nilIface] := by
   have := Blk.new (wc.alloc (.cells #[.pointer (some ⟨l, 0, none⟩)] 30)) 27 #[.nilIface]
   simpa using this
  have hbx : Blk (attBox wc l) wc.heap.size 30 #[.pointer (some ⟨l, 0, none⟩)] := (Blk.new wc _ _).alloc _
  have hLa := hL.below hwc2
  have hRa := hR.below hwc2
  have hEa := hE.below hwc2
  clear hL hR hD hE hr h2 h3 h5
  generalize (Value.slice AV ls.length cV) = vv at *
  generalize Hv.appM (Hv.fst z U) m n ls.length bs S = M at hw ⊢
  rcases hM : M.1 with _ | _
  ·have hw2 : Calls Tryd.prog 24 (#[] ++ #[.pointer (some ⟨w.heap.size, 0, none⟩), .pointer (some ⟨w.heap.size + 1, 0, none⟩), .pointer (some ⟨wa.heap.size, 0, none⟩)]) (attBox wc l) fun e w' => e = .panicked [{ v := ev (a 15), recovered := false }] ∧ (DkX B w' d M.2 (k + nd + 1) ∧ TFr B (attBox wc l) w') := by
    rw [e3]
    refine hw.mono ?_
    rintro e w' (⟨h, _⟩ | ⟨_, h1, h2, h3⟩)
    ·rw [hM] at h; cases h
    ·exact ⟨h1, h2, h3⟩
   refine Calls.mono (attempt_down 24 #[] _ l (a 15) (a 15) wc _ (fun args w => by simp [go_sem]) hw2 (fun x hx => ⟨hx.2.typed _ _ _ her (by decide) (by decide), hx.2.typed _ _ _ hbx (by decide) (by decide), ⟨_, (hLa.tfr hx.2).blk.cell 10⟩, (hLa.tfr hx.2).blk.frozen 10, (hEa.tfr hx.2).down⟩) (by omega)) ?_
   rintro e w' ⟨rfl, x, ⟨hx1, hx2⟩, rfl⟩
   have hlx := (hLa.tfr hx2).blk
   have hex := hx2.typed _ _ _ her (by decide) (by decide)
   refine Or.inr ⟨hM, rfl, ⟨⟨vv, ⟨?_, hLa.low⟩, us, ?_⟩, ?_⟩, ?_⟩
   ·exact (hlx.set_ 10 (.bool true)).far (by show l ≠ wc.heap.size + 1; omega) _
   ·have h1 := (hRa.tfr hx2).far hlx 10 (.bool true)
    have he1 : Blk (x.setCell ⟨l, 10, none⟩ (.bool true)) (wc.heap.size + 1) 27 #[.nilIface] := hex.far (by show wc.heap.size + 1 ≠ l; omega) _
    exact h1.of (fun b t cs hb ht => hb.far (by
     show b ≠ wc.heap.size + 1
     exact blk_ne hb he1 (by rcases ht with rfl | rfl <;> decide)) _)
   ·have h1 := hx1.farX hlx (by decide) (by decide) 10 (.bool true)
    have he1 : Blk (x.setCell ⟨l, 10, none⟩ (.bool true)) (wc.heap.size + 1) 27 #[.nilIface] := hex.far (by show wc.heap.size + 1 ≠ l; omega) _
    exact h1.farX he1 (by decide) (by decide) 0 (ev (a 15))
   ·exact ((((LFr.below hwc2).trans (LFr.of hx2)).trans (LFr.set hLa.low 10 (.bool true))).setNew hB0 (show w.heap.size ≤ wc.heap.size + 1 by omega) 0 _)
  ·refine Calls.mono (attempt_ok 24 #[] #[.pointer (some ⟨w.heap.size, 0, none⟩), .pointer (some ⟨w.heap.size + 1, 0, none⟩), .pointer (some ⟨wa.heap.size, 0, none⟩)] l wc (fun w' => LogsAt B w' l d z U n (m + nd) false (ls ++ [bs]) M.2 (k + nd + 1) ∧ AFr B l vv.ownBlock w w' ∧ ∃ c, Blk w' (wc.heap.size + 1) 27 #[c]) (fun args w => by simp [go_sem]) ?_ (fun a h => h.2.2) ?_) ?_
   ·rw [e3]
    refine hw.mono ?_
    rintro e w' (⟨_, h1, h2, h3, h4⟩ | ⟨h, _⟩)
    ·exact ⟨h1, ⟨h2, h3⟩, (AFr.below hwc2).trans h4, .nilIface, h4.typed _ _ _ (by omega) (fun e => by have := hgl _ e.symm; omega) her (by decide) (by decide)⟩
    ·rw [hM] at h; cases h
   ·rintro a x ⟨h1, h2, c, h3⟩
    exact ⟨h1.set h3 rfl 0 x, h2.setNew hB0 (by omega) 0 x, x, h3.set_ 0 x⟩
   rintro e w' ⟨h1, h2, h3, _⟩
   exact Or.inl ⟨hM, h1, h2, h3⟩)
 have HLW := Lib.hid hL
 have c10 : wb.cell? ⟨l, 10, none⟩ = some (.bool false) := (hL.below HBB.out).blk.cell 10
 have p2 : wb.cell? ⟨w.heap.size, 0, none⟩ = some (.pointer (some ⟨l, 0, none⟩)) := (HQ2.out.below HB1.out HQ2.out.lt).cell 0
 have p5 : wb.cell? ⟨wa.heap.size, 0, none⟩ = some (.int .i64 (nd : Int)) := HQ5.out.cell 0
 have p3 : ((w.alloc (.cells #[.pointer (some ⟨l, 0, none⟩)] 30)).alloc (.cells #[.slice A nb c] 39)).cell? ⟨w.heap.size + 1, 0, none⟩ = some (.slice A nb c) := by rw [← HWA.out]; exact HQ3.out.cell 0
 have b0 : ((nd : Int) == 0) = false := by simp; omega
 have HND := Lib.hid hnd
 have HUU := Lib.hid hU
 clear hwa hwb hL hR hD hE hr hby hU hnd hbl
 go_enter Tryd.func10, Tryd.ntmps10
 go_wp2_with fail
 go_at_call 22
 rw [← HWA.out]
 refine (CN _ (WalkArith.wf_i64 (by omega))).mono ?_
 rintro e wn ⟨rfl, rfl⟩
 clear CN p3
 go_wp2_with (rw [← HWB.out])
 have i6 : ¬ ((z - m : Nat) : Int) < (nd : Int) := by omega
 obtain ⟨rm, hrm⟩ : ∃ rm, rm = z - m := ⟨_, rfl⟩
 have HL6 := Lib.hid (HLW.out.below (below_drewN HBB.out 1))
 have CR := lroom_any (wb.drewN 1) HL6.out HUU.out (by omega) (by omega)
 rw [← hrm] at CR i6
 clear hrm c10 p2 p5 b0
 have HS6 : Hid (Blk (wb.drewN 1) w.heap.size 30 #[.pointer (some ⟨l, 0, none⟩)] ∧ Blk (wb.drewN 1) wa.heap.size 3 #[.int .i64 (nd : Int)]) := Lib.hid ⟨(HQ2.out.below HB1.out HQ2.out.lt).drewN 1, HQ5.out.drewN 1⟩
 have HS7 : Hid (∀ j, Blk ((wb.drewN 1).drewN j) w.heap.size 30 #[.pointer (some ⟨l, 0, none⟩)] ∧ Blk ((wb.drewN 1).drewN j) wa.heap.size 3 #[.int .i64 (nd : Int)]) := Lib.hid (fun j => ⟨HS6.out.1.drewN j, HS6.out.2.drewN j⟩)
 refine wp_region_held (S := (fun w' => Blk w' w.heap.size 30 #[.pointer (some ⟨l, 0, none⟩)] ∧ Blk w' wa.heap.size 3 #[.int .i64 (nd : Int)])) (by kernel_rfl) ?_
 change wpAnyH _ _ _ _ _ _ _ _ (wb.drewN 1)
 refine wpAnyH_take (i := 0) (v := ?_) rfl (by kernel_rfl) (by kernel_rfl) (by kernel_rfl) (fun _ _ _ h => h) (Or.inl ⟨by rfl, ?_⟩) (HS6.out) ?_
 rotate_left
 ·intro w' hS; have q0 : w'.cell? ⟨wa.heap.size, 0, none⟩ = some (.int .i64 (nd : Nat)) := hS.2.cell 0; go_simp; with_reducible rfl
 try simp only [Act.put, List.getElem_toArray, List.getElem_cons_zero, List.setIfInBounds_toArray, List.set_cons_zero, List.set_cons_succ]
 refine wpAnyH_take (i := 1) (v := ?_) rfl (by kernel_rfl) (by kernel_rfl) (by kernel_rfl) (fun _ _ _ h => h) (Or.inl ⟨by rfl, ?_⟩) (HS6.out) ?_
 rotate_left
 ·intro w' hS; have q0 : w'.cell? ⟨w.heap.size, 0, none⟩ = some (.pointer (some ⟨l, 0, none⟩)) := hS.1.cell 0; go_simp; with_reducible rfl
 try simp only [Act.put, List.getElem_toArray, List.getElem_cons_zero, List.getElem_cons_succ, List.setIfInBounds_toArray, List.set_cons_zero, List.set_cons_succ]
 refine all_one (i := 2) (by kernel_rfl) rfl (by rfl) (fun K hK => ?_)
 go_simp
 refine CR.mono ?_
 rintro e w6 ⟨rfl, j, rfl⟩
 dsimp only
 refine hK _ _ (HS7.out _) ?_; clear hK K CR
 try simp only [Act.put, List.getElem_toArray, List.getElem_cons_zero, List.getElem_cons_succ, List.setIfInBounds_toArray, List.set_cons_zero, List.set_cons_succ]
 refine wpAnyH_take (i := 3) (v := ?_) rfl (by kernel_rfl) (by kernel_rfl) (by kernel_rfl) (fun _ _ _ h => h) (Or.inl ⟨by rfl, ?_⟩) ((HS7.out _)) ?_
 rotate_left
 ·intro w _; go_simp; with_reducible rfl
 try simp only [Act.put, List.getElem_toArray, List.getElem_cons_zero, List.getElem_cons_succ, List.setIfInBounds_toArray, List.set_cons_zero, List.set_cons_succ]
 refine wpAnyH_take (i := 4) (v := ?_) rfl (by kernel_rfl) (by kernel_rfl) (by kernel_rfl) (fun _ _ _ h => h) (Or.inl ⟨by rfl, ?_⟩) ((HS7.out _)) ?_
 rotate_left
 ·intro w _; go_simp; with_reducible rfl
 try simp only [Act.put, List.getElem_toArray, List.getElem_cons_zero, List.getElem_cons_succ, List.setIfInBounds_toArray, List.set_cons_zero, List.set_cons_succ]
 refine wpAnyH_done (by kernel_rfl) ?_ _
 obtain ⟨wc, hwc⟩ : ∃ wc, wc = (wb.drewN 1).drewN j := ⟨_, rfl⟩
 have HBC : Hid (Below w.heap.size w wc) := Lib.hid (by rw [hwc]; exact below_drewN (below_drewN HBB.out 1) j)
 have HSC : Hid (wb.heap.size ≤ wc.heap.size) := Lib.hid (by rw [hwc]; exact Nat.le_refl _)
 have HC2 : Hid (Blk wc w.heap.size 30 #[.pointer (some ⟨l, 0, none⟩)]) := Lib.hid (by rw [hwc]; exact (HS7.out j).1)
 have HC5 : Hid (Blk wc wa.heap.size 3 #[.int .i64 (nd : Int)]) := Lib.hid (by rw [hwc]; exact (HS7.out j).2)
 have HC3 : Hid (Blk wc (w.heap.size + 1) 39 #[.slice A nb c]) := Lib.hid (by rw [hwc]; exact ((HQ3.out.below HB1.out HQ3.out.lt).drewN 1).drewN j)
 have CA := HWK.out wc HBC.out HSC.out HC2.out HC3.out HC5.out
 have p2 : wc.cell? ⟨w.heap.size, 0, none⟩ = some (.pointer (some ⟨l, 0, none⟩)) := HC2.out.cell 0
 rw [← hwc]
 clear hwc
 have hmf : ∀ (fn : Fn) (first cap : Array Value) (w : World), (Instr.makeFunc fn first cap).run Tryd.prog w = .ok (.func fn first cap) w := fun _ _ _ _ => rfl
 go_wp2_with fail
 go_at_call 20
 refine CA.mono ?_
 clear CA
 rintro e w8 hP
 rcases hP with ⟨h1, rfl, h2, h3⟩ | ⟨h1, rfl, h2, h3⟩
 ·have HF : Hid (AppendP B a w l d z U n m nd (k + nd + 1) (Value.slice AV ls.length cV).ownBlock ls bs (Hv.appM (Hv.fst z U) m n ls.length bs S) _ w8) := Lib.hid (Or.inl ⟨h1, rfl, h2, h3⟩)
  clear h1 h2 h3 p2
  go_wp2_with fail
  go_ret
  exact HF.out
 ·have HF : Hid (AppendP B a w l d z U n m nd (k + nd + 1) (Value.slice AV ls.length cV).ownBlock ls bs (Hv.appM (Hv.fst z U) m n ls.length bs S) _ w8) := Lib.hid (Or.inr ⟨h1, rfl, h2, h3⟩)
  clear h1 h2 h3 p2
  go_wp2_with fail
  go_ret
  exact HF.out
end Go.Proofs.YtdokojlgcplefaaDoor
/- Layer 5: Append, where it is refused. -/
namespace Go.Proofs.YtdokojlgcplefaaDoor
open Go Go.RowKit
set_option maxRecDepth 100000 in
theorem append_zero {B l d z _k U : Nat} {_S : Dk.D} (a : Nat → Addr) (w0 w : World) (n m : Nat) (v : Value) (hL : LogAt B w l d z U n v m false) (hE : Env B a w0 w) (A : Option Addr) (nb c : Nat) (hnd : Hv.need (nb : Int) = 0) (hnb : nb ≤ 1000000) :
  Calls Tryd.prog 10 #[.pointer (some ⟨l, 0, none⟩), .slice A nb c] w fun e w' => e = .returned (ev (a 0)) ∧ Below w.heap.size w w' := by
 have CN := need_any (nb : Int)
 rw [hnd] at CN
 have CN : ∀ w, (Lit.int .i64 (nb : Int)).wf = true → Calls Tryd.prog 22 #[.int .i64 (nb : Int)] w fun e w' => e = .returned (.int .i64 0) ∧ w = w' := CN
 obtain ⟨wa, hwa⟩ : ∃ wa, wa = (w.alloc (.cells #[.pointer (some ⟨l, 0, none⟩)] 30)).alloc (.cells #[.slice A nb c] 39) := ⟨_, rfl⟩
 have HWA := Lib.hid hwa
 have HBA : Hid (Below w.heap.size w wa) := Lib.hid (by rw [hwa]; exact ((Below.refl _ _).alloc (Nat.le_refl _) _).alloc (by simp) _)
 have HQ2 : Hid (Blk wa w.heap.size 30 #[.pointer (some ⟨l, 0, none⟩)]) := Lib.hid (by rw [hwa]; exact (Blk.new w _ _).alloc _)
 have HQ3 : Hid (Blk wa (w.heap.size + 1) 39 #[.slice A nb c]) := Lib.hid (by
  rw [hwa]
  have := Blk.new (w.alloc (.cells #[.pointer (some ⟨l, 0, none⟩)] 30)) 39 #[.slice A nb c]
  simpa using this)
 obtain ⟨wb, hwb⟩ : ∃ wb, wb = wa.alloc (.cells #[.int .i64 0] 3) := ⟨_, rfl⟩
 have HWB := Lib.hid hwb
 have HB1 : Hid (Below wa.heap.size wa wb) := Lib.hid (by rw [hwb]; exact below_al wa _)
 have HBB : Hid (Below w.heap.size w wb) := Lib.hid (below_then HBA.out HB1.out)
 have c10 : wb.cell? ⟨l, 10, none⟩ = some (.bool false) := (hL.below HBB.out).blk.cell 10
 have p2 : wb.cell? ⟨w.heap.size, 0, none⟩ = some (.pointer (some ⟨l, 0, none⟩)) := (HQ2.out.below HB1.out HQ2.out.lt).cell 0
 have p3 : ((w.alloc (.cells #[.pointer (some ⟨l, 0, none⟩)] 30)).alloc (.cells #[.slice A nb c] 39)).cell? ⟨w.heap.size + 1, 0, none⟩ = some (.slice A nb c) := by rw [← HWA.out]; exact HQ3.out.cell 0
 have pR : wb.cell? ⟨0, 0, none⟩ = some (ev (a 0)) := ((hE.below HBB.out).s 0 (by omega)).var
 rw [HWB.out] at c10 p2 pR
 clear hwa hwb hL hE hnd
 go_enter Tryd.func10, Tryd.ntmps10
 go_wp2_with fail
 go_at_call 22
 rw [← HWA.out]
 refine (CN _ (WalkArith.wf_i64 (by omega))).mono ?_
 rintro e wn ⟨rfl, rfl⟩
 clear CN p3
 go_wp2_with fail
 have HF : Hid (Below w.heap.size w (wa.alloc (.cells #[.int .i64 0] 3))) := Lib.hid (by rw [← HWB.out]; exact HBB.out)
 go_ret
 exact ⟨rfl, HF.out⟩
set_option maxRecDepth 100000 in
set_option maxHeartbeats 1000000 in
theorem append_full {B l d z k U : Nat} {S : Dk.D} (a : Nat → Addr) (w0 w : World) (n m : Nat) (v : Value) (hU : U = 0 ∨ U = 1) (hL : LogAt B w l d z U n v m false) (hD : DkX B w d S k) (_hz : 2 ≤ z) (hi : z + z ≤ S.size) (hE : Env B a w0 w)
  (A : Option Addr) (nb c nd : Nat) (hb1 : 1 ≤ nb) (hb2 : nb ≤ 3000) (hnd : nd = Hv.need (nb : Int)) (hmz : m ≤ z) (hm : z < m + nd) :
  Calls Tryd.prog 10 #[.pointer (some ⟨l, 0, none⟩), .slice A nb c] w fun e w' => e = .returned (ev (a 10)) ∧ Below w.heap.size w w' := by
 have hsz := hD.ok.size
 have hnd1 : 1 ≤ nd := by rw [hnd, Hv.need_of hb1 hb2]; omega
 have hndz : nd ≤ 4096 := by rw [hnd, Hv.need_of hb1 hb2]; omega
 have CN := need_any (nb : Int)
 rw [← hnd] at CN
 obtain ⟨wa, hwa⟩ : ∃ wa, wa = (w.alloc (.cells #[.pointer (some ⟨l, 0, none⟩)] 30)).alloc (.cells #[.slice A nb c] 39) := ⟨_, rfl⟩
 have HWA := Lib.hid hwa
 have HBA : Hid (Below w.heap.size w wa) := Lib.hid (by rw [hwa]; exact ((Below.refl _ _).alloc (Nat.le_refl _) _).alloc (by simp) _)
 have HSA : Hid (wa.heap.size = w.heap.size + 2) := Lib.hid (by rw [hwa]; simp)
 have HQ2 : Hid (Blk wa w.heap.size 30 #[.pointer (some ⟨l, 0, none⟩)]) := Lib.hid (by rw [hwa]; exact (Blk.new w _ _).alloc _)
 have HQ3 : Hid (Blk wa (w.heap.size + 1) 39 #[.slice A nb c]) := Lib.hid (by
  rw [hwa]
  have := Blk.new (w.alloc (.cells #[.pointer (some ⟨l, 0, none⟩)] 30)) 39 #[.slice A nb c]
  simpa using this)
 obtain ⟨wb, hwb⟩ : ∃ wb, wb = wa.alloc (.cells #[.int .i64 (nd : Int)] 3) := ⟨_, rfl⟩
 have HWB := Lib.hid hwb
 have HB1 : Hid (Below wa.heap.size wa wb) := Lib.hid (by rw [hwb]; exact below_al wa _)
 have HBB : Hid (Below w.heap.size w wb) := Lib.hid (below_then HBA.out HB1.out)
 have HQ5 : Hid (Blk wb wa.heap.size 3 #[.int .i64 (nd : Int)]) := Lib.hid (by rw [hwb]; exact Blk.new _ _ _)
 have HSB : Hid (wb.heap.size = w.heap.size + 3) := Lib.hid (by rw [hwb]; have := HSA.out; simp; omega)
 have HLW := Lib.hid hL
 have c10 : wb.cell? ⟨l, 10, none⟩ = some (.bool false) := (hL.below HBB.out).blk.cell 10
 have p2 : wb.cell? ⟨w.heap.size, 0, none⟩ = some (.pointer (some ⟨l, 0, none⟩)) := (HQ2.out.below HB1.out HQ2.out.lt).cell 0
 have p5 : wb.cell? ⟨wa.heap.size, 0, none⟩ = some (.int .i64 (nd : Int)) := HQ5.out.cell 0
 have p3 : ((w.alloc (.cells #[.pointer (some ⟨l, 0, none⟩)] 30)).alloc (.cells #[.slice A nb c] 39)).cell? ⟨w.heap.size + 1, 0, none⟩ = some (.slice A nb c) := by rw [← HWA.out]; exact HQ3.out.cell 0
 have b0 : ((nd : Int) == 0) = false := by simp; omega
 have HND := Lib.hid hnd
 have HQU : Hid (∀ w', Below w.heap.size w w' → w'.cell? ⟨3, 0, none⟩ = some (ev (a 10))) := Lib.hid (fun w' hb => ((hE.below hb).s 10 (by omega)).var)
 have HUU := Lib.hid hU
 clear hwa hwb hL hD hE hnd hU
 go_enter Tryd.func10, Tryd.ntmps10
 go_wp2_with fail
 go_at_call 22
 rw [← HWA.out]
 refine (CN _ (WalkArith.wf_i64 (by omega))).mono ?_
 rintro e wn ⟨rfl, rfl⟩
 clear CN p3
 go_wp2_with (rw [← HWB.out])
 have i6 : ((z - m : Nat) : Int) < (nd : Int) := by omega
 obtain ⟨rm, hrm⟩ : ∃ rm, rm = z - m := ⟨_, rfl⟩
 have HL6 := Lib.hid (HLW.out.below (below_drewN HBB.out 1))
 have CR := lroom_any (wb.drewN 1) HL6.out HUU.out (by omega) (by omega)
 rw [← hrm] at CR i6
 clear hrm c10 p2 p5 b0
 have HS6 : Hid (Blk (wb.drewN 1) w.heap.size 30 #[.pointer (some ⟨l, 0, none⟩)] ∧ Blk (wb.drewN 1) wa.heap.size 3 #[.int .i64 (nd : Int)]) := Lib.hid ⟨(HQ2.out.below HB1.out HQ2.out.lt).drewN 1, HQ5.out.drewN 1⟩
 have HS7 : Hid (∀ j, Blk ((wb.drewN 1).drewN j) w.heap.size 30 #[.pointer (some ⟨l, 0, none⟩)] ∧ Blk ((wb.drewN 1).drewN j) wa.heap.size 3 #[.int .i64 (nd : Int)]) := Lib.hid (fun j => ⟨HS6.out.1.drewN j, HS6.out.2.drewN j⟩)
 refine wp_region_held (S := (fun w' => Blk w' w.heap.size 30 #[.pointer (some ⟨l, 0, none⟩)] ∧ Blk w' wa.heap.size 3 #[.int .i64 (nd : Int)])) (by kernel_rfl) ?_
 change wpAnyH _ _ _ _ _ _ _ _ (wb.drewN 1)
 refine wpAnyH_take (i := 0) (v := ?_) rfl (by kernel_rfl) (by kernel_rfl) (by kernel_rfl) (fun _ _ _ h => h) (Or.inl ⟨by rfl, ?_⟩) (HS6.out) ?_
 rotate_left
 ·intro w' hS; have q0 : w'.cell? ⟨wa.heap.size, 0, none⟩ = some (.int .i64 (nd : Nat)) := hS.2.cell 0; go_simp; with_reducible rfl
 try simp only [Act.put, List.getElem_toArray, List.getElem_cons_zero, List.setIfInBounds_toArray, List.set_cons_zero, List.set_cons_succ]
 refine wpAnyH_take (i := 1) (v := ?_) rfl (by kernel_rfl) (by kernel_rfl) (by kernel_rfl) (fun _ _ _ h => h) (Or.inl ⟨by rfl, ?_⟩) (HS6.out) ?_
 rotate_left
 ·intro w' hS; have q0 : w'.cell? ⟨w.heap.size, 0, none⟩ = some (.pointer (some ⟨l, 0, none⟩)) := hS.1.cell 0; go_simp; with_reducible rfl
 try simp only [Act.put, List.getElem_toArray, List.getElem_cons_zero, List.getElem_cons_succ, List.setIfInBounds_toArray, List.set_cons_zero, List.set_cons_succ]
 refine all_one (i := 2) (by kernel_rfl) rfl (by rfl) (fun K hK => ?_)
 go_simp
 refine CR.mono ?_
 rintro e w6 ⟨rfl, j, rfl⟩
 dsimp only
 refine hK _ _ (HS7.out _) ?_; clear hK K CR
 try simp only [Act.put, List.getElem_toArray, List.getElem_cons_zero, List.getElem_cons_succ, List.setIfInBounds_toArray, List.set_cons_zero, List.set_cons_succ]
 refine wpAnyH_take (i := 3) (v := ?_) rfl (by kernel_rfl) (by kernel_rfl) (by kernel_rfl) (fun _ _ _ h => h) (Or.inl ⟨by rfl, ?_⟩) ((HS7.out _)) ?_
 rotate_left
 ·intro w _; go_simp; with_reducible rfl
 try simp only [Act.put, List.getElem_toArray, List.getElem_cons_zero, List.getElem_cons_succ, List.setIfInBounds_toArray, List.set_cons_zero, List.set_cons_succ]
 refine wpAnyH_take (i := 4) (v := ?_) rfl (by kernel_rfl) (by kernel_rfl) (by kernel_rfl) (fun _ _ _ h => h) (Or.inl ⟨by rfl, ?_⟩) ((HS7.out _)) ?_
 rotate_left
 ·intro w _; go_simp; with_reducible rfl
 try simp only [Act.put, List.getElem_toArray, List.getElem_cons_zero, List.getElem_cons_succ, List.setIfInBounds_toArray, List.set_cons_zero, List.set_cons_succ]
 refine wpAnyH_done (by kernel_rfl) ?_ _
 obtain ⟨wc, hwc⟩ : ∃ wc, wc = (wb.drewN 1).drewN j := ⟨_, rfl⟩
 have HBC : Hid (Below w.heap.size w wc) := Lib.hid (by rw [hwc]; exact below_drewN (below_drewN HBB.out 1) j)
 have pq := HQU.out _ HBC.out
 rw [← hwc]
 clear hwc
 go_wp2_with fail
 go_ret
 exact ⟨rfl, HBC.out⟩
end Go.Proofs.YtdokojlgcplefaaDoor
/- Layer 5's law: lists of records that the law holds, and lists appended. -/
namespace Go.Proofs.YtdokojlgcplefaaDoor
open Go Go.RowKit
theorem wp_appendLL {o : Oper} {a : Act} {w : World} {K : Act → World → Prop} {Q : Exit → Act → World → Prop} (s x : Operand)
  (ho : o.op = .call { callee := .builtin .append, args := #[s, x], argTypes := #[33, 33] }) (base n : Nat) (v : Value) (us : List Value) (hs : a.eval s = v) (hown : w.ownsRow base 39 1 v n us) (hbase : base ≤ w.heap.size)
  (u : Value) (hx : a.eval x = u) (ws : List Value) (hu : RdL w u ws) (h1c : ∀ u ∈ ws, u.oneCell' = true) (hz : n + ws.length ≤ 100000)
  (h : ∀ v' w', w'.ownsRow base 39 1 v' (n + ws.length) (us ++ ws) → w.grownBy w' v.ownBlock → K (a.put o.dst v') w') : o.wp Tryd.prog a w K Q := by
 obtain ⟨i0, hi0, hiz, his, hib⟩ := info_parts bsl_info5
 obtain ⟨A, c, rfl, hc, hA⟩ := hu
 cases A with
 | some ad =>
  refine wp_append_own w s x 33 ho base 39 i0 _ 1 24 Tryd.underlying33 hi0 hiz his hib rfl (by decide) v n us hs hown ad ws.length c ws hx (by rw [Nat.mul_one]) ?_ h1c (by unfold maxLen; omega) (by omega) hbase ?_
  ·intro j t hj
   obtain ⟨b, o', ha, _, hxx⟩ := hA (by have := (List.getElem?_eq_some_iff.1 hj).1; omega)
   obtain rfl := Option.some.inj ha
   rw [Addr.add_mid]
   exact hxx j t hj
  ·intro v' w' h1 h2 _
   exact h v' w' h1 h2
 | none =>
  have hn : ws.length = 0 := by
   rcases Nat.eq_zero_or_pos ws.length with h0 | h0
   ·exact h0
   ·obtain ⟨b, o', ha, _⟩ := hA h0
    cases ha
  have e : ws = [] := List.eq_nil_of_length_eq_zero hn
  subst e
  have hrun : ∀ ty, (Builtin.append_ #[33, 33] ty #[v, .slice none 0 c]).run Tryd.prog w = .ok v w := fun ty => by
   rcases hown.2 with ⟨hv, hn0⟩ | ⟨g, cap, cur, hv, _, _, hnc, _⟩
   ·rw [hv]
    simp [Builtin.append_, run_underlying Tryd.underlying33, sizeOf, typeInfo, hi0, Builtin.lenOf, Builtin.firstCells]
   ·rw [hv]
    simp [Builtin.append_, run_underlying Tryd.underlying33, sizeOf, typeInfo, hi0, Builtin.lenOf, Builtin.firstCells, hnc, storeCells]
  unfold Oper.wp execOp
  simp only [ho, resolve, invoke, builtin, Sem.run_bind, Sem.run_pure, Result.andThen_ok, List.map_toArray, List.map_cons, List.map_nil, hs, hx]
  rw [show ([] : List Value).length = 0 from rfl, hrun]
  exact h _ _ (by rw [List.append_nil]; exact hown) (World.grownBy.refl w _)
theorem wpList_appendLL {ops : Array Oper} {rest : List Oper} {o : Oper} {a : Act} {w : World} {Q : Exit → Act → World → Prop} (hgd : o.guard = none) (s x : Operand)
  (ho : o.op = .call { callee := .builtin .append, args := #[s, x], argTypes := #[33, 33] }) (base n : Nat) (v : Value) (us : List Value) (hs : a.eval s = v) (hown : w.ownsRow base 39 1 v n us) (hbase : base ≤ w.heap.size)
  (u : Value) (hx : a.eval x = u) (ws : List Value) (hu : RdL w u ws) (h1c : ∀ u ∈ ws, u.oneCell' = true) (hz : n + ws.length ≤ 100000)
  (h : ∀ v' w', w'.ownsRow base 39 1 v' (n + ws.length) (us ++ ws) → w.grownBy w' v.ownBlock → wpList Tryd.prog ops Q rest (a.put o.dst v') w') : wpList Tryd.prog ops Q (o :: rest) a w :=
 wpList_plain hgd fun _ hK => wp_appendLL s x ho base n v us hs hown hbase u hx ws hu h1c hz fun v' w' h1 h2 => hK _ _ (h v' w' h1 h2)
theorem own_emptyLL (w : World) (base : Nat) (h : base ≤ w.heap.size) : (w.alloc (.cells #[] 39)).ownsRow base 39 1 (.slice (some ⟨w.heap.size, 0, none⟩) 0 0) 0 [] :=
 ⟨rfl, .inr ⟨w.heap.size, 0, #[], rfl, h, heap_alloc_new w _, Nat.le_refl _, by unfold maxLen; omega, rfl, rfl⟩⟩
def El (B : Nat) (w0 w : World) (u : Value) (xs : List Nat) : Prop := RdU B w u xs ∨ Rd w0 u xs
theorem El.one {B : Nat} {w0 w : World} {u : Value} {xs : List Nat} (h : El B w0 w u xs) : u.oneCell' = true := by
 rcases h with h | ⟨A, c, rfl, _⟩
 ·exact h.one
 ·rfl
theorem El.rd {B : Nat} {w0 w : World} {u : Value} {xs : List Nat} (h : El B w0 w u xs) (hb : Below w0.heap.size w0 w) : Rd w u xs := by
 rcases h with h | h
 ·exact h.rd
 ·exact h.below hb (Nat.le_refl _)
structure NowAt (B : Nat) (w0 w : World) (v : Value) (vs : List Value) (ls : List (List Nat)) : Prop where
 row : w.ownsRow B 39 1 v ls.length vs
 each : ∀ i u, vs[i]? = some u → El B w0 w u (ls.getD i [])
section
variable {B : Nat} {w0 w w' : World} {v : Value} {vs : List Value} {ls : List (List Nat)}
theorem NowAt.vlen (h : NowAt B w0 w v vs ls) : vs.length = ls.length := by
 have := h.row.1
 omega
theorem NowAt.of (h : NowAt B w0 w v vs ls) (k1 : ∀ g cs, v.ownBlock = some g → Blk w g 39 cs → Blk w' g 39 cs) (k2 : ∀ b cs, Blk w b 5 cs → Blk w' b 5 cs) : NowAt B w0 w' v vs ls := by
 refine ⟨⟨h.row.1, ?_⟩, fun i u hu => ?_⟩
 ·rcases h.row.2 with hn | ⟨g, cap, cur, rfl, hb, hg, hr⟩
  ·exact .inl hn
  ·exact .inr ⟨g, cap, cur, rfl, hb, k1 g cur rfl hg, hr⟩
 ·rcases h.each i u hu with hr | hr
  ·exact Or.inl (hr.of fun b cs hk => k2 b cs hk)
  ·exact Or.inr hr
theorem NowAt.below (h : NowAt B w0 w v vs ls) (hb : Below w.heap.size w w') : NowAt B w0 w' v vs ls := h.of (fun _ _ _ hk => hk.below hb hk.lt) (fun _ _ hk => hk.below hb hk.lt)
theorem NowAt.tfr {B' : Nat} (h : NowAt B w0 w v vs ls) (ht : TFr B' w w') : NowAt B w0 w' v vs ls := h.of (fun _ _ _ hk => ht.typed _ _ _ hk (by decide) (by decide)) (fun _ _ hk => ht.typed _ _ _ hk (by decide) (by decide))
theorem NowAt.lfr {B' l : Nat} {cs : Array Value} (h : NowAt B w0 w v vs ls) (ht : LFr B' l w w') (hl : Blk w l 59 cs) : NowAt B w0 w' v vs ls := h.of (fun _ _ _ hk => ht.typed _ _ _ (blk_ne hk hl (by decide)) hk (by decide) (by decide)) (fun _ _ hk => ht.typed _ _ _ (blk_ne hk hl (by decide)) hk (by decide) (by decide))
theorem NowAt.afr {B' l : Nat} {cs : Array Value} {row : Option Nat} (h : NowAt B w0 w v vs ls) (ht : AFr B' l row w w') (hl : Blk w l 59 cs) (h1 : ∀ g, v.ownBlock = some g → some g ≠ row) (h2 : ∀ g, row = some g → ∃ cs, Blk w g 39 cs) : NowAt B w0 w' v vs ls :=
 h.of (fun g _ hg hk => ht.typed _ _ _ (blk_ne hk hl (by decide)) (h1 g hg) hk (by decide) (by decide)) (fun b _ hk => ht.typed _ _ _ (blk_ne hk hl (by decide)) (fun e => by
  obtain ⟨cs, hc⟩ := h2 b e.symm
  exact blk_ne hk hc (by decide) rfl) hk (by decide) (by decide))
theorem NowAt.rdLL (h : NowAt B w0 w v vs ls) (hb : Below w0.heap.size w0 w) : RdLL w v vs ls := by
 have hl := h.vlen
 rcases h.row.2 with ⟨rfl, h0⟩ | ⟨g, cap, cur, rfl, _, hg, hn, hm, hs, hx⟩
 ·exact ⟨none, 0, by rw [h0], by omega, hl, fun h1 => absurd h1 (by omega), fun i u hu => (h.each i u hu).rd hb⟩
 ·refine ⟨some ⟨g, 0, none⟩, cap, rfl, hn, hl, fun _ => ⟨g, 0, rfl, (Array.getElem?_eq_some_iff.1 hg).1, fun i u hu => ?_⟩, fun i u hu => (h.each i u hu).rd hb⟩
  rw [Nat.zero_add, cell_of_row _ _ _ _ _ _ hg]
  have hil : i < vs.length := (List.getElem?_eq_some_iff.1 hu).1
  have h2 := congrArg (·[i]?) hx
  simp only [List.getElem?_take, if_pos (show i < ls.length * 1 by omega)] at h2
  rw [show cur[i]? = cur.toList[i]? by simp, h2, hu]
theorem NowAt.rdL (h : NowAt B w0 w v vs ls) (hb : Below w0.heap.size w0 w) : RdL w v vs := by
 obtain ⟨A, c, rfl, h1, h2, h3, _⟩ := h.rdLL hb
 exact ⟨A, c, by rw [h2], by omega, fun h => h3 (by omega)⟩
theorem NowAt.nil (B : Nat) (w0 w : World) : NowAt B w0 w (.slice none 0 0) [] [] := ⟨World.ownsRow_nil w B _ 1, fun i u h => by simp at h⟩
theorem NowAt.ones (h : NowAt B w0 w v vs ls) : ∀ u ∈ vs, u.oneCell' = true := fun u hu => by
 obtain ⟨i, hi, rfl⟩ := List.getElem_of_mem hu
 exact (h.each i _ (List.getElem?_eq_getElem hi)).one
theorem Recs.now {us : List Value} {B' : Nat} (h : Recs B' w v us ls) (hB : B ≤ B') : NowAt B w0 w v us ls := ⟨ownsRow_base h.row hB, fun i u hu => Or.inl ((h.each i u hu).mono hB)⟩
end
theorem RdLL.rdL {w : World} {v : Value} {vs : List Value} {ls : List (List Nat)} (h : RdLL w v vs ls) : RdL w v vs := by
 obtain ⟨A, c, rfl, h1, h2, h3, _⟩ := h
 exact ⟨A, c, by rw [h2], by omega, fun h => h3 (by omega)⟩
theorem RdLL.ones {w : World} {v : Value} {vs : List Value} {ls : List (List Nat)} (h : RdLL w v vs ls) : ∀ u ∈ vs, u.oneCell' = true := fun u hu => by
 obtain ⟨A, c, rfl, h1, h2, h3, h4⟩ := h
 obtain ⟨i, hi, rfl⟩ := List.getElem_of_mem hu
 obtain ⟨A1, c1, e, _⟩ := h4 i _ (List.getElem?_eq_getElem hi)
 rw [e]
 rfl
end Go.Proofs.YtdokojlgcplefaaDoor
