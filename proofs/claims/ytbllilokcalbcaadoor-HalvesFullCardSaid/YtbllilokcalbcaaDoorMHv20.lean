/- Layer 5: Append, where the power is on and there is room. -/
import Derived.Test.YtbllilokcalbcaaDoorMHv19
namespace Go.Proofs.YtbllilokcalbcaaDoor
open Go Go.RowKit
theorem AFr.setNew {B l : Nat} {row : Option Nat} {w w' : World} (h : AFr B l row w w') (_hB : B ≤ w.heap.size) {b : Nat} (hb : w.heap.size ≤ b) (i : Nat) (u : Value) : AFr B l row w (w'.setCell ⟨b, i, none⟩ u) :=
  ⟨h.os, h.tape, h.output, by simpa using h.size, fun x hx hl => (Below.heap_setCell _ _ _ _ (by show x ≠ b; omega)).trans (h.low x hx hl), fun x t cs hn hr hk h1 h2 => (h.typed x t cs hn hr hk h1 h2).far (by have := hk.lt; show x ≠ b; omega) _⟩
set_option maxRecDepth 100000 in
set_option maxHeartbeats 1000000 in
theorem append_0 {B l d z k : Nat} {S : Dk.D} (a : Nat → Addr) (w0 w : World) (n m : Nat) (v : Value) (us : List Value) (ls : List (List Nat)) (hL : LogAt B w l d z 0 n v m false) (hR : Recs B w v us ls) (hD : DkX B w d S k) (hu : Hv.Up S) (hz : 2 ≤ z) (hi : z + z ≤ S.size) (hk : k + 100000 < 1000000) (hE : Env B a w0 w) (hn : n ≤ Hv.top) (hlen : ls.length ≤ 90000)
    (A : Option Addr) (nb c nd : Nat) (bs : List Nat) (hbl : bs.length = nb) (hb1 : 1 ≤ nb) (hb2 : nb ≤ 3000) (hr : ∀ w', TFr B w w' → Rd w' (.slice A nb c) bs) (hby : Sha.Byte bs) (hnd : nd = Hv.need (nb : Int)) (hm : m + nd ≤ z) :
    Calls Tryd.prog 12 #[.pointer (some ⟨l, 0, none⟩), .slice A nb c] w fun e w' => e = .returned .nilIface ∧ LogsAt B w' l d z 0 n (m + nd) false (ls ++ [bs]) (Hv.laidS 0 m n ls.length bs S) (k + nd + 1) ∧ AFr B l v.ownBlock w w' := by
  have hsz := hD.ok.size
  obtain ⟨AV, cV, rfl⟩ := row_slice hR.row
  have hnd1 : 1 ≤ nd := by rw [hnd, Hv.need_of hb1 hb2]; omega
  have hndz : nd ≤ 4096 := by omega
  have CN := need_any (nb : Int)
  rw [← hnd] at CN
  obtain ⟨wa, hwa⟩ : ∃ wa, wa = (w.alloc (.cells #[.pointer (some ⟨l, 0, none⟩)] 30)).alloc (.cells #[.slice A nb c] 39) := ⟨_, rfl⟩
  have HWA := Lib.hid hwa
  have HBA : Hid (Below w.heap.size w wa) := Lib.hid (by rw [hwa]; exact ((Below.refl _ _).alloc (Nat.le_refl _) _).alloc (by simp) _)
  have HSA : Hid (wa.heap.size = w.heap.size + 2) := Lib.hid (by rw [hwa]; simp)
  have HQ2 : Hid (Blk wa w.heap.size 30 #[.pointer (some ⟨l, 0, none⟩)]) := Lib.hid (by rw [hwa]; exact (Blk.new w _ _).alloc _)
  have HQ3 : Hid (Blk wa (w.heap.size + 1) 39 #[.slice A nb c]) := Lib.hid (by
    rw [hwa]
    have := Blk.new (w.alloc (.cells #[.pointer (some ⟨l, 0, none⟩)] 30)) 39 #[.slice A nb c]
    simpa using this)
  obtain ⟨wb, hwb⟩ : ∃ wb, wb = wa.alloc (.cells #[.int .i64 (nd : Int)] 3) := ⟨_, rfl⟩
  have HWB := Lib.hid hwb
  have HB1 : Hid (Below wa.heap.size wa wb) := Lib.hid (by rw [hwb]; exact below_al wa _)
  have HBB : Hid (Below w.heap.size w wb) := Lib.hid (below_then HBA.out HB1.out)
  have HQ5 : Hid (Blk wb wa.heap.size 3 #[.int .i64 (nd : Int)]) := Lib.hid (by rw [hwb]; exact Blk.new _ _ _)
  have HSB : Hid (wb.heap.size = w.heap.size + 3) := Lib.hid (by rw [hwb]; have := HSA.out; simp; omega)
  have HBS : Hid (B ≤ w.heap.size) := Lib.hid (by have := hD.lt; omega)
  -- the work, from whatever world it begins in
  have HWK : Hid (∀ wc, Below w.heap.size w wc → wb.heap.size ≤ wc.heap.size → Blk wc w.heap.size 30 #[.pointer (some ⟨l, 0, none⟩)] → Blk wc (w.heap.size + 1) 39 #[.slice A nb c] → Blk wc wa.heap.size 3 #[.int .i64 (nd : Int)] →
      Calls Tryd.prog 26 #[.pointer (some ⟨l, 0, none⟩), .func (.func 28) #[] #[.pointer (some ⟨w.heap.size, 0, none⟩), .pointer (some ⟨w.heap.size + 1, 0, none⟩), .pointer (some ⟨wa.heap.size, 0, none⟩)]] wc fun e w' => e = .returned .nilIface ∧ LogsAt B w' l d z 0 n (m + nd) false (ls ++ [bs]) (Hv.laidS 0 m n ls.length bs S) (k + nd + 1) ∧ AFr B l (Value.slice AV ls.length cV).ownBlock w w') := Lib.hid (fun wc hwc hsc h2 h3 h5 => by
    have hba := below_attBox wc l
    have hwc2 := below_then hwc hba
    have hw := append1_0 a w0 (attBox wc l) n m AV cV us ls (hL.below hwc2) (hR.below hwc2) (hD.below hwc2) hu hz hi hk (hE.below hwc2) hn hlen w.heap.size (w.heap.size + 1) wa.heap.size A nb c nd bs hbl hb1 hb2 (fun w' ht => hr w' ((TFr.below hwc2).trans ht)) hby hnd hm (h2.below hba h2.lt) (h3.below hba h3.lt) (h5.below hba h5.lt) (fun e => by
      obtain ⟨_, cs, hg⟩ := own_blk hR.row e.symm
      have := hg.lt
      omega)
    have e3 : (#[] : Array Value) ++ #[.pointer (some ⟨w.heap.size, 0, none⟩), .pointer (some ⟨w.heap.size + 1, 0, none⟩), .pointer (some ⟨wa.heap.size, 0, none⟩)] = #[.pointer (some ⟨w.heap.size, 0, none⟩), .pointer (some ⟨w.heap.size + 1, 0, none⟩), .pointer (some ⟨wa.heap.size, 0, none⟩)] := by simp
    have hgl : ∀ g, (Value.slice AV ls.length cV).ownBlock = some g → g < w.heap.size := fun g e => by
      obtain ⟨_, cs, hg⟩ := own_blk hR.row e
      exact hg.lt
    have hlt := hL.blk.lt
    have hsw := hwc.size
    have hB0 := HBS.out
    have her : Blk (attBox wc l) (wc.heap.size + 1) 27 #[.nilIface] := by
      have := Blk.new (wc.alloc (.cells #[.pointer (some ⟨l, 0, none⟩)] 30)) 27 #[.nilIface]
      simpa using this
    clear hL hR hD hE hr h2 h3 h5
    generalize (Value.slice AV ls.length cV).ownBlock = row at hw hgl ⊢
    generalize Hv.laidS 0 m n ls.length bs S = S' at hw ⊢
    generalize ls ++ [bs] = ls' at hw ⊢
    refine Calls.mono (attempt_ok 28 #[] #[.pointer (some ⟨w.heap.size, 0, none⟩), .pointer (some ⟨w.heap.size + 1, 0, none⟩), .pointer (some ⟨wa.heap.size, 0, none⟩)] l wc (fun w' => LogsAt B w' l d z 0 n (m + nd) false ls' S' (k + nd + 1) ∧ AFr B l row w w' ∧ ∃ c, Blk w' (wc.heap.size + 1) 27 #[c]) (fun args w => by simp [go_sem]) ?_ (fun a h => h.2.2) ?_) ?_
    · rw [e3]
      refine hw.mono ?_
      rintro e w' ⟨h1, h2, h3, h4⟩
      exact ⟨h1, ⟨h2, h3⟩, (AFr.below hwc2).trans h4, .nilIface, h4.typed _ _ _ (by omega) (fun e => by have := hgl _ e.symm; omega) her (by decide) (by decide)⟩
    · rintro a x ⟨h1, h2, c, h3⟩
      exact ⟨h1.set h3 rfl 0 x, h2.setNew hB0 (by omega) 0 x, x, h3.set_ 0 x⟩
    rintro e w' ⟨h1, h2, h3, _⟩
    exact ⟨h1, h2, h3⟩)
  have HLW := Lib.hid hL
  have c10 : wb.cell? ⟨l, 10, none⟩ = some (.bool false) := (hL.below HBB.out).blk.cell 10
  have p2 : wb.cell? ⟨w.heap.size, 0, none⟩ = some (.pointer (some ⟨l, 0, none⟩)) := (HQ2.out.below HB1.out HQ2.out.lt).cell 0
  have p5 : wb.cell? ⟨wa.heap.size, 0, none⟩ = some (.int .i64 (nd : Int)) := HQ5.out.cell 0
  have p3 : ((w.alloc (.cells #[.pointer (some ⟨l, 0, none⟩)] 30)).alloc (.cells #[.slice A nb c] 39)).cell? ⟨w.heap.size + 1, 0, none⟩ = some (.slice A nb c) := by rw [← HWA.out]; exact HQ3.out.cell 0
  have b0 : ((nd : Int) == 0) = false := by simp; omega
  have HND := Lib.hid hnd
  clear hwa hwb hL hR hD hE hr hby hu hnd hbl
  go_enter Tryd.func12, Tryd.ntmps12
  go_wp2_with fail
  go_at_call 20
  rw [← HWA.out]
  refine (CN _ (WalkArith.wf_i64 (by omega))).mono ?_
  rintro e wn ⟨rfl, rfl⟩
  clear CN p3
  go_wp2_with (rw [← HWB.out])
  have i6 : ¬ ((z - m : Nat) : Int) < (nd : Int) := by omega
  obtain ⟨rm, hrm⟩ : ∃ rm, rm = z - m := ⟨_, rfl⟩
  have HL6 := Lib.hid (HLW.out.below (below_drewN HBB.out 1))
  have CR := lroom_any (wb.drewN 1) HL6.out (by omega) (by omega) (by omega)
  rw [← hrm] at CR i6
  clear hrm c10 p2 p5 b0
  have HS6 : Hid (Blk (wb.drewN 1) w.heap.size 30 #[.pointer (some ⟨l, 0, none⟩)] ∧ Blk (wb.drewN 1) wa.heap.size 3 #[.int .i64 (nd : Int)]) := Lib.hid ⟨(HQ2.out.below HB1.out HQ2.out.lt).drewN 1, HQ5.out.drewN 1⟩
  have HS7 : Hid (∀ j, Blk ((wb.drewN 1).drewN j) w.heap.size 30 #[.pointer (some ⟨l, 0, none⟩)] ∧ Blk ((wb.drewN 1).drewN j) wa.heap.size 3 #[.int .i64 (nd : Int)]) := Lib.hid (fun j => ⟨HS6.out.1.drewN j, HS6.out.2.drewN j⟩)
  refine wp_region_held (S := (fun w' => Blk w' w.heap.size 30 #[.pointer (some ⟨l, 0, none⟩)] ∧ Blk w' wa.heap.size 3 #[.int .i64 (nd : Int)])) (by kernel_rfl) ?_
  change wpAnyH _ _ _ _ _ _ _ _ (wb.drewN 1)
  refine wpAnyH_take (i := 0) (v := ?_) rfl (by kernel_rfl) (by kernel_rfl) (by kernel_rfl) (fun _ _ _ h => h) (Or.inl ⟨by rfl, ?_⟩) (HS6.out) ?_
  rotate_left
  · intro w' hS; have q0 : w'.cell? ⟨wa.heap.size, 0, none⟩ = some (.int .i64 (nd : Nat)) := hS.2.cell 0; go_simp; with_reducible rfl
  try simp only [Act.put, List.getElem_toArray, List.getElem_cons_zero, List.setIfInBounds_toArray, List.set_cons_zero, List.set_cons_succ]
  refine wpAnyH_take (i := 1) (v := ?_) rfl (by kernel_rfl) (by kernel_rfl) (by kernel_rfl) (fun _ _ _ h => h) (Or.inl ⟨by rfl, ?_⟩) (HS6.out) ?_
  rotate_left
  · intro w' hS; have q0 : w'.cell? ⟨w.heap.size, 0, none⟩ = some (.pointer (some ⟨l, 0, none⟩)) := hS.1.cell 0; go_simp; with_reducible rfl
  try simp only [Act.put, List.getElem_toArray, List.getElem_cons_zero, List.getElem_cons_succ, List.setIfInBounds_toArray, List.set_cons_zero, List.set_cons_succ]
  refine all_one (i := 2) (by kernel_rfl) rfl (by rfl) (fun K hK => ?_)
  go_simp
  refine CR.mono ?_
  rintro e w6 ⟨rfl, j, rfl⟩
  dsimp only
  refine hK _ _ (HS7.out _) ?_; clear hK K CR
  try simp only [Act.put, List.getElem_toArray, List.getElem_cons_zero, List.getElem_cons_succ, List.setIfInBounds_toArray, List.set_cons_zero, List.set_cons_succ]
  refine wpAnyH_take (i := 3) (v := ?_) rfl (by kernel_rfl) (by kernel_rfl) (by kernel_rfl) (fun _ _ _ h => h) (Or.inl ⟨by rfl, ?_⟩) ((HS7.out _)) ?_
  rotate_left
  · intro w _; go_simp; with_reducible rfl
  try simp only [Act.put, List.getElem_toArray, List.getElem_cons_zero, List.getElem_cons_succ, List.setIfInBounds_toArray, List.set_cons_zero, List.set_cons_succ]
  refine wpAnyH_take (i := 4) (v := ?_) rfl (by kernel_rfl) (by kernel_rfl) (by kernel_rfl) (fun _ _ _ h => h) (Or.inl ⟨by rfl, ?_⟩) ((HS7.out _)) ?_
  rotate_left
  · intro w _; go_simp; with_reducible rfl
  try simp only [Act.put, List.getElem_toArray, List.getElem_cons_zero, List.getElem_cons_succ, List.setIfInBounds_toArray, List.set_cons_zero, List.set_cons_succ]
  refine wpAnyH_done (by kernel_rfl) ?_ _
  obtain ⟨wc, hwc⟩ : ∃ wc, wc = (wb.drewN 1).drewN j := ⟨_, rfl⟩
  have HBC : Hid (Below w.heap.size w wc) := Lib.hid (by rw [hwc]; exact below_drewN (below_drewN HBB.out 1) j)
  have HSC : Hid (wb.heap.size ≤ wc.heap.size) := Lib.hid (by rw [hwc]; exact Nat.le_refl _)
  have HC2 : Hid (Blk wc w.heap.size 30 #[.pointer (some ⟨l, 0, none⟩)]) := Lib.hid (by rw [hwc]; exact (HS7.out j).1)
  have HC5 : Hid (Blk wc wa.heap.size 3 #[.int .i64 (nd : Int)]) := Lib.hid (by rw [hwc]; exact (HS7.out j).2)
  have HC3 : Hid (Blk wc (w.heap.size + 1) 39 #[.slice A nb c]) := Lib.hid (by rw [hwc]; exact ((HQ3.out.below HB1.out HQ3.out.lt).drewN 1).drewN j)
  have CA := HWK.out wc HBC.out HSC.out HC2.out HC3.out HC5.out
  have p2 : wc.cell? ⟨w.heap.size, 0, none⟩ = some (.pointer (some ⟨l, 0, none⟩)) := HC2.out.cell 0
  rw [← hwc]
  clear hwc
  have hmf : ∀ (fn : Fn) (first cap : Array Value) (w : World), (Instr.makeFunc fn first cap).run Tryd.prog w = .ok (.func fn first cap) w := fun _ _ _ _ => rfl
  go_wp2_with fail
  go_at_call 26
  refine CA.mono ?_
  rintro e w8 ⟨rfl, h2, h3⟩
  have H2 := Lib.hid h2
  have H3 := Lib.hid h3
  clear h2 h3 CA p2
  go_wp2_with fail
  go_ret
  exact ⟨rfl, H2.out, H3.out⟩
end Go.Proofs.YtbllilokcalbcaaDoor
