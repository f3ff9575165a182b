/- Layer 5: Append, where the power is on and there is room. -/
import Derived.Test.YtdokojlgcplefaaDoorMHv19
namespace Go.Proofs.YtdokojlgcplefaaDoor
open Go Go.RowKit
theorem AFr.setNew {B l : Nat} {row : Option Nat} {w w' : World} (h : AFr B l row w w') (_hB : B ≤ w.heap.size) {b : Nat} (hb : w.heap.size ≤ b) (i : Nat) (u : Value) : AFr B l row w (w'.setCell ⟨b, i, none⟩ u) :=
 ⟨h.os, h.tape, h.output, by simpa using h.size, fun x hx hl => (Below.heap_setCell _ _ _ _ (by show x ≠ b; omega)).trans (h.low x hx hl), fun x t cs hn hr hk h1 h2 => (h.typed x t cs hn hr hk h1 h2).far (by have := hk.lt; show x ≠ b; omega) _⟩
set_option maxRecDepth 100000 in
set_option maxHeartbeats 1000000 in
theorem append_0 {B l d z k : Nat} {S : Dk.D} (a : Nat → Addr) (w0 w : World) (n m : Nat) (v : Value) (us : List Value) (ls : List (List Nat)) (hL : LogAt B w l d z 0 n v m false) (hR : Recs B w v us ls) (hD : DkX B w d S k) (hu : Hv.Up S) (hz : 2 ≤ z) (hi : z + z ≤ S.size) (hk : k + 100000 < 1000000) (hE : Env B a w0 w) (hn : n ≤ Hv.top) (hlen : ls.length ≤ 90000)
  (A : Option Addr) (nb c nd : Nat) (bs : List Nat) (hbl : bs.length = nb) (hb1 : 1 ≤ nb) (hb2 : nb ≤ 3000) (hr : ∀ w', TFr B w w' → Rd w' (.slice A nb c) bs) (hby : Sha.Byte bs) (hnd : nd = Hv.need (nb : Int)) (hm : m + nd ≤ z) :
  Calls Tryd.prog 10 #[.pointer (some ⟨l, 0, none⟩), .slice A nb c] w fun e w' => e = .returned .nilIface ∧ LogsAt B w' l d z 0 n (m + nd) false (ls ++ [bs]) (Hv.laidS 0 m n ls.length bs S) (k + nd + 1) ∧ AFr B l v.ownBlock w w' := by
 have hsz := hD.ok.size
 obtain ⟨AV, cV, rfl⟩ := row_slice hR.row
 have hnd1 : 1 ≤ nd := by rw [hnd, Hv.need_of hb1 hb2]; omega
 have hndz : nd ≤ 4096 := by omega
 have CN := need_any (nb : Int)
 rw [← hnd] at CN
 obtain ⟨wa, hwa⟩ : ∃ wa, wa = (w.alloc (.cells #[.pointer (some ⟨l, 0, none⟩)] 30)).alloc (.cells #[.slice A nb c] 39) := ⟨_, rfl⟩
 have HWA := Lib.hid hwa
 have HBA : Hid (Below w.heap.size w wa) := Lib.hid (by rw [hwa]; exact ((Below.refl _ _).alloc (Nat.le_refl _) _).alloc (by simp) _)
 have HSA : Hid (wa.heap.size = w.heap.size + 2) := Lib.hid (by rw [hwa]; simp)
 have HQ2 : Hid (Blk wa w.heap.size 30 #[.pointer (some ⟨l, 0, none⟩)]) := Lib.hid (by rw [hwa]; exact (Blk.new w _ _).alloc _)
 have HQ3 : Hid (Blk wa (w.heap.size + 1) 39 #[.slice A nb c]) := Lib.hid (by
  rw [hwa]
  have := Blk.new (w.alloc (.cells #[.pointer (some ⟨l, 0, none⟩)] 30)) 39 #[.slice A nb c]
  simpa using this)
 obtain ⟨wb, hwb⟩ : ∃ wb, wb = wa.alloc (.cells #[.int .i64 (nd : Int)] 3) := ⟨_, rfl⟩
 have HWB := Lib.hid hwb
 have HB1 : Hid (Below wa.heap.size wa wb) := Lib.hid (by rw [hwb]; exact below_al wa _)
 have HBB : Hid (Below w.heap.size w wb) := Lib.hid (below_then HBA.out HB1.out)
 have HQ5 : Hid (Blk wb wa.heap.size 3 #[.int .i64 (nd : Int)]) := Lib.hid (by rw [hwb]; exact Blk.new _ _ _)
 have HSB : Hid (wb.heap.size = w.heap.size + 3) := Lib.hid (by rw [hwb]; have := HSA.out; simp; omega)
 have HBS : Hid (B ≤ w.heap.size) := Lib.hid (by have := hD.lt; omega)
 have HWK : Hid (∀ wc, Below w.heap.size w wc → wb.heap.size ≤ wc.heap.size → Blk wc w.heap.size 30 #[.pointer (some ⟨l, 0, none⟩)] → Blk wc (w.heap.size + 1) 39 #[.slice A nb c] → Blk wc wa.heap.size 3 #[.int .i64 (nd : Int)] →
   Calls Tryd.prog 20 #[.pointer (some ⟨l, 0, none⟩), .func (.func 24) #[] #[.pointer (some ⟨w.heap.size, 0, none⟩), .pointer (some ⟨w.heap.size + 1, 0, none⟩), .pointer (some ⟨wa.heap.size, 0, none⟩)]] wc fun e w' => e = .returned .nilIface ∧ LogsAt B w' l d z 0 n (m + nd) false (ls ++ [bs]) (Hv.laidS 0 m n ls.length bs S) (k + nd + 1) ∧ AFr B l (Value.slice AV ls.length cV).ownBlock w w') := Lib.hid (fun wc hwc hsc h2 h3 h5 => by
  have hba := below_attBox wc l
  have hwc2 := below_then hwc hba
  have hw := append1_0 a w0 (attBox wc l) n m AV cV us ls (hL.below hwc2) (hR.below hwc2) (hD.below hwc2) hu hz hi hk (hE.below hwc2) hn hlen w.heap.size (w.heap.size + 1) wa.heap.size A nb c nd bs hbl hb1 hb2 (fun w' ht => hr w' ((TFr.below hwc2).trans ht)) hby hnd hm (h2.below hba h2.lt) (h3.below hba h3.lt) (h5.below hba h5.lt) (fun e => by
   obtain ⟨_, cs, hg⟩ := own_blk hR.row e.symm
   have := hg.lt
   omega)
  have e3 : (#[] : Array Value) ++ #[.pointer (some ⟨w.heap.size, 0, none⟩), .pointer (some ⟨w.heap.size + 1, 0, none⟩), .pointer (some ⟨wa.heap.size, 0, none⟩)] = #[.pointer (some ⟨w.heap.size, 0, none⟩), .pointer (some ⟨w.heap.size + 1, 0, none⟩), .pointer (some ⟨wa.heap.size, 0, none⟩)] := by simp
  have hgl : ∀ g, (Value.slice AV ls.length cV).ownBlock = some g → g < w.heap.size := fun g e => by
   obtain ⟨_, cs, hg⟩ := own_blk hR.row e
   exact hg.lt
  have hlt := hL.blk.lt
  have hsw := hwc.size
  have hB0 := HBS.out
  have her : Blk (attBox wc l) (wc.heap.size + 1) 27 #[.nilIface] := by
   have := Blk.new (wc.alloc (.cells #[.pointer (some ⟨l, 0, none⟩)] 30)) 27 #[.nilIface]
   simpa using this
  clear hL hR hD hE hr h2 h3 h5
  generalize (Value.slice AV ls.length cV).ownBlock = row at hw hgl ⊢
  generalize Hv.laidS 0 m n ls.length bs S = S' at hw ⊢
  generalize ls ++ [bs] = ls' at hw ⊢
  refine Calls.mono (attempt_ok 24 #[] #[.pointer (some ⟨w.heap.size, 0, none⟩), .pointer (some ⟨w.heap.size + 1, 0, none⟩), .pointer (some ⟨wa.heap.size, 0, none⟩)] l wc (fun w' => LogsAt B w' l d z 0 n (m + nd) false ls' S' (k + nd + 1) ∧ AFr B l row w w' ∧ ∃ c, Blk w' (wc.heap.size + 1) 27 #[c]) (fun args w => by simp [go_sem]) ?_ (fun a h => h.2.2) ?_) ?_
  ·rw [e3]
   refine hw.mono ?_
   rintro e w' ⟨h1, h2, h3, h4⟩
   exact ⟨h1, ⟨h2, h3⟩, (AFr.below hwc2).trans h4, .nilIface, h4.typed _ _ _ (by omega) (fun e => by have := hgl _ e.symm; omega) her (by decide) (by decide)⟩
  ·rintro a x ⟨h1, h2, c, h3⟩
   exact ⟨h1.set h3 rfl 0 x, h2.setNew hB0 (by omega) 0 x, x, h3.set_ 0 x⟩
  rintro e w' ⟨h1, h2, h3, _⟩
  exact ⟨h1, h2, h3⟩)
 have HLW := Lib.hid hL
 have c10 : wb.cell? ⟨l, 10, none⟩ = some (.bool false) := (hL.below HBB.out).blk.cell 10
 have p2 : wb.cell? ⟨w.heap.size, 0, none⟩ = some (.pointer (some ⟨l, 0, none⟩)) := (HQ2.out.below HB1.out HQ2.out.lt).cell 0
 have p5 : wb.cell? ⟨wa.heap.size, 0, none⟩ = some (.int .i64 (nd : Int)) := HQ5.out.cell 0
 have p3 : ((w.alloc (.cells #[.pointer (some ⟨l, 0, none⟩)] 30)).alloc (.cells #[.slice A nb c] 39)).cell? ⟨w.heap.size + 1, 0, none⟩ = some (.slice A nb c) := by rw [← HWA.out]; exact HQ3.out.cell 0
 have b0 : ((nd : Int) == 0) = false := by simp; omega
 have HND := Lib.hid hnd
 clear hwa hwb hL hR hD hE hr hby hu hnd hbl
 go_enter Tryd.func10, Tryd.ntmps10
 go_wp2_with fail
 go_at_call 22
 rw [← HWA.out]
 refine (CN _ (WalkArith.wf_i64 (by omega))).mono ?_
 rintro e wn ⟨rfl, rfl⟩
 clear CN p3
 go_wp2_with (rw [← HWB.out])
 have i6 : ¬ ((z - m : Nat) : Int) < (nd : Int) := by omega
 obtain ⟨rm, hrm⟩ : ∃ rm, rm = z - m := ⟨_, rfl⟩
 have HL6 := Lib.hid (HLW.out.below (below_drewN HBB.out 1))
 have CR := lroom_any (wb.drewN 1) HL6.out (by omega) (by omega) (by omega)
 rw [← hrm] at CR i6
 clear hrm c10 p2 p5 b0
 have HS6 : Hid (Blk (wb.drewN 1) w.heap.size 30 #[.pointer (some ⟨l, 0, none⟩)] ∧ Blk (wb.drewN 1) wa.heap.size 3 #[.int .i64 (nd : Int)]) := Lib.hid ⟨(HQ2.out.below HB1.out HQ2.out.lt).drewN 1, HQ5.out.drewN 1⟩
 have HS7 : Hid (∀ j, Blk ((wb.drewN 1).drewN j) w.heap.size 30 #[.pointer (some ⟨l, 0, none⟩)] ∧ Blk ((wb.drewN 1).drewN j) wa.heap.size 3 #[.int .i64 (nd : Int)]) := Lib.hid (fun j => ⟨HS6.out.1.drewN j, HS6.out.2.drewN j⟩)
 refine wp_region_held (S := (fun w' => Blk w' w.heap.size 30 #[.pointer (some ⟨l, 0, none⟩)] ∧ Blk w' wa.heap.size 3 #[.int .i64 (nd : Int)])) (by kernel_rfl) ?_
 change wpAnyH _ _ _ _ _ _ _ _ (wb.drewN 1)
 refine wpAnyH_take (i := 0) (v := ?_) rfl (by kernel_rfl) (by kernel_rfl) (by kernel_rfl) (fun _ _ _ h => h) (Or.inl ⟨by rfl, ?_⟩) (HS6.out) ?_
 rotate_left
 ·intro w' hS; have q0 : w'.cell? ⟨wa.heap.size, 0, none⟩ = some (.int .i64 (nd : Nat)) := hS.2.cell 0; go_simp; with_reducible rfl
 try simp only [Act.put, List.getElem_toArray, List.getElem_cons_zero, List.setIfInBounds_toArray, List.set_cons_zero, List.set_cons_succ]
 refine wpAnyH_take (i := 1) (v := ?_) rfl (by kernel_rfl) (by kernel_rfl) (by kernel_rfl) (fun _ _ _ h => h) (Or.inl ⟨by rfl, ?_⟩) (HS6.out) ?_
 rotate_left
 ·intro w' hS; have q0 : w'.cell? ⟨w.heap.size, 0, none⟩ = some (.pointer (some ⟨l, 0, none⟩)) := hS.1.cell 0; go_simp; with_reducible rfl
 try simp only [Act.put, List.getElem_toArray, List.getElem_cons_zero, List.getElem_cons_succ, List.setIfInBounds_toArray, List.set_cons_zero, List.set_cons_succ]
 refine all_one (i := 2) (by kernel_rfl) rfl (by rfl) (fun K hK => ?_)
 go_simp
 refine CR.mono ?_
 rintro e w6 ⟨rfl, j, rfl⟩
 dsimp only
 refine hK _ _ (HS7.out _) ?_; clear hK K CR
 try simp only [Act.put, List.getElem_toArray, List.getElem_cons_zero, List.getElem_cons_succ, List.setIfInBounds_toArray, List.set_cons_zero, List.set_cons_succ]
 refine wpAnyH_take (i := 3) (v := ?_) rfl (by kernel_rfl) (by kernel_rfl) (by kernel_rfl) (fun _ _ _ h => h) (Or.inl ⟨by rfl, ?_⟩) ((HS7.out _)) ?_
 rotate_left
 ·intro w _; go_simp; with_reducible rfl
 try simp only [Act.put, List.getElem_toArray, List.getElem_cons_zero, List.getElem_cons_succ, List.setIfInBounds_toArray, List.set_cons_zero, List.set_cons_succ]
 refine wpAnyH_take (i := 4) (v := ?_) rfl (by kernel_rfl) (by kernel_rfl) (by kernel_rfl) (fun _ _ _ h => h) (Or.inl ⟨by rfl, ?_⟩) ((HS7.out _)) ?_
 rotate_left
 ·intro w _; go_simp; with_reducible rfl
 try simp only [Act.put, List.getElem_toArray, List.getElem_cons_zero, List.getElem_cons_succ, List.setIfInBounds_toArray, List.set_cons_zero, List.set_cons_succ]
 refine wpAnyH_done (by kernel_rfl) ?_ _
 obtain ⟨wc, hwc⟩ : ∃ wc, wc = (wb.drewN 1).drewN j := ⟨_, rfl⟩
 have HBC : Hid (Below w.heap.size w wc) := Lib.hid (by rw [hwc]; exact below_drewN (below_drewN HBB.out 1) j)
 have HSC : Hid (wb.heap.size ≤ wc.heap.size) := Lib.hid (by rw [hwc]; exact Nat.le_refl _)
 have HC2 : Hid (Blk wc w.heap.size 30 #[.pointer (some ⟨l, 0, none⟩)]) := Lib.hid (by rw [hwc]; exact (HS7.out j).1)
 have HC5 : Hid (Blk wc wa.heap.size 3 #[.int .i64 (nd : Int)]) := Lib.hid (by rw [hwc]; exact (HS7.out j).2)
 have HC3 : Hid (Blk wc (w.heap.size + 1) 39 #[.slice A nb c]) := Lib.hid (by rw [hwc]; exact ((HQ3.out.below HB1.out HQ3.out.lt).drewN 1).drewN j)
 have CA := HWK.out wc HBC.out HSC.out HC2.out HC3.out HC5.out
 have p2 : wc.cell? ⟨w.heap.size, 0, none⟩ = some (.pointer (some ⟨l, 0, none⟩)) := HC2.out.cell 0
 rw [← hwc]
 clear hwc
 have hmf : ∀ (fn : Fn) (first cap : Array Value) (w : World), (Instr.makeFunc fn first cap).run Tryd.prog w = .ok (.func fn first cap) w := fun _ _ _ _ => rfl
 go_wp2_with fail
 go_at_call 20
 refine CA.mono ?_
 rintro e w8 ⟨rfl, h2, h3⟩
 have H2 := Lib.hid h2
 have H3 := Lib.hid h3
 clear h2 h3 CA p2
 go_wp2_with fail
 go_ret
 exact ⟨rfl, H2.out, H3.out⟩
end Go.Proofs.YtdokojlgcplefaaDoor
/- Layer 5: what is seen on a disk behind deeds; heads and records are found again; Records. -/
namespace Go.Proofs.YtdokojlgcplefaaDoor
open Go Go.RowKit
namespace Hd
open Dk
theorem last_append (i : Int) (p : Nat × List Nat) (ks : List (Nat × List Nat)) : last (ks ++ [p]) i = if (p.1 : Int) = i then some ks.length else last ks i := last_snoc ks p i
theorem puts_snoc (S : D) (ks : List (Nat × List Nat)) (p : Nat × List Nat) : puts S (ks ++ [p]) = put (puts S ks) p.1 p.2 := by simp [puts, List.foldl_append]
theorem puts_safe (S : D) (i : Nat) (ks : List (Nat × List Nat)) : (puts S ks).safe i = match last ks (i : Int) with | some k => ((ks[k]?).map (·.2)).getD [] | none => S.safe i := by
 suffices H : ∀ n (ks : List (Nat × List Nat)), ks.length = n → (puts S ks).safe i = match last ks (i : Int) with | some k => ((ks[k]?).map (·.2)).getD [] | none => S.safe i from H _ ks rfl
 intro n
 induction n with
 | zero => intro ks h; obtain rfl := List.eq_nil_of_length_eq_zero h; rfl
 | succ n ih =>
  intro ks h
  obtain ⟨ks', p, rfl⟩ : ∃ ks' p, ks = ks' ++ [p] := ⟨ks.dropLast, ks.getLast (by intro e; rw [e] at h; cases h), (List.dropLast_concat_getLast _).symm⟩
  have hl : ks'.length = n := by simpa using h
  have := ih ks' hl
  rw [puts_snoc, last_append]
  by_cases hp : p.1 = i
  ·rw [if_pos (by omega)]
   show (if i = p.1 then p.2 else _) = _
   rw [if_pos hp.symm]
   simp
  ·rw [if_neg (by omega)]
   show (if i = p.1 then p.2 else (puts S ks').safe i) = _
   rw [if_neg (fun e => hp e.symm), this]
   cases hk : last ks' (i : Int) with
   | none => rfl
   | some k =>
    obtain ⟨q, hq, _⟩ := last_some hk
    have hlt := (List.getElem?_eq_some_iff.1 hq).1
    simp only [List.getElem?_append_left hlt]
theorem all_seen (S : D) (i : Nat) : (puts S S.pend).safe i = Dk.seen S i := by rw [puts_safe]; unfold Dk.seen; rfl
end Hd
namespace Hv
theorem seen_pend (S : Dk.D) (ps : List (Nat × List Nat)) (p : Nat × List Nat) (i : Nat) : Dk.seen { S with pend := ps ++ [p] } i = if p.1 = i then p.2 else Dk.seen { S with pend := ps } i := by
 unfold Dk.seen
 simp only [Hd.last_append]
 by_cases h : p.1 = i
 ·rw [if_pos (by omega), if_pos h]
  simp
 ·rw [if_neg (by omega), if_neg h]
  cases hk : Dk.last ps (i : Int) with
  | none => rfl
  | some k =>
   obtain ⟨q, hq, _⟩ := Dk.last_some hk
   simp only [List.getElem?_append_left (List.getElem?_eq_some_iff.1 hq).1]
theorem seen_wrote {S : Dk.D} (h : Up S) (i j : Nat) (bs : List Nat) : Dk.seen (Dk.wrote S i bs) j = if i = j then padB bs else Dk.seen S j := by
 unfold Dk.wrote
 have hd : Dk.dead S = false := by simp [Dk.dead, h.2]
 rw [if_neg (by rw [h.1]; simp), if_neg (by rw [hd]; simp)]
 exact seen_pend (Dk.did S) S.pend (i, padB bs) j
theorem seen_syncs {S : Dk.D} (h : Up S) (j : Nat) : Dk.seen (Dk.syncs S) j = Dk.seen S j := by
 unfold Dk.syncs
 have hd : Dk.dead S = false := by simp [Dk.dead, h.2]
 rw [if_neg (by rw [h.1]; simp), if_neg (by rw [hd]; simp)]
 show (Dk.synced (Dk.did S)).safe j = _
 exact Hd.all_seen (Dk.did S) j
theorem seen_wipe {f : Nat} : ∀ {n i : Nat} {S : Dk.D} (_ : Up S) (j : Nat), Dk.seen (wipeN f i n S).2.2 j = if f + i ≤ j ∧ j < f + i + n then zs else Dk.seen S j
 | 0, i, S, h, j => by rw [if_neg (by omega)]; rfl
 | n + 1, i, S, h, j => by
  unfold Hv.wipeN
  split
  ·rename_i hz
   rw [seen_wipe h j]
   by_cases h1 : f + i = j
   ·subst h1
    rw [if_neg (by omega), if_pos (by omega), hz]
   ·by_cases h2 : f + (i + 1) ≤ j ∧ j < f + (i + 1) + n
    ·rw [if_pos h2, if_pos (by omega)]
    ·rw [if_neg h2, if_neg (by omega)]
  ·rw [if_pos h.done]
   show Dk.seen (wipeN f (i + 1) n (Dk.wrote S (f + i) [])).2.2 j = _
   rw [seen_wipe (h.wrote _ _) j, seen_wrote h]
   by_cases h1 : f + i = j
   ·subst h1
    rw [if_neg (by omega), if_pos rfl, if_pos (by omega)]
    rfl
   ·rw [if_neg h1]
    by_cases h2 : f + (i + 1) ≤ j ∧ j < f + (i + 1) + n
    ·rw [if_pos h2, if_pos (by omega)]
    ·rw [if_neg h2, if_neg (by omega)]
theorem padB_self {bs : List Nat} (h : bs.length = 32) : padB bs = bs := by simp [padB, h]
theorem seen_whole {S : Dk.D} (h : Up S) (f n j : Nat) : Dk.seen (wholeS f n S) j = if f = j then headB n 2 else Dk.seen S j := by
 unfold wholeS
 rw [seen_syncs (h.wrote _ _), seen_wrote h, padB_self (headB_len _ _)]
theorem seen_begun {S : Dk.D} (h : Up S) (f z n j : Nat) (hz : 1 ≤ z) : Dk.seen (begunS f z n S) j = if f + 1 ≤ j ∧ j < f + z then zs else if f = j then headB n 1 else Dk.seen S j := by
 unfold begunS
 have h1 := (h.wrote f (headB n 1)).syncs
 rw [seen_syncs h1.wipeN.2, seen_wipe h1, seen_syncs (h.wrote _ _), seen_wrote h, padB_self (headB_len _ _)]
 by_cases h2 : f + 1 ≤ j ∧ j < f + z
 ·rw [if_pos h2, if_pos (by omega)]
 ·rw [if_neg h2, if_neg (by omega)]
theorem Up.tail {S : Dk.D} (h : Up S) (f i n : Nat) : Up (tailS f i n S) ∧ (tailS f i n S).size = S.size := by
 unfold tailS
 split
 ·exact ⟨h.wipeN.2.syncs, (syncs_nums _).1.trans wipeN_size⟩
 ·exact ⟨h.wipeN.2, wipeN_size⟩
theorem seen_tail {S : Dk.D} (h : Up S) (f i n j : Nat) : Dk.seen (tailS f i n S) j = if f + i ≤ j ∧ j < f + i + n then zs else Dk.seen S j := by
 unfold tailS
 split
 ·rw [seen_syncs h.wipeN.2, seen_wipe h]
 ·exact seen_wipe h j
theorem putM_one {S : Dk.D} (h : Up S) (f m n p : Nat) (b : List Nat) (hb : need (b.length : Int) = 1) : (putM f m n p b S).2 = Dk.wrote S (f + m) ((recB n p b).take 32) := by
 unfold putM
 rw [hb]
 show (andM (wrM (f + (m + 0)) (((recB n p b).drop (32 * 0)).take 32)) _ S).2 = _
 rw [andM_yes (show (wrM (f + (m + 0)) _ S).1 = true from h.done)]
 rfl
theorem seen_laid_one {S : Dk.D} (h : Up S) (f m n p : Nat) (b : List Nat) (hb1 : 1 ≤ b.length) (hb2 : b.length ≤ 22) (j : Nat) : Dk.seen (laidS f m n p b S) j = if f + m = j then recB n p b else Dk.seen S j := by
 have hn : need (b.length : Int) = 1 := by rw [need_of hb1 (by omega)]; omega
 have hl : (recB n p b).length = 32 := by rw [recB_len hb1 (by omega), hn]
 unfold laidS
 rw [seen_syncs h.put.2.1, putM_one h f m n p b hn, seen_wrote h, List.take_of_length_le (by omega), padB_self hl]
theorem step_num {c k m n : Nat} {r : List Nat} (h1 : c ≠ 111) (h2 : c ≠ 116) (hz : Oc.zs c = k) (hm : Oc.mostN c = m) (hn : n < 256 ^ k) (hnm : n ≤ m) : Oc.step c (Oc.nums k n ++ r) = .ok n [] k := by
 unfold Oc.step
 rw [if_neg h1, if_neg h2, hz, hm, if_neg (by rw [List.length_append, Oc.nums_len]; omega), List.take_left' (Oc.nums_len _ _), Oc.val_nums _ _ hn, if_neg (by omega)]
theorem headB_is (n s : Nat) : ∃ r, headB n s = Oc.nums 8 n ++ (Oc.nums 1 s ++ r) := by
 unfold headB padTo said1
 generalize List.replicate _ 0 = r0
 refine ⟨sum8 wHead [Oc.nums 8 n ++ Oc.nums 1 s].flatten ++ r0, ?_⟩
 simp
theorem headM_of {n s : Nat} (h1 : 1 ≤ n) (h2 : n ≤ top) (hs : s = 1 ∨ s = 2) : headM (headB n s) = (n, s) := by
 have ht : n ≤ 1099511627776 := h2
 obtain ⟨r, hr⟩ := headB_is n s
 have e1 : Oc.step 113 (headB n s) = .ok n [] 8 := by
  rw [hr]
  exact step_num (by decide) (by decide) (by rfl) (show Oc.mostN 113 = 4611686018427387903 by rfl) (by omega) (by omega)
 have e2 : Oc.step 98 ((headB n s).drop 8) = .ok s [] 1 := by
  rw [hr, List.drop_left' (Oc.nums_len _ _)]
  exact step_num (by decide) (by decide) (by rfl) (show Oc.mostN 98 = 255 by rfl) (by omega) (by omega)
 have e3 : Oc.reads [113, 98] (headB n s) = .ok [(n, []), (s, [])] 9 := by
  unfold Oc.reads
  simp only [List.foldl_cons, List.foldl_nil, Oc.Got.next, List.drop_zero, e1, List.nil_append, Nat.zero_add, e2]
  rfl
 unfold headM
 rw [e3]
 simp only
 rw [if_pos ⟨hs, h1, h2, by trivial⟩]
theorem headM_zs : headM zs = (0, 0) := by
 have e3 : Oc.reads [113, 98] zs = .ok [(0, []), (0, [])] 9 := by rfl
 unfold headM
 rw [e3]
 simp only
 rw [if_neg (by rintro ⟨h, _⟩; omega)]
theorem recB_is (n p : Nat) (b : List Nat) : ∃ r, recB n p b = [b.length / 256, b.length % 256] ++ (sum8 wRecord [said2 n p, b].flatten ++ (b ++ r)) := by
 unfold recB padTo
 generalize List.replicate _ 0 = r0
 refine ⟨r0, ?_⟩
 simp
theorem recB_lenOf (n p : Nat) (b : List Nat) : lenOf (recB n p b) = b.length := by
 obtain ⟨r, hr⟩ := recB_is n p b
 rw [hr]
 show b.length / 256 * 256 + b.length % 256 = _
 omega
theorem recB_body (n p : Nat) (b : List Nat) : ((recB n p b).drop 10).take b.length = b := by
 obtain ⟨r, hr⟩ := recB_is n p b
 rw [hr, show 10 = ([b.length / 256, b.length % 256] : List Nat).length + 8 by rfl, ← List.drop_drop, List.drop_left, List.drop_left' (sum8_len _ _), List.take_left]
theorem pos_small {ls : List (List Nat)} (h : ∀ i, i < ls.length → 1 ≤ (ls.getD i []).length ∧ (ls.getD i []).length ≤ 22) : ∀ i, i ≤ ls.length → pos ls i = 1 + i
 | 0, _ => rfl
 | i + 1, hi => by
  have h1 := h i (by omega)
  show pos ls i + need ((ls.getD i []).length : Int) = _
  rw [pos_small h i (by omega), need_of h1.1 (by omega)]
  omega
end Hv
theorem reads_small {T : Dk.D} {f z n : Nat} {ls : List (List Nat)} (h : ∀ i, i < ls.length → 1 ≤ (ls.getD i []).length ∧ (ls.getD i []).length ≤ 22) (hz : 1 + ls.length ≤ z) (hf : f + z ≤ T.size) (hn : n ≤ Hv.top) (hz2 : z ≤ 100000)
  (hs : ∀ i, i < ls.length → Dk.seen T (f + (1 + i)) = Hv.recB n i (ls.getD i [])) (he : 1 + ls.length = z ∨ Dk.seen T (f + (1 + ls.length)) = Hv.zs) : Reads T f z n ls := by
 intro i hi B d k a w0 w hD hE ho
 rw [Hv.pos_small h i hi]
 by_cases hlt : i < ls.length
 ·have h1 := h i hlt
  have hsi := hs i hlt
  have hb : Hv.need (Hv.lenOf (Dk.seen T (f + (1 + i))) : Int) = 1 := by rw [hsi, Hv.recB_lenOf, Hv.need_of h1.1 (by omega)]; omega
  have hrm : Hv.recordM T f z (1 + i) n i = ls[i]? := by
   unfold Hv.recordM
   rw [if_neg (by omega), hb, if_neg (by omega)]
   have e1 : Hv.sectors T (f + (1 + i)) 1 = Hv.recB n i (ls.getD i []) := by rw [← hsi]; simp [Hv.sectors]
   rw [e1, hsi, Hv.recB_lenOf, Hv.recB_body, if_pos rfl, List.getD, List.getElem?_eq_getElem hlt]
   rfl
  refine (hrecord_one f z (1 + i) n i w hD ho (by omega) hf hb a w0 hE hn (by omega)).mono ?_
  rw [hrm]
  rintro e w' ⟨hb, h⟩
  exact ⟨hb, h⟩
 ·obtain rfl : i = ls.length := by omega
  rw [List.getElem?_eq_none (Nat.le_refl _)]
  rcases Nat.lt_or_ge (1 + ls.length) z with h2 | h2
  ·have hs0 : Dk.seen T (f + (1 + ls.length)) = Hv.zs := by
    rcases he with he | he
    ·omega
    ·exact he
   refine (hrecord_bad f z (1 + ls.length) n ls.length w hD ho h2 hf (Or.inl (by rw [hs0]; rfl))).mono ?_
   rintro e w' ⟨h1, h2⟩
   exact ⟨h2, .inl ⟨rfl, h1⟩⟩
  ·refine (hrecord_out f z (1 + ls.length) n ls.length w h2).mono ?_
   rintro e w' ⟨h1, h2⟩
   exact ⟨h2, .inl ⟨rfl, h1⟩⟩
section
variable {B l d z u n m : Nat} {dead : Bool} {ls : List (List Nat)} {v : Value} {us : List Value}
theorem lrecords_any (w : World) (hL : LogAt B w l d z u n v m dead) (hR : Recs B w v us ls) (hn : ls.length ≤ 100000) (hz : ∀ l ∈ ls, l.length ≤ 100000) :
  Calls Tryd.prog 14 #[.pointer (some ⟨l, 0, none⟩)] w fun e w' => ∃ v', e = .returned v' ∧ (∃ us, Recs w.heap.size w' v' us ls) ∧ Below w.heap.size w w' := by
 have p8 : w.cell? ⟨l, 8, none⟩ = some v := hL.blk.cell 8
 have CC := copies_any v us ls w hR.rdLL hn hz
 obtain ⟨A, c, rfl⟩ := row_slice hR.row
 clear hL hR
 go_enter Tryd.func14, Tryd.ntmps14
 go_wp2_with fail
 go_at_call 30
 refine CC.mono ?_
 rintro e w' ⟨v', rfl, h2, h3⟩
 have H2 := Lib.hid h2
 have H3 := Lib.hid h3
 clear h2 h3 CC p8
 go_wp2_with fail
 go_ret
 exact ⟨_, rfl, H2.out, H3.out⟩
end
end Go.Proofs.YtdokojlgcplefaaDoor
/- Layer 5: Append, where there is no room. -/
namespace Go.Proofs.YtdokojlgcplefaaDoor
open Go Go.RowKit
end Go.Proofs.YtdokojlgcplefaaDoor
