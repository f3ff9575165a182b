/- A disk is written: what is done ((*Disk).Write). -/
import Derived.Test.YtdokojlgcplefaaDoorMDisk1s
import Derived.Great.FillDense
import Derived.Great.BuildSlice
import Derived.Orders
import Derived.RegionTactic
import Derived.StillTail
import Derived.StillTactics
namespace Go.Proofs.YtdokojlgcplefaaDoor
open Go Go.RowKit
def Dk.wr (S : Dk.D) (i : Nat) (bs : List Nat) : Dk.D := { S with pend := S.pend ++ [(i, padB bs)] }
structure Fr (w w' : World) (d ms ml : Nat) (v : Value) : Prop where
 os : w'.os = w.os
 tape : w'.tape = w.tape
 output : w'.output = w.output
 size : w.heap.size ≤ w'.heap.size
 block : ∀ b, b < w.heap.size → b ≠ d → b ≠ ms → b ≠ ml → some b ≠ v.ownBlock → w'.heap[b]? = w.heap[b]?
theorem Fr.refl {w : World} {d ms ml : Nat} {v : Value} : Fr w w d ms ml v := ⟨rfl, rfl, rfl, Nat.le_refl _, fun _ _ _ _ _ _ => rfl⟩
theorem Fr.of {w w' : World} {d ms ml : Nat} {v : Value} {row : Option Nat} (hg : w.grownBy w' row) (h : ∀ g, row = some g → g = d ∨ g = ms ∨ g = ml ∨ some g = v.ownBlock) : Fr w w' d ms ml v :=
 ⟨hg.os, hg.tape, hg.output, hg.size, fun b hb h1 h2 h3 h4 => hg.block b hb (fun e => by
  rcases h b e.symm with h | h | h | h
  ·exact h1 h
  ·exact h2 h
  ·exact h3 h
  ·exact h4 h)⟩
theorem Fr.trans {w w' w'' : World} {d ms ml : Nat} {v : Value} (h : Fr w w' d ms ml v) (k : Fr w' w'' d ms ml v) : Fr w w'' d ms ml v :=
 ⟨k.os.trans h.os, k.tape.trans h.tape, k.output.trans h.output, Nat.le_trans h.size k.size, fun b hb h1 h2 h3 h4 => (k.block b (Nat.lt_of_lt_of_le hb h.size) h1 h2 h3 h4).trans (h.block b hb h1 h2 h3 h4)⟩
theorem row_of_blk {w : World} {g t : Nat} {cs : List Value} (h : Blk w g t cs.toArray) : w.rangeAt g 0 cs := fun j u hu => by
 rw [Nat.zero_add]
 have hj := (List.getElem?_eq_some_iff.1 hu).1
 rw [h.cell j]
 simpa using hu
theorem wp_buildW {o : Oper} {a : Act} {w : World} {K : Act → World → Prop} {Q : Exit → Act → World → Prop} (p0 : Operand) (ho : o.op = .buildSlice 51 1 #[(0, p0)])
  (i : Nat) (ws : List Nat) (hw : ws.length = 32) (e0 : a.eval p0 = .agg (wcells i ws).toArray)
  (h : K (a.put o.dst (.slice (some ⟨w.heap.size, 0, none⟩) 1 1)) (w.alloc (.cells (wcells i ws).toArray 68))) : o.wp Tryd.prog a w K Q := by
 obtain ⟨ie, hie, hiz, his, hib⟩ := info_parts write_info
 refine wp_buildSlice 51 68 1 _ ho (wcells i ws).toArray ie _ Tryd.underlying51 hie hiz (by rw [his]; decide) (by rw [his]; decide) ?_ h
 rw [his]
 have hl : (Array.map (fun (x : Nat × Operand) => match x with | (i, x) => (i, a.eval x)) #[(0, p0)]).toList = ([Value.agg (wcells i ws).toArray].zipIdx 0).map fun x => (x.2, x.1) := by
  simp [e0]
 rw [hl, Great.fill_whole (s := 33) (by decide) _ _ ?_ ?_]
 ·simp [Value.cells]
 ·intro v hv
  obtain rfl := List.mem_singleton.1 hv
  show (wcells i ws).toArray.size = 33
  rw [List.size_toArray, wcells_len i hw]
 ·simp
section
variable {B : Nat} {d ms ml c1 c2 : Nat} {S : Dk.D} {v : Value} {fS : Int → Option Value}
structure MidD (B : Nat) (w : World) (d : Nat) (S : Dk.D) (ms ml : Nat) (v : Value) (c1 c2 : Nat) (fS : Int → Option Value) (i : Nat) : Prop where
 blk : Blk w d 53 #[.int .i64 (S.size : Int), .map (some ms), v, .map (some ml), .bool S.off, .bool S.armed, .int .i64 (S.left : Int), .int .i64 (S.deeds : Int)]
 safe : MapF w ms c1 fS
 safeAt : ∀ i : Nat, i < S.size → (fS i).getD (.agg (u8s (List.replicate 32 0))) = .agg (u8s (S.safe i))
 last : MapF w ml c2 (upd (fun i => (Dk.last S.pend i).map fun (k : Nat) => Value.int .i64 (k : Int)) (i : Int) (some (.int .i64 (S.pend.length : Int))))
 row : w.ownsRow B 68 33 v S.pend.length (cellsW S.pend)
 ok : Dk.Ok S
 bd : B ≤ d ∧ B ≤ ms ∧ B ≤ ml
 ne : ms ≠ ml ∧ d ≠ ms ∧ d ≠ ml
 c1 : c1 ≤ 1000000000
 rowNe : some d ≠ v.ownBlock ∧ some ms ≠ v.ownBlock ∧ some ml ≠ v.ownBlock
theorem mid_of {w w' : World} {i : Nat} (h : DiskAt B w d S ms ml v c1 c2 fS) {c3 : Nat}
    (hm : MapF w' ml c3 (upd (fun i => (Dk.last S.pend i).map fun (k : Nat) => Value.int .i64 (k : Int)) (i : Int) (some (.int .i64 (S.pend.length : Int))))) (hg : w.grownBy w' (some ml)) : MidD B w' d S ms ml v c1 c3 fS i :=
  ⟨h.blk.grown hg (fun e => h.ne.2.2 (by injection e with e)), h.safe.kept hg (fun e => h.ne.1 (by injection e with e)), h.safeAt, hm,
   h.row.kept hg (by cases hv : v.ownBlock with | none => exact Or.inl rfl | some g => exact Or.inr (fun e => h.rowNe.2.2 (by rw [hv, e]))), h.ok, h.bd, h.ne, h.c1, h.rowNe⟩
theorem wne {w : World} {g t : Nat} {cs : Array Value} (h : DiskAt B w d S ms ml v c1 c2 fS) (hb : Blk w g t cs) : some g ≠ some ml := fun e => by
 injection e with e
 subst e
 obtain ⟨D, ⟨es, clock, h1, _⟩, _⟩ := h.last
 have := h1.symm.trans hb
 cases this
theorem snoc_fun (ps : List (Nat × List Nat)) (i : Nat) (ws : List Nat) : upd (fun i => (Dk.last ps i).map fun (k : Nat) => Value.int .i64 (k : Int)) (i : Int) (some (.int .i64 (ps.length : Int))) = fun j => (Dk.last (ps ++ [(i, ws)]) j).map fun (k : Nat) => Value.int .i64 (k : Int) := by
 funext j
 rw [Dk.last_snoc]
 unfold upd
 by_cases h : j = (i : Int)
 ·subst h; simp
 ·rw [if_neg h, if_neg (fun e => h e.symm)]
theorem MidD.done {w w' w'' : World} {i : Nat} {v' : Value} {bs : List Nat} (h : MidD B w d S ms ml v c1 c2 fS i) (hn : bs.length ≤ 32) (hb : Sha.Byte bs) (hi : i < S.size) (hfew : S.pend.length < 1000000) (h2 : c2 ≤ 1000000000)
  (ho : w'.ownsRow B 68 33 v' (S.pend.length + 1) (cellsW S.pend ++ wcells i (padB bs))) (hg : w.grownBy w' v.ownBlock) (hw : w'' = w'.setCell ⟨d, 2, none⟩ v') :
  DiskAt B w'' d (Dk.wr S i bs) ms ml v' c1 c2 fS ∧ Fr w w'' d ms ml v := by
 subst hw
 have hb1 : Blk w' d 53 _ := h.blk.grown hg h.rowNe.1
 have hg2 : w'.grownBy (w'.setCell ⟨d, 2, none⟩ v') (some d) := set_own 2 _
 have hne : v'.ownBlock = none ∨ v'.ownBlock ≠ some d := by
  rcases ho.2 with ⟨rfl, _⟩ | ⟨g, cap, cur, rfl, _, hh, _⟩
  ·exact Or.inl rfl
  ·refine Or.inr fun e => ?_
   injection e with e
   subst e
   have := hb1.symm.trans hh
   injection this with this
   injection this with _ e _
   revert e; decide
 have hpb : Sha.Byte (padB bs) := hb.app (Sha.Byte.zeros _)
 refine ⟨⟨hb1.set_ 2 v', (h.safe.kept hg h.rowNe.2.1).kept hg2 (fun e => h.ne.2.1 (by injection e with e; exact e.symm)), h.safeAt, ?_, ?_, ⟨h.ok.size, h.ok.len, h.ok.byte, fun p hp => ?_, ?_, h.ok.left, h.ok.deeds⟩, h.bd, h.ne, h.c1, h2⟩, ?_⟩
 ·have := ((h.last.kept hg h.rowNe.2.2).kept hg2 (fun e => h.ne.2.2 (by injection e with e; exact e.symm)))
  rw [snoc_fun S.pend i (padB bs)] at this
  exact this
 ·have := ho.kept hg2 hne
  show World.ownsRow _ _ _ _ _ (S.pend ++ [(i, padB bs)]).length (cellsW (S.pend ++ [(i, padB bs)]))
  rw [List.length_append, cellsW, List.flatMap_append]
  exact (by simpa [cellsW, wcells] using this)
 ·rcases List.mem_append.1 hp with hp | hp
  ·exact h.ok.plen p hp
  ·obtain rfl := List.mem_singleton.1 hp
   exact ⟨hi, padB_len hn, hpb⟩
 ·show (S.pend ++ [(i, padB bs)]).length ≤ 1000000
  rw [List.length_append]; simp; omega
 ·exact (Fr.of hg (fun g e => Or.inr (Or.inr (Or.inr e.symm)))).trans (Fr.of hg2 (fun g e => Or.inl (by injection e with e; exact e.symm)))
set_option maxRecDepth 100000 in
theorem write_ok0 (i : Nat) (A : Option Addr) (n c : Nat) (bs : List Nat) (w : World) (S1 : Dk.D) (h : DiskAt B w d S ms ml v c1 c2 fS) (ho : S.off = false) (hi : i < S.size) (hn : n ≤ 32) (hv : RdB w d (.slice A n c) bs) (hi1 : i < S1.size) (hb : Sha.Byte bs) (hfew : S1.pend.length < 1000000) (hc2' : c2 < 1000000000)
  (CD : Calls Tryd.prog 57 #[.pointer (some ⟨d, 0, none⟩)] w fun e w' => e = .returned .nilIface ∧ DiskAt B w' d S1 ms ml v c1 c2 fS ∧ w.grownBy w' (some d)) :
  Calls Tryd.prog 56 #[.pointer (some ⟨d, 0, none⟩), .int .i64 (i : Int), .slice A n c] w fun e w' => e = .returned .nilIface ∧ ∃ v', DiskAt B w' d (Dk.wr S1 i bs) ms ml v' c1 (c2 + 1) fS ∧ Fr w w' d ms ml v := by
 have p4 : w.cell? ⟨d, 4, none⟩ = some (.bool false) := by have := h.blk.cell 4; rw [ho] at this; exact this
 have CH := has_yes i w h hi
 have i0 : ¬ (32 : Int) < (n : Int) := by omega
 have HV := Lib.hid hv
 have HNL : Hid (bs.length = n) := Lib.hid (by obtain ⟨_, _, e, _⟩ := hv; injection e with _ e _; exact e.symm)
 have HSRC : Hid (∀ wa : World, RdB wa d (.slice A n c) bs → 0 < (cellsB bs).length → ∃ ad, A = some ad ∧ ∀ j u, (cellsB bs)[j]? = some u → wa.cell? (ad.add j) = some u) := Lib.hid (fun wa hr h0 => by
  rw [cellsB_len] at h0
  obtain ⟨A', c', e, _, hA⟩ := hr
  injection e with e1 e2 e3
  obtain ⟨b, o, rfl, _, _, hx⟩ := hA h0
  refine ⟨_, e1, fun j u hj => ?_⟩
  have hjl : j < bs.length := by have := (List.getElem?_eq_some_iff.1 hj).1; rwa [cellsB_len] at this
  rw [cellsB_get hjl] at hj
  rw [Addr.add_mid, hx j hjl]
  exact hj)
 have HBY := Lib.hid hb
 clear h ho hv hb
 go_enter Tryd.func56, Tryd.ntmps56
 go_wp2_with (first | (go_at_call 71; refine CH.mono ?_; rintro e w' ⟨rfl, rfl⟩) | (go_at_call 57; refine CD.mono ?_; rintro e w1 ⟨rfl, h1, h2⟩; have H1 := Lib.hid h1; have H2 := Lib.hid h2; have HK : Hid (Blk (w1.alloc (.cells (wcells 0 (List.replicate 32 0)).toArray 68)) w1.heap.size 68 (wcells 0 (List.replicate 32 0)).toArray) := Lib.hid (Blk.new w1 _ _); have HWA : Hid (Blk ((w1.alloc (.cells (wcells 0 (List.replicate 32 0)).toArray 68)).setRow w1.heap.size (wcells i (List.replicate 32 0)).toArray) w1.heap.size 68 (wcells i (List.replicate 32 0)).toArray) := Lib.hid (HK.out.row _); have HBA : Hid (Below w1.heap.size w1 ((w1.alloc (.cells (wcells 0 (List.replicate 32 0)).toArray 68)).setRow w1.heap.size (wcells i (List.replicate 32 0)).toArray)) := Lib.hid (below_row ((Below.refl _ _).alloc (Nat.le_refl _) _) (Nat.le_refl _) _); have HVA : Hid (RdB ((w1.alloc (.cells (wcells 0 (List.replicate 32 0)).toArray 68)).setRow w1.heap.size (wcells i (List.replicate 32 0)).toArray) d (.slice A n c) bs) := Lib.hid ((HV.out.only h2).only (only_of_below HBA.out _)); clear h1 h2) | (refine wpList_store_row rfl 68 (.tmp 8) (.tmp 32) rfl w1.heap.size (wcells i (List.replicate 32 0)).toArray rfl rfl 68 _ HK.out (by kernel_rfl) (by kernel_rfl) (by kernel_rfl) ?_) | (refine wpList_copy_splice rfl (.tmp 34) (.tmp 35) 39 39 rfl 5 Tryd.underlying39 (by kernel_rfl) (some ⟨w1.heap.size, 1, none⟩) A 32 32 n c rfl rfl w1.heap.size 1 (wcells i (List.replicate 32 0)) 68 HWA.out (cellsB bs) (by rw [cellsB_len, HNL.out]; exact (Nat.min_eq_left hn).symm) (fun h0 => ⟨rfl, HSRC.out _ HVA.out h0⟩) (by rw [cellsB_len, HNL.out, wcells_len i (by simp)]; omega) (cellsB_one bs) w1.heap.size w1 HBA.out (Nat.le_refl _) ?_; intro w3 hg3 hb3; rw [splice_pad i (by rw [HNL.out]; exact hn)] at hg3; have HB3 := Lib.hid hb3; clear hb3))
 have HD3 := Lib.hid (H1.out.below HB3.out)
 have HG3 := Lib.hid (only_trans H2.out (only_of_below HB3.out (some d)))
 have p3 : w3.cell? ⟨d, 3, none⟩ = some (.map (some ml)) := HD3.out.blk.cell 3
 have p2 : w3.cell? ⟨d, 2, none⟩ = some v := HD3.out.blk.cell 2
 obtain ⟨A0, c0, ev0⟩ := row_slice HD3.out.row
 have HEV := Lib.hid ev0
 rw [ev0] at p2
 clear ev0
 have hsz := HD3.out.ok.size
 have hc2 := HD3.out.c2
 refine wp_region_still_tail 10 (by kernel_rfl) (by kernel_rfl) ?_
 change wpStill _ _ w3.drew _ _ _
 dsimp only [List.take, List.drop]
 repeat still_step
 refine wpStill_nil ?_
 change wpList _ _ _ _ _ w3.drew
 obtain ⟨w4, hrun, hm4, hg4⟩ := (HD3.out.last.block (w' := w3.drew) rfl).store Tryd.underlying50 (by unfold maxLen; omega) (i := (i : Int)) (int_wf (by omega) (by omega)) (.int .i64 (S1.pend.length : Int))
 replace hg4 := only_trans (only_drew (World.grownBy.refl w3 (some ml))) hg4
 have HT4 : Hid (MidD B w4 d S1 ms ml v c1 (c2 + 1) fS i) := Lib.hid (mid_of HD3.out hm4 hg4)
 have HG4 : Hid (Fr w w4 d ms ml v) := Lib.hid ((Fr.of HG3.out (fun g e => Or.inl (by injection e with e; exact e.symm))).trans (Fr.of hg4 (fun g e => Or.inr (Or.inr (Or.inl (by injection e with e; exact e.symm))))) )
 have HPL : Hid ((padB bs).length = 32) := Lib.hid (padB_len (by rw [HNL.out]; exact hn))
 have hR4 : w4.rangeAt w1.heap.size 0 (wcells i (padB bs)) := row_of_blk (Blk.grown hg3 hg4 (wne HD3.out hg3))
 have HR4 := Lib.hid hR4
 have q2 : w4.drew.cell? ⟨d, 2, none⟩ = some (.slice A0 S1.pend.length c0) := by rw [← HEV.out]; exact HT4.out.blk.cell 2
 have q2a : (w4.alloc (.cells (wcells i (padB bs)).toArray 68)).cell? ⟨d, 2, none⟩ = some (.slice A0 S1.pend.length c0) := by rw [← HEV.out]; exact (HT4.out.blk.alloc _).cell 2
 clear hm4 hg4 hR4
 obtain ⟨i0, hi0, hiz, his, hib⟩ := info_parts write_info
 have HOW : Hid ((w4.drew.alloc (.cells (wcells i (padB bs)).toArray 68)).ownsRow B 68 33 v S1.pend.length (cellsW S1.pend)) := Lib.hid (ownsRow_alloc HT4.out.row.drew _)
 have HNW : Hid ((wcells i (padB bs)).length = 1 * 33) := Lib.hid (wcells_len i HPL.out)
 have HNC : Hid (∀ j u, (wcells i (padB bs))[j]? = some u → (w4.drew.alloc (.cells (wcells i (padB bs)).toArray 68)).cell? ((⟨w4.heap.size, 0, none⟩ : Addr).add j) = some u) := Lib.hid (fun j u hj => by rw [Addr.add_mid]; exact row_of_blk (Blk.new w4.drew _ _) j u hj)
 have HF : Hid (S1.pend.length + 1 ≤ maxLen ∧ (S1.pend.length + 1) * 40 ≤ 140737488355328) := Lib.hid ⟨by unfold maxLen; omega, by omega⟩
 have HBH : Hid (B ≤ (w4.drew.alloc (.cells (wcells i (padB bs)).toArray 68)).heap.size) := Lib.hid (Nat.le_trans HT4.out.bd.1 (Nat.le_of_lt (HT4.out.blk.drew.alloc (.cells (wcells i (padB bs)).toArray 68)).lt))
 go_wp2_with fail
 refine wp_region_any (by kernel_rfl) ?_
 change wpAny _ _ _ _ _ _ _ w4.drew
 refine wpAny_take (i := 0) (v := ?_) rfl (by kernel_rfl) (by kernel_rfl) (by kernel_rfl) (fun _ _ _ h => h) (Or.inl ⟨by rfl, ?_⟩) ?_
 rotate_left
 ·intro w; go_simp; with_reducible rfl
 refine wpAny_take (i := 1) (v := ?_) rfl (by kernel_rfl) (by kernel_rfl) (by kernel_rfl) (fun _ _ _ h => h) (Or.inl ⟨by rfl, ?_⟩) ?_
 rotate_left
 ·intro w; go_simp; with_reducible rfl
 refine wpAny_take (i := 2) (v := ?_) rfl (by kernel_rfl) (by kernel_rfl) (by kernel_rfl) (fun _ _ _ h => h) (Or.inl ⟨by rfl, ?_⟩) ?_
 rotate_left
 ·intro w; go_simp; with_reducible rfl
 refine wpAny_take (i := 3) (v := ?_) rfl (by kernel_rfl) (by kernel_rfl) (by kernel_rfl) (fun _ _ _ h => h) (Or.inl ⟨by rfl, ?_⟩) ?_
 rotate_left
 ·intro w; go_simp; with_reducible rfl
 try simp only [Act.put, List.getElem_toArray, List.getElem_cons_zero, List.getElem_cons_succ, List.setIfInBounds_toArray, List.set_cons_zero, List.set_cons_succ]
 refine wpAny_ready (rs := [4, 5]) (by kernel_rfl) (by simp) ?_
 refine AllReady.cons rfl (fun K hK => ?_) (AllReady.cons rfl (fun K hK => ?_) AllReady.nil)
 rotate_left
 rw [if_pos (by rfl)]
 refine wp_load_mid 68 _ rfl w1.heap.size 0 rfl (wcells i (padB bs)) _ HR4.out Tryd.underlying68 rfl (by rw [wcells_len i HPL.out]; exact write_size) ?_
 refine hK _ _ ?_; clear hK K
 try simp only [Act.put, List.getElem_toArray, List.getElem_cons_zero, List.getElem_cons_succ, List.setIfInBounds_toArray, List.set_cons_zero, List.set_cons_succ]
 refine wpAny_ready (rs := [4, 6]) (by kernel_rfl) (by simp) ?_
 refine AllReady.cons rfl (fun K hK => ?_) (AllReady.cons rfl (fun K hK => ?_) AllReady.nil)
 rotate_left
 rw [if_pos (by rfl)]
 refine wp_buildW _ rfl i (padB bs) HPL.out rfl ?_
 refine hK _ _ ?_; clear hK K
 try simp only [Act.put, List.getElem_toArray, List.getElem_cons_zero, List.getElem_cons_succ, List.setIfInBounds_toArray, List.set_cons_zero, List.set_cons_succ]
 refine wpAny_ready (rs := [4]) (by kernel_rfl) (by simp) ?_
 refine AllReady.cons rfl (fun K hK => ?_) AllReady.nil
 rw [if_pos (by rfl)]
 go_simp
 refine hK _ _ ?_; clear hK K
 try simp only [Act.put, List.getElem_toArray, List.getElem_cons_zero, List.getElem_cons_succ, List.setIfInBounds_toArray, List.set_cons_zero, List.set_cons_succ]
 rotate_left
 go_simp
 refine hK _ _ ?_; clear hK K
 try simp only [Act.put, List.getElem_toArray, List.getElem_cons_zero, List.getElem_cons_succ, List.setIfInBounds_toArray, List.set_cons_zero, List.set_cons_succ]
 refine wpAny_ready (rs := [5]) (by kernel_rfl) (by simp) ?_
 refine AllReady.cons rfl (fun K hK => ?_) AllReady.nil
 rw [if_pos (by rfl)]
 refine wp_load_mid 68 _ rfl w1.heap.size 0 rfl (wcells i (padB bs)) _ HR4.out Tryd.underlying68 rfl (by rw [wcells_len i HPL.out]; exact write_size) ?_
 refine hK _ _ ?_; clear hK K
 try simp only [Act.put, List.getElem_toArray, List.getElem_cons_zero, List.getElem_cons_succ, List.setIfInBounds_toArray, List.set_cons_zero, List.set_cons_succ]
 refine wpAny_ready (rs := [6]) (by kernel_rfl) (by simp) ?_
 refine AllReady.cons rfl (fun K hK => ?_) AllReady.nil
 rw [if_pos (by rfl)]
 refine wp_buildW _ rfl i (padB bs) HPL.out rfl ?_
 refine hK _ _ ?_; clear hK K
 try simp only [Act.put, List.getElem_toArray, List.getElem_cons_zero, List.getElem_cons_succ, List.setIfInBounds_toArray, List.set_cons_zero, List.set_cons_succ]
 rotate_left
 go_simp
 refine hK _ _ ?_; clear hK K
 try simp only [Act.put, List.getElem_toArray, List.getElem_cons_zero, List.getElem_cons_succ, List.setIfInBounds_toArray, List.set_cons_zero, List.set_cons_succ]
 refine wpAny_ready (rs := [6]) (by kernel_rfl) (by simp) ?_
 refine AllReady.cons rfl (fun K hK => ?_) AllReady.nil
 rw [if_pos (by rfl)]
 refine wp_buildW _ rfl i (padB bs) HPL.out rfl ?_
 refine hK _ _ ?_; clear hK K
 try simp only [Act.put, List.getElem_toArray, List.getElem_cons_zero, List.getElem_cons_succ, List.setIfInBounds_toArray, List.set_cons_zero, List.set_cons_succ]
 all_goals
  refine wpAny_ready (rs := [7]) (by kernel_rfl) (by simp) ?_
  refine AllReady.cons rfl (fun K hK => ?_) AllReady.nil
  rw [if_pos (by rfl)]
  refine wp_append_own (w := w4.drew.alloc (.cells (wcells i (padB bs)).toArray 68)) (.tmp 51) (.tmp 53) 51 rfl B 68 i0 _ 33 40 Tryd.underlying51 hi0 hiz his hib rfl (by decide) v S1.pend.length (cellsW S1.pend) HEV.out.symm HOW.out ⟨w4.heap.size, 0, none⟩ 1 1 (wcells i (padB bs)) rfl HNW.out HNC.out (wcells_one i (padB bs)) HF.out.1 HF.out.2 HBH.out ?_
  intro v' w' ho hg _
  obtain ⟨A1, cc1, rfl⟩ := row_slice ho
  have HO := Lib.hid ho
  have HG := Lib.hid hg
  have q7 : w'.cell? ⟨d, 2, none⟩ = some (.slice A0 S1.pend.length c0) := by rw [← HEV.out]; exact ((HT4.out.blk.drew.alloc _).grown hg HT4.out.rowNe.1).cell 2
  have q8 : w'.frozen? ⟨d, 2, none⟩ = false := ((HT4.out.blk.drew.alloc _).grown hg HT4.out.rowNe.1).frozen 2
  clear ho hg
  refine hK _ _ ?_; clear hK K
  try simp only [Act.put, List.getElem_toArray, List.getElem_cons_zero, List.getElem_cons_succ, List.setIfInBounds_toArray, List.set_cons_zero, List.set_cons_succ]
  refine wpAny_ready (rs := [8]) (by kernel_rfl) (by simp) ?_
  refine AllReady.cons rfl (fun K hK => ?_) AllReady.nil
  go_simp
  refine hK _ _ ?_; clear hK K
  try simp only [Act.put, List.getElem_toArray, List.getElem_cons_zero, List.getElem_cons_succ, List.setIfInBounds_toArray, List.set_cons_zero, List.set_cons_succ]
  refine wpAny_ready (rs := [9]) (by kernel_rfl) (by simp) ?_
  refine AllReady.cons rfl (fun K hK => ?_) AllReady.nil
  go_simp
  refine hK _ _ ?_; clear hK K
  try simp only [Act.put, List.getElem_toArray, List.getElem_cons_zero, List.getElem_cons_succ, List.setIfInBounds_toArray, List.set_cons_zero, List.set_cons_succ]
  refine wpAny_ready (rs := [10]) (by kernel_rfl) (by simp) ?_
  refine AllReady.cons rfl (fun K hK => ?_) AllReady.nil
  go_simp
  refine hK _ _ ?_; clear hK K
  try simp only [Act.put, List.getElem_toArray, List.getElem_cons_zero, List.getElem_cons_succ, List.setIfInBounds_toArray, List.set_cons_zero, List.set_cons_succ]
  refine wpAny_done (by kernel_rfl) ?_ _
  go_wp2
  go_ret
  have D := HT4.out.done (by rw [HNL.out]; exact hn) HBY.out hi1 hfew hc2' HO.out (only_trans (only_alloc (only_drew (World.grownBy.refl w4 _)) _) HG.out) rfl
  exact ⟨rfl, _, D.1, HG4.out.trans D.2⟩
end
end Go.Proofs.YtdokojlgcplefaaDoor
/- A write is made safe ((*Disk).keep). -/
namespace Go.Proofs.YtdokojlgcplefaaDoor
open Go Go.RowKit
theorem zeroSec : u8s (List.replicate 32 0) = #[Value.int .u8 0, Value.int .u8 0, Value.int .u8 0, Value.int .u8 0, Value.int .u8 0, Value.int .u8 0, Value.int .u8 0, Value.int .u8 0, Value.int .u8 0, Value.int .u8 0, Value.int .u8 0, Value.int .u8 0, Value.int .u8 0, Value.int .u8 0, Value.int .u8 0, Value.int .u8 0, Value.int .u8 0, Value.int .u8 0, Value.int .u8 0, Value.int .u8 0, Value.int .u8 0, Value.int .u8 0, Value.int .u8 0, Value.int .u8 0, Value.int .u8 0, Value.int .u8 0, Value.int .u8 0, Value.int .u8 0, Value.int .u8 0, Value.int .u8 0, Value.int .u8 0, Value.int .u8 0] := by rfl
theorem sec_u8 : ∀ w, (sizeOf 5).run Tryd.prog w = .ok 1 w := fun _ => by kernel_rfl
set_option maxRecDepth 100000 in
theorem eq_zero {ws : List Nat} (hl : ws.length = 32) (hb : Sha.Byte ws) (w : World) : (Op.equalIn 10000 66 (.agg (cellsB ws).toArray) (.agg #[Value.int .u8 0, Value.int .u8 0, Value.int .u8 0, Value.int .u8 0, Value.int .u8 0, Value.int .u8 0, Value.int .u8 0, Value.int .u8 0, Value.int .u8 0, Value.int .u8 0, Value.int .u8 0, Value.int .u8 0, Value.int .u8 0, Value.int .u8 0, Value.int .u8 0, Value.int .u8 0, Value.int .u8 0, Value.int .u8 0, Value.int .u8 0, Value.int .u8 0, Value.int .u8 0, Value.int .u8 0, Value.int .u8 0, Value.int .u8 0, Value.int .u8 0, Value.int .u8 0, Value.int .u8 0, Value.int .u8 0, Value.int .u8 0, Value.int .u8 0, Value.int .u8 0, Value.int .u8 0])).run Tryd.prog w = .ok (ws == List.replicate 32 0) w := by
 rw [← zeroSec, show (cellsB ws).toArray = u8s ws from rfl]
 exact run_equalIn_u8s w _ _ 32 Tryd.underlying66 Tryd.underlying5 sec_u8 ws _ hl (by simp) hb (Sha.Byte.zeros 32)
theorem still_load_mid {P : Program} {op : Oper} {a : Act} {w : World} {K : Act → Prop} (ty : TypeId) (x : Operand) (ho : op.op = .load ty x)
  (b o : Nat) (hx : a.eval x = .pointer (some ⟨b, o, none⟩)) (cs : List Value) (d : TypeDesc) (hc : w.rangeAt b o cs)
  (hu : P.underlying ty = some d) (hd : d.isRow = true) (hi : (P.info? ty).map (·.size) = some cs.length)
  (h : K (a.put op.dst (.agg cs.toArray))) : op.still P a w K := by
 unfold Oper.still execOp
 simp only [ho, hx, Sem.run_bind, run_loadAt_mid w b o ty cs d hc hu hd hi, Result.andThen_ok]
 exact ⟨rfl, h⟩
def Dk.put (S : Dk.D) (i : Nat) (ws : List Nat) : Dk.D := { S with safe := fun j => if j = i then ws else S.safe j }
section
variable {B : Nat} {d ms ml c1 c2 : Nat} {S : Dk.D} {v : Value} {fS : Int → Option Value}
theorem DiskAt.put {w w' : World} {i : Nat} {ws : List Nat} {u : Option Value} {c3 : Nat} (h : DiskAt B w d S ms ml v c1 c2 fS) (hl : ws.length = 32) (hb : Sha.Byte ws) (hm : MapF w' ms c3 (upd fS (i : Int) u)) (hc : c3 ≤ 1000000000) (hg : w.grownBy w' (some ms))
  (hu : u.getD (.agg (u8s (List.replicate 32 0))) = .agg (u8s ws)) : DiskAt B w' d (Dk.put S i ws) ms ml v c3 c2 (upd fS (i : Int) u) where
 blk := h.blk.grown hg (fun e => h.ne.2.1 (by injection e with e))
 safe := hm
 safeAt := fun j hj => by
  show (upd fS (i : Int) u j).getD _ = .agg (u8s (if j = i then ws else S.safe j))
  unfold upd
  by_cases e : j = i
  ·subst e; rw [if_pos rfl, if_pos rfl]; exact hu
  ·rw [if_neg e, if_neg (fun e' => e (by omega))]; exact h.safeAt j hj
 last := h.last.kept hg (fun e => h.ne.1 (by injection e with e; exact e.symm))
 row := h.row.kept hg (by cases hv : v.ownBlock with | none => exact Or.inl rfl | some g => exact Or.inr (fun e => h.rowNe.2.1 (by rw [hv, e])))
 ok := ⟨h.ok.size, fun j => by show (if j = i then ws else S.safe j).length = 32; split; exact hl; exact h.ok.len j, fun j => by show Sha.Byte (if j = i then ws else S.safe j); split; exact hb; exact h.ok.byte j, h.ok.plen, h.ok.few, h.ok.left, h.ok.deeds⟩
 bd := h.bd
 ne := h.ne
 c1 := hc
 c2 := h.c2
set_option maxRecDepth 100000 in
theorem keep_any (i : Nat) (ws : List Nat) (w : World) (h : DiskAt B w d S ms ml v c1 c2 fS) (hi : i < S.size) (hl : ws.length = 32) (hb : Sha.Byte ws) (hc : c1 < 1000000000) :
  Calls Tryd.prog 44 #[.pointer (some ⟨d, 0, none⟩), .agg (wcells i ws).toArray] w fun e w' => e = .returned (.tuple #[]) ∧ ∃ fS', DiskAt B w' d (Dk.put S i ws) ms ml v (c1 + 1) c2 fS' ∧ w.grownBy w' (some ms) := by
 have h0 : DiskAt B (w.alloc (.cells (wcells i ws).toArray 68)) d S ms ml v c1 c2 fS := h.below ((Below.refl _ _).alloc (Nat.le_refl _) _)
 have p1 : w.cell? ⟨d, 1, none⟩ = some (.map (some ms)) := h.blk.cell 1
 have p1a : (w.alloc (.cells (wcells i ws).toArray 68)).cell? ⟨d, 1, none⟩ = some (.map (some ms)) := (h.blk.alloc _).cell 1
 have HG : Hid ((w.alloc (.cells (wcells i ws).toArray 68)).rangeAt w.heap.size 1 (cellsB ws)) := Lib.hid (fun j u hj => by rw [Nat.add_comm]; have := row_of_blk (Blk.new w 68 (wcells i ws).toArray) (j + 1) u (by simpa [wcells] using hj); rwa [Nat.zero_add] at this)
 have pa : (w.alloc (.cells (wcells i ws).toArray 68)).cell? ⟨w.heap.size, 0, none⟩ = some (.int .i64 (i : Int)) := (Blk.new w 68 (wcells i ws).toArray).cell 0
 have HL := Lib.hid hl
 have q0 := eq_zero hl hb
 have HB := Lib.hid hb
 have HH := Lib.hid h0
 have hw : (Lit.int .i64 (i : Int)).wf = true := int_wf (by omega) (by have := h.ok.size; omega)
 have hW : ∀ ww, (w.alloc (.cells (wcells i ws).toArray 68)).grownBy ww (some ms) → w.grownBy ww (some ms) := fun ww hg => only_trans (only_alloc (World.grownBy.refl w _) _) hg
 have HW := Lib.hid hW
 clear h h0 hl hb hW
 rcases hz : (ws == List.replicate 32 0) with _ | _
 ·rw [hz] at q0
  go_enter Tryd.func44, Tryd.ntmps44
  go_wp2_with (refine wpList_load_mid rfl 66 (.tmp 4) rfl w.heap.size 1 rfl (cellsB ws) _ HG.out Tryd.underlying66 rfl (by rw [cellsB_len, HL.out]; exact sector_size) ?_)
  refine wp_region_still_tail 8 (by kernel_rfl) (by kernel_rfl) ?_
  change wpStill _ _ (w.alloc (.cells (wcells i ws).toArray 68)).drew _ _ _
  dsimp only [List.take, List.drop]
  iterate 7 still_step
  refine wpStill_step (fun K hK => ?_)
  rw [if_pos (by rfl)]
  refine still_load_mid 66 (.tmp 20) rfl w.heap.size 1 rfl (cellsB ws) _ HG.out Tryd.underlying66 rfl (by rw [cellsB_len, HL.out]; exact sector_size) ?_
  refine hK _ ?_
  clear hK K
  refine wpStill_nil ?_
  try simp only [Act.put, List.setIfInBounds_toArray, List.set_cons_zero, List.set_cons_succ]
  change wpList _ _ _ _ _ (w.alloc (.cells (wcells i ws).toArray 68)).drew
  obtain ⟨w4, hrun, hm4, hg4⟩ := (HH.out.safe.block (w' := (w.alloc (.cells (wcells i ws).toArray 68)).drew) rfl).store Tryd.underlying49 (by unfold maxLen; omega) (i := (i : Int)) hw (.agg (cellsB ws).toArray)
  replace hg4 := only_trans (only_drew (World.grownBy.refl (w.alloc (.cells (wcells i ws).toArray 68)) (some ms))) hg4
  have HR := Lib.hid (HH.out.put HL.out HB.out hm4 hc hg4 rfl)
  have HG4 := Lib.hid (HW.out _ hg4)
  clear hm4 hg4
  go_wp2
  go_end0
  exact ⟨rfl, _, HR.out, HG4.out⟩
 ·have hz' : ws = List.replicate 32 0 := by simpa using hz
  rw [hz] at q0
  obtain ⟨w4, hrun, hm4, hg4⟩ := (HH.out.safe.block (w' := (w.alloc (.cells (wcells i ws).toArray 68)).drew) rfl).drop Tryd.underlying49 (i := (i : Int)) hw 0
  replace hg4 := only_trans (only_drew (World.grownBy.refl (w.alloc (.cells (wcells i ws).toArray 68)) (some ms))) hg4
  have HR := Lib.hid ((HH.out.put HL.out HB.out (hm4.mono (Nat.le_succ c1)) hc hg4 (by rw [hz']; rfl)))
  have HG4 := Lib.hid (HW.out _ hg4)
  clear hm4 hg4 hz'
  go_enter Tryd.func44, Tryd.ntmps44
  go_wp2_with (refine wpList_load_mid rfl 66 (.tmp 4) rfl w.heap.size 1 rfl (cellsB ws) _ HG.out Tryd.underlying66 rfl (by rw [cellsB_len, HL.out]; exact sector_size) ?_)
  refine wp_region_still_tail 6 (by kernel_rfl) (by kernel_rfl) ?_
  change wpStill _ _ (w.alloc (.cells (wcells i ws).toArray 68)).drew _ _ _
  dsimp only [List.take, List.drop]
  repeat still_step
  refine wpStill_nil ?_
  change wpList _ _ _ _ _ (w.alloc (.cells (wcells i ws).toArray 68)).drew
  go_wp2
  refine bodyPost_ret (results_none rfl _ _ _) rfl ?_
  exact ⟨rfl, _, HR.out, HG4.out⟩
end
end Go.Proofs.YtdokojlgcplefaaDoor
