/- Fields of layer 2 as bytes: octets.Write. -/
import Derived.Test.YtgcgomdhdgjpdaaGreatDoorMOct4s
import Derived.WalkLawsBesides
import Derived.WalkSpells
namespace Go.Proofs.YtgcgomdhdgjpdaaGreatDoor
open Go Go.RowKit
structure Fld where
 n : Int
 A : Option Addr
 l : Nat
 c : Nat
 bs : List Nat
structure FRow (w : World) (b o : Nat) (fs : List Fld) : Prop where
 n : ∀ i (h : i < fs.length), w.cell? ⟨b, o + 2 * i, none⟩ = some (.int .i64 fs[i].n)
 s : ∀ i (h : i < fs.length), w.cell? ⟨b, o + 2 * i + 1, none⟩ = some (.slice fs[i].A fs[i].l fs[i].c)
 r : ∀ f ∈ fs, Rd w (.slice f.A f.l f.c) f.bs ∧ f.bs.length = f.l
 lt : b < w.heap.size
theorem FRow.below {w w' : World} {B b o : Nat} {fs : List Fld} (h : FRow w b o fs) (hb : Below B w w') (hB : w.heap.size ≤ B) : FRow w' b o fs :=
 have e : ∀ i, w'.cell? ⟨b, i, none⟩ = w.cell? ⟨b, i, none⟩ := fun _i => World.cell?_of_block (hb.block b (Nat.lt_of_lt_of_le h.lt hB))
 ⟨fun i hi => (e _).trans (h.n i hi), fun i hi => (e _).trans (h.s i hi), fun f hf => ⟨(h.r f hf).1.below hb hB, (h.r f hf).2⟩, Nat.lt_of_lt_of_le h.lt hb.size⟩
namespace Oc
def okTo (s : List UInt8) (fs : List Fld) (k : Nat) : Prop := ∀ i (h1 : i < s.length) (h2 : i < fs.length), i < k → fits s[i].toNat fs[i].n fs[i].l = true
def encs : List UInt8 → List Fld → List Nat
 | c :: s, f :: fs => enc c.toNat f.n f.bs ++ encs s fs
 | _, _ => []
theorem encs_take : ∀ (s : List UInt8) (fs : List Fld) (k : Nat) (h1 : k < s.length) (h2 : k < fs.length), encs (s.take (k + 1)) (fs.take (k + 1)) = encs (s.take k) (fs.take k) ++ enc s[k].toNat fs[k].n fs[k].bs
 | c :: s, f :: fs, 0, _, _ => by simp [encs]
 | c :: s, f :: fs, k + 1, h1, h2 => by
  have := encs_take s fs k (by simpa using h1) (by simpa using h2)
  simp [encs, this]
theorem enc_len (c : Nat) (n : Int) (bs : List Nat) (h : bs.length ≤ 1000) : (enc c n bs).length ≤ 1010 := by
 unfold enc
 by_cases h1 : c = 111
 ·rw [if_pos h1]; omega
 rw [if_neg h1]
 by_cases h2 : c = 116
 ·rw [if_pos h2, List.length_append, nums_len]; omega
 rw [if_neg h2, nums_len]
 obtain ⟨s, hs, h8⟩ := nsize_nat c
 omega
theorem encs_len : ∀ (s : List UInt8) (fs : List Fld), (∀ f ∈ fs, f.bs.length ≤ 1000) → (encs s fs).length ≤ 1010 * fs.length
 | [], _, _ => by simp [encs]
 | _ :: _, [], _ => by simp [encs]
 | c :: s, f :: fs, h => by
  have h1 := encs_len s fs fun f hf => h f (List.mem_cons_of_mem _ hf)
  have h2 := enc_len c.toNat f.n f.bs (h f (List.mem_cons_self ..))
  rw [encs, List.length_append, List.length_cons]
  omega
theorem okTo_succ {s : List UInt8} {fs : List Fld} {k : Nat} (h : okTo s fs k) (h1 : k < s.length) (h2 : k < fs.length) (hf : fits s[k].toNat fs[k].n fs[k].l = true) : okTo s fs (k + 1) := fun i a b c => by
 rcases Nat.lt_or_ge i k with hk | hk
 ·exact h i a b hk
 ·obtain rfl : i = k := by omega
  exact hf
end Oc
theorem Pad.alloc {w : World} {s : Value} {ys : List Nat} {wr : World} (h : Pad w.heap.size w s ys wr) (o : Obj) : Pad w.heap.size w s ys (wr.alloc o) := ⟨ownsRow_alloc h.own o, h.bel.alloc h.bel.size o⟩
theorem Pad.drew {B : Nat} {w : World} {s : Value} {ys : List Nat} {wr : World} (h : Pad B w s ys wr) : Pad B w s ys wr.drew := ⟨h.own.drew, below_drewN h.bel 1⟩
def WritePost (s : ByteArray) (fs : List Fld) (aK aR : Addr) (w : World) (e : Ending) (w' : World) : Prop :=
 Below w.heap.size w w' ∧
 (Oc.known s.data.toList = false → e = .returned (.tuple #[.slice none 0 0, ev aK])) ∧
 (Oc.known s.data.toList = true → (fs.length ≠ s.size ∨ ¬ Oc.okTo s.data.toList fs s.size) → e = .returned (.tuple #[.slice none 0 0, ev aR])) ∧
 (Oc.known s.data.toList = true → fs.length = s.size → Oc.okTo s.data.toList fs s.size → ∃ v, e = .returned (.tuple #[v, .nilIface]) ∧ Pad w.heap.size w v (Oc.encs s.data.toList fs) w')
set_option maxRecDepth 100000 in
theorem write_any (s : ByteArray) (A : Option Addr) (b o cap : Nat) (fs : List Fld) (aK aR : Addr) (w : World) (hs : s.size ≤ 1000) (hA : 0 < fs.length → A = some ⟨b, o, none⟩) (hF : FRow w b o fs) (_hl : fs.length ≤ 1000) (hlb : ∀ f ∈ fs, f.l ≤ 1000)
  (hK : w.cell? ⟨7, 0, none⟩ = some (ev aK)) (hR : w.cell? ⟨2, 0, none⟩ = some (ev aR)) :
  Calls Tryz.prog 79 #[.string s, .slice A fs.length cap] w (WritePost s fs aK aR w) := by
 have C1 := known_any s
 have HKB := Lib.hid (block_lt_of_cell hK)
 have HRB := Lib.hid (block_lt_of_cell hR)
 obtain ⟨kn, hkn⟩ : ∃ kn, kn = Oc.known s.data.toList := ⟨_, rfl⟩
 rw [← hkn] at C1
 have HKN := Lib.hid hkn
 clear hkn
 cases kn
 ·have H : ∀ m, Hid (WritePost s fs aK aR w (.returned (.tuple #[.slice none 0 0, ev aK])) (w.drewN m)) := fun m => Lib.hid ⟨below_drewN (Below.refl _ _) m, fun _ => rfl, fun h _ => (by rw [← HKN.out] at h; cases h), fun h _ _ => (by rw [← HKN.out] at h; cases h)⟩
  go_enter Tryz.func79, Tryz.ntmps79
  go_wp2_with (go_at_call 106; refine (C1 _ (by omega)).mono ?_; rintro e w' ⟨rfl, rfl⟩)
  go_quiet (fail)
  go_wp2
  go_ret2
  exact (H _).out
 ·by_cases hn : fs.length = s.size
  ·have b1 : ((fs.length : Int) != (s.size : Int)) = false := by simp; omega
   have HP0 : Hid (Pad w.heap.size w (.slice none 0 0) (Oc.encs (s.data.toList.take 0) (fs.take 0)) w) := Lib.hid ⟨World.ownsRow_nil _ _ _ _, Below.refl _ _⟩
   have HF := Lib.hid hF
   have HKC := Lib.hid hK
   have HRC := Lib.hid hR
   clear hF hK hR
   go_enter Tryz.func79, Tryz.ntmps79
   go_wp2_with (go_at_call 106; refine (C1 _ (by omega)).mono ?_; rintro e w' ⟨rfl, rfl⟩)
   go_loopw [6, 21] (fun v i wr => ∃ k : Nat, k ≤ fs.length ∧ i = .int .i64 k ∧ Hid (Pad w.heap.size w v (Oc.encs (s.data.toList.take k) (fs.take k)) wr) ∧ Hid (Oc.okTo s.data.toList fs k)) (fun _ i _ => fs.length - (intOf i).toNat)
   case atStart => exact ⟨0, Nat.zero_le _, rfl, HP0, Lib.hid fun _ _ _ h => by omega⟩
   case round =>
    obtain ⟨k, hk, rfl, HP, HO⟩ := hrel
    by_cases hlt : k < fs.length
    ·obtain rfl := hA (by omega)
     have HFr := Lib.hid (HF.out.below HP.out.bel (Nat.le_refl _))
     have hg : wr.rangeAt b (o + k * 2) [.int .i64 fs[k].n, .slice fs[k].A fs[k].l fs[k].c] := fun j v hj => by
      have p1 := HFr.out.n k hlt
      have p2 := HFr.out.s k hlt
      rcases j with _ | _ | j
      ·rw [show o + k * 2 + 0 = o + 2 * k by omega, p1]; exact hj
      ·rw [show o + k * 2 + (0 + 1) = o + 2 * k + 1 by omega, p2]; exact hj
      ·simp at hj
     have hks : k < s.size := by omega
     have es : s.data.toList[k]'(by simpa using hks) = s[k] := rfl
     have hno : Oc.fits s[k].toNat fs[k].n fs[k].l = false → ¬ Oc.okTo s.data.toList fs s.size := fun h ho => by
      have h2 := ho k (by simpa using hks) hlt hks
      rw [es, h] at h2
      cases h2
     have hyes : Oc.fits s[k].toNat fs[k].n fs[k].l = true → Oc.okTo s.data.toList fs (k + 1) := fun h => Oc.okTo_succ HO.out (by simpa using hks) hlt (by rw [es]; exact h)
     have henc : Oc.encs (s.data.toList.take (k + 1)) (fs.take (k + 1)) = Oc.encs (s.data.toList.take k) (fs.take k) ++ Oc.enc s[k].toNat fs[k].n fs[k].bs := by
      rw [Oc.encs_take _ _ _ (by simpa using hks) hlt, es]
     have hrd := HF.out.r fs[k] (List.getElem_mem _)
     generalize fs[k] = f at hg hno hyes henc hrd
     obtain ⟨n, Af, lf, cf, bs⟩ := f
     dsimp only at hg hno hyes henc hrd
     have HG := Lib.hid hg
     have HNO := Lib.hid hno
     have HYES := Lib.hid hyes
     have HENC := Lib.hid henc
     have HRD := Lib.hid hrd
     clear hg hno hyes henc hrd es
     have i0 : ((k : Nat) : Int) < fs.length := by omega
     have i1 : (0 : Int) ≤ ((k : Nat) : Int) := by omega
     have i2 : ((k : Nat) : Int) < s.size := by omega
     have CF := fits_any s[k].toNat n Af lf cf
     have HS0 : Hid (Others (boxF wr n Af lf cf) (boxF wr n Af lf cf).drew) := Lib.hid (Others.refl _)
     have HS1 : Hid (Others (boxF wr n Af lf cf) (boxF (boxF wr n Af lf cf).drew n Af lf cf)) := Lib.hid ((Others.refl (boxF wr n Af lf cf)).alloc _)
     have hP3 : Pad w.heap.size w u6 (Oc.encs (s.data.toList.take k) (fs.take k)) (boxF (boxF wr n Af lf cf).drew n Af lf cf).drew := ((HP.out.alloc _).drew.alloc _).drew
     have HB3 : Hid (Below w.heap.size w (boxF (boxF wr n Af lf cf).drew n Af lf cf)) := Lib.hid ((HP.out.alloc _).drew.alloc _).bel
     have pR : wr.cell? ⟨2, 0, none⟩ = some (ev aR) := (World.cell?_of_block (HP.out.bel.block _ HRB.out)).trans HRC.out
     cases hfit : Oc.fits s[k].toNat n lf
     ·rw [hfit] at CF
      have H : ∀ m, Hid (WritePost s fs aK aR w (.returned (.tuple #[.slice none 0 0, ev aR])) ((boxF (boxF wr n Af lf cf).drew n Af lf cf).drewN m)) := fun m => Lib.hid ⟨below_drewN HB3.out m, fun h => (by rw [← HKN.out] at h; cases h), fun _ _ => rfl, fun _ _ h => absurd h (HNO.out hfit)⟩
      have pR2 : ((boxF wr n Af lf cf).drew.alloc (Obj.cells #[.int .i64 n, .slice Af lf cf] 151)).cell? ⟨2, 0, none⟩ = some (ev aR) := (World.cell?_of_block (HB3.out.block _ HRB.out)).trans HRC.out
      clear hP3
      go_wp2_with (refine wpList_load_mid rfl 151 (.tmp 24) rfl b (o + k * 2) rfl _ _ HG.out Tryz.underlying151 rfl (by kernel_rfl) ?_)
      refine wp_region_held (S := (fun w' => Others (boxF wr n Af lf cf) w')) (by kernel_rfl) ?_
      change wpAnyH _ _ _ _ _ _ _ _ (boxF wr n Af lf cf).drew
      refine wpAnyH_take (i := 0) (v := ?_) rfl (by kernel_rfl) (by kernel_rfl) (by kernel_rfl) (fun _ _ _ h => h) (Or.inl ⟨by rfl, ?_⟩) (HS0.out) ?_
      rotate_left
      ·intro w _; go_simp; with_reducible rfl
      try simp only [Act.put, List.getElem_toArray, List.getElem_cons_zero, List.setIfInBounds_toArray, List.set_cons_zero, List.set_cons_succ]
      refine wpAnyH_take (i := 1) (v := ?_) rfl (by kernel_rfl) (by kernel_rfl) (by kernel_rfl) (fun _ _ _ h => h) (Or.inl ⟨by rfl, ?_⟩) (HS0.out) ?_
      rotate_left
      ·intro w _; go_simp; with_reducible rfl
      try simp only [Act.put, List.getElem_toArray, List.getElem_cons_zero, List.getElem_cons_succ, List.setIfInBounds_toArray, List.set_cons_zero, List.set_cons_succ]
      refine wpAnyH_take (i := 2) (v := ?_) rfl (by kernel_rfl) (by kernel_rfl) (by kernel_rfl) (fun _ _ _ h => h) (Or.inl ⟨by rfl, ?_⟩) (HS0.out) ?_
      rotate_left
      ·intro w' hw; go_simp; with_reducible rfl
      try simp only [Act.put, List.getElem_toArray, List.getElem_cons_zero, List.getElem_cons_succ, List.setIfInBounds_toArray, List.set_cons_zero, List.set_cons_succ]
      refine wpAnyH_take (i := 3) rfl (by kernel_rfl) (by kernel_rfl) (by kernel_rfl) (fun _ _ _ h => h) (takes_row 151 (.tmp 8) rfl (by rfl) (wr.heap.size) rfl 151 (#[.int .i64 n, .slice Af lf cf]) _ (fun w' h => h _ _ _ _ (by decide) (Blk.new wr _ _)) Tryz.underlying151 rfl (by kernel_rfl)) (HS0.out) ?_
      try simp only [Act.put, List.getElem_toArray, List.getElem_cons_zero, List.getElem_cons_succ, List.setIfInBounds_toArray, List.set_cons_zero, List.set_cons_succ]
      refine all_one (i := 4) (by kernel_rfl) rfl (by rfl) (fun K hK => ?_)
      go_simp
      refine (CF _).mono ?_
      rintro e w' ⟨rfl, rfl⟩
      dsimp only
      refine hK _ _ (HS1.out) ?_; clear hK K
      try simp only [Act.put, List.getElem_toArray, List.getElem_cons_zero, List.getElem_cons_succ, List.setIfInBounds_toArray, List.set_cons_zero, List.set_cons_succ]
      refine wpAnyH_take (i := 5) (v := ?_) rfl (by kernel_rfl) (by kernel_rfl) (by kernel_rfl) (fun _ _ _ h => h) (Or.inl ⟨by rfl, ?_⟩) HS1.out ?_
      rotate_left
      ·intro w' hw; go_simp; with_reducible rfl
      try simp only [Act.put, List.getElem_toArray, List.getElem_cons_zero, List.getElem_cons_succ, List.setIfInBounds_toArray, List.set_cons_zero, List.set_cons_succ]
      refine wpAnyH_done (by kernel_rfl) ?_ _
      go_wp2
      have H2 : ∀ m, Hid (WritePost s fs aK aR w (.returned (.tuple #[.slice none 0 0, ev aR])) (((boxF wr n Af lf cf).drew.alloc (Obj.cells #[.int .i64 n, .slice Af lf cf] 151)).drewN m)) := H
      clear H HB3 HS1
      generalize (boxF wr n Af lf cf).drew.alloc (Obj.cells #[.int .i64 n, .slice Af lf cf] 151) = wo at pR2 H2 ⊢
      go_quiet (fail)
      go_wp2
      go_ret2
      exact (H2 _).out
     ·rw [hfit] at CF
      have HO2 := Lib.hid (HYES.out hfit)
      have CP := put_any s[k].toNat n Af lf cf bs u6 _ w.heap.size w (boxF (boxF wr n Af lf cf).drew n Af lf cf).drew rfl hP3 HRD.out.1 HRD.out.2 hfit (Nat.le_trans (Oc.encs_len _ _ (fun f hf => by rw [(HF.out.r f (List.mem_of_mem_take hf)).2]; exact hlb f (List.mem_of_mem_take hf))) (by rw [List.length_take]; omega))
      rw [← HENC.out] at CP
      clear hP3 pR
      go_wp2_with (refine wpList_load_mid rfl 151 (.tmp 24) rfl b (o + k * 2) rfl _ _ HG.out Tryz.underlying151 rfl (by kernel_rfl) ?_)
      refine wp_region_held (S := (fun w' => Others (boxF wr n Af lf cf) w')) (by kernel_rfl) ?_
      change wpAnyH _ _ _ _ _ _ _ _ (boxF wr n Af lf cf).drew
      refine wpAnyH_take (i := 0) (v := ?_) rfl (by kernel_rfl) (by kernel_rfl) (by kernel_rfl) (fun _ _ _ h => h) (Or.inl ⟨by rfl, ?_⟩) (HS0.out) ?_
      rotate_left
      ·intro w _; go_simp; with_reducible rfl
      try simp only [Act.put, List.getElem_toArray, List.getElem_cons_zero, List.setIfInBounds_toArray, List.set_cons_zero, List.set_cons_succ]
      refine wpAnyH_take (i := 1) (v := ?_) rfl (by kernel_rfl) (by kernel_rfl) (by kernel_rfl) (fun _ _ _ h => h) (Or.inl ⟨by rfl, ?_⟩) (HS0.out) ?_
      rotate_left
      ·intro w _; go_simp; with_reducible rfl
      try simp only [Act.put, List.getElem_toArray, List.getElem_cons_zero, List.getElem_cons_succ, List.setIfInBounds_toArray, List.set_cons_zero, List.set_cons_succ]
      refine wpAnyH_take (i := 2) (v := ?_) rfl (by kernel_rfl) (by kernel_rfl) (by kernel_rfl) (fun _ _ _ h => h) (Or.inl ⟨by rfl, ?_⟩) (HS0.out) ?_
      rotate_left
      ·intro w' hw; go_simp; with_reducible rfl
      try simp only [Act.put, List.getElem_toArray, List.getElem_cons_zero, List.getElem_cons_succ, List.setIfInBounds_toArray, List.set_cons_zero, List.set_cons_succ]
      refine wpAnyH_take (i := 3) rfl (by kernel_rfl) (by kernel_rfl) (by kernel_rfl) (fun _ _ _ h => h) (takes_row 151 (.tmp 8) rfl (by rfl) (wr.heap.size) rfl 151 (#[.int .i64 n, .slice Af lf cf]) _ (fun w' h => h _ _ _ _ (by decide) (Blk.new wr _ _)) Tryz.underlying151 rfl (by kernel_rfl)) (HS0.out) ?_
      try simp only [Act.put, List.getElem_toArray, List.getElem_cons_zero, List.getElem_cons_succ, List.setIfInBounds_toArray, List.set_cons_zero, List.set_cons_succ]
      refine all_one (i := 4) (by kernel_rfl) rfl (by rfl) (fun K hK => ?_)
      go_simp
      refine (CF _).mono ?_
      rintro e w' ⟨rfl, rfl⟩
      dsimp only
      refine hK _ _ (HS1.out) ?_; clear hK K
      try simp only [Act.put, List.getElem_toArray, List.getElem_cons_zero, List.getElem_cons_succ, List.setIfInBounds_toArray, List.set_cons_zero, List.set_cons_succ]
      refine wpAnyH_take (i := 5) (v := ?_) rfl (by kernel_rfl) (by kernel_rfl) (by kernel_rfl) (fun _ _ _ h => h) (Or.inl ⟨by rfl, ?_⟩) HS1.out ?_
      rotate_left
      ·intro w' hw; go_simp; with_reducible rfl
      try simp only [Act.put, List.getElem_toArray, List.getElem_cons_zero, List.getElem_cons_succ, List.setIfInBounds_toArray, List.set_cons_zero, List.set_cons_succ]
      refine wpAnyH_done (by kernel_rfl) ?_ _
      go_wp2
      refine wp_region_held (S := (fun w' => Others (boxF wr n Af lf cf) w')) (by kernel_rfl) ?_
      change wpAnyH _ _ _ _ _ _ _ _ (boxF (boxF wr n Af lf cf).drew n Af lf cf).drew
      refine wpAnyH_take (i := 0) (v := ?_) rfl (by kernel_rfl) (by kernel_rfl) (by kernel_rfl) (fun _ _ _ h => h) (Or.inl ⟨by rfl, ?_⟩) (HS1.out) ?_
      rotate_left
      ·intro w _; go_simp; with_reducible rfl
      try simp only [Act.put, List.getElem_toArray, List.getElem_cons_zero, List.setIfInBounds_toArray, List.set_cons_zero, List.set_cons_succ]
      refine wpAnyH_take (i := 1) (v := ?_) rfl (by kernel_rfl) (by kernel_rfl) (by kernel_rfl) (fun _ _ _ h => h) (Or.inl ⟨by rfl, ?_⟩) (HS1.out) ?_
      rotate_left
      ·intro w _; go_simp; with_reducible rfl
      try simp only [Act.put, List.getElem_toArray, List.getElem_cons_zero, List.getElem_cons_succ, List.setIfInBounds_toArray, List.set_cons_zero, List.set_cons_succ]
      refine wpAnyH_take (i := 2) (v := ?_) rfl (by kernel_rfl) (by kernel_rfl) (by kernel_rfl) (fun _ _ _ h => h) (Or.inl ⟨by rfl, ?_⟩) (HS1.out) ?_
      rotate_left
      ·intro w _; go_simp; with_reducible rfl
      try simp only [Act.put, List.getElem_toArray, List.getElem_cons_zero, List.getElem_cons_succ, List.setIfInBounds_toArray, List.set_cons_zero, List.set_cons_succ]
      refine wpAnyH_take (i := 3) (v := ?_) rfl (by kernel_rfl) (by kernel_rfl) (by kernel_rfl) (fun _ _ _ h => h) (Or.inl ⟨by rfl, ?_⟩) (HS1.out) ?_
      rotate_left
      ·intro w' hw; go_simp; with_reducible rfl
      try simp only [Act.put, List.getElem_toArray, List.getElem_cons_zero, List.getElem_cons_succ, List.setIfInBounds_toArray, List.set_cons_zero, List.set_cons_succ]
      refine wpAnyH_take (i := 4) rfl (by kernel_rfl) (by kernel_rfl) (by kernel_rfl) (fun _ _ _ h => h) (takes_row 151 (.tmp 8) rfl (by rfl) (wr.heap.size) rfl 151 (#[.int .i64 n, .slice Af lf cf]) _ (fun w' h => h _ _ _ _ (by decide) (Blk.new wr _ _)) Tryz.underlying151 rfl (by kernel_rfl)) (HS1.out) ?_
      try simp only [Act.put, List.getElem_toArray, List.getElem_cons_zero, List.getElem_cons_succ, List.setIfInBounds_toArray, List.set_cons_zero, List.set_cons_succ]
      refine all_one (i := 5) (by kernel_rfl) rfl (by rfl) (fun K hK => ?_)
      go_simp
      refine (CP).mono ?_
      rintro e w' ⟨v', rfl, hp, ho⟩
      have HP2 := Lib.hid hp
      have HO3 : Hid (Others (boxF wr n Af lf cf) w') := Lib.hid (HS1.out.trans ho)
      clear hp ho
      dsimp only
      refine hK _ _ (HO3.out) ?_; clear hK K
      try simp only [Act.put, List.getElem_toArray, List.getElem_cons_zero, List.getElem_cons_succ, List.setIfInBounds_toArray, List.set_cons_zero, List.set_cons_succ]
      refine wpAnyH_take (i := 6) (v := ?_) rfl (by kernel_rfl) (by kernel_rfl) (by kernel_rfl) (fun _ _ _ h => h) (Or.inl ⟨by rfl, ?_⟩) HO3.out ?_
      rotate_left
      ·intro w' hw; go_simp; with_reducible rfl
      try simp only [Act.put, List.getElem_toArray, List.getElem_cons_zero, List.getElem_cons_succ, List.setIfInBounds_toArray, List.set_cons_zero, List.set_cons_succ]
      refine wpAnyH_done (by kernel_rfl) ?_ _
      go_wp2
      go_roundw
      case rel => exact ⟨k + 1, by omega, by go_num, HP2, HO2⟩
      case measure => simp [intOf]; omega
    ·obtain rfl : k = fs.length := by omega
     have H : Hid (WritePost s fs aK aR w (.returned (.tuple #[u6, .nilIface])) wr) := Lib.hid ⟨HP.out.bel, fun h => (by rw [← HKN.out] at h; cases h), fun _ h => (by rcases h with h | h; exact absurd hn h; exact absurd (hn ▸ HO.out) h), fun _ _ _ => ⟨_, rfl, by
      have h := HP.out
      rwa [List.take_of_length_le (by simp; omega), List.take_of_length_le (Nat.le_refl _)] at h⟩⟩
     go_wp2
     go_ret2
     exact H.out
  ·have H : ∀ m, Hid (WritePost s fs aK aR w (.returned (.tuple #[.slice none 0 0, ev aR])) (w.drewN m)) := fun m => Lib.hid ⟨below_drewN (Below.refl _ _) m, fun h => (by rw [← HKN.out] at h; cases h), fun _ _ => rfl, fun _ h _ => absurd h hn⟩
   have b1 : ((fs.length : Int) != (s.size : Int)) = true := by simp; omega
   go_enter Tryz.func79, Tryz.ntmps79
   go_wp2_with (go_at_call 106; refine (C1 _ (by omega)).mono ?_; rintro e w' ⟨rfl, rfl⟩)
   go_quiet (fail)
   go_wp2
   go_ret2
   exact (H _).out
end Go.Proofs.YtgcgomdhdgjpdaaGreatDoor
/- The document's comparison of two rows of fields (cartageref02.Same). -/
namespace Go.Proofs.YtgcgomdhdgjpdaaGreatDoor
open Go Go.RowKit
def cellsF (fs : List Fld) : List Value := fs.flatMap fun f => [.int .i64 f.n, .slice f.A f.l f.c]
theorem Pad.step {w : World} {s : Value} {ys : List Nat} {wr w' : World} (h : Pad w.heap.size w s ys wr) (k : Below wr.heap.size wr w') : Pad w.heap.size w s ys w' :=
  ⟨h.own.kept (row := none) ⟨k.os, k.tape, k.output, k.size, fun i hi _ => k.block i hi⟩ (by cases s.ownBlock with | none => exact Or.inl rfl | some _ => exact Or.inr (by simp)),
   ⟨k.os.trans h.bel.os, k.tape.trans h.bel.tape, k.output.trans h.bel.output, Nat.le_trans h.bel.size k.size, fun i hi => (k.block i (Nat.lt_of_lt_of_le hi h.bel.size)).trans (h.bel.block i hi)⟩⟩
theorem Pad.drewN {B : Nat} {w : World} {s : Value} {ys : List Nat} {wr : World} (h : Pad B w s ys wr) (n : Nat) : Pad B w s ys (wr.drewN n) := ⟨h.own, below_drewN h.bel n⟩
theorem Others.of_below {a b : World} (h : Below a.heap.size a b) : Others a b := fun p _ _ _ _ e => (h.block p (Array.getElem?_eq_some_iff.1 e).1).trans e
namespace Oc
end Oc
end Go.Proofs.YtgcgomdhdgjpdaaGreatDoor
/- Reading by shapes: which fields bytes are; what was written is read again, and what is read was written so. -/
namespace Go.Proofs.YtgcgomdhdgjpdaaGreatDoor
open Go Go.RowKit
namespace Oc
def val (l : List Nat) : Nat := l.foldl (fun n b => n * 256 + b) 0
theorem val_snoc (l : List Nat) (x : Nat) : val (l ++ [x]) = val l * 256 + x := by simp [val]
theorem val_take {l : List Nat} {k : Nat} (h : k < l.length) : val (l.take (k + 1)) = val (l.take k) * 256 + l.getD k 0 := by
 rw [List.take_succ_eq_append_getElem h, val_snoc]; simp [List.getD, h]
def bytes (l : List Nat) : Prop := ∀ x ∈ l, x < 256
theorem bytes_of {l : List Nat} (h : Sha.Byte l) : bytes l := fun x hx => by
 obtain ⟨i, hi, rfl⟩ := List.mem_iff_getElem.1 hx
 have := h i
 simpa [List.getD, hi] using this
theorem bytes_take {l : List Nat} (h : bytes l) (k : Nat) : bytes (l.take k) := fun x hx => h x (List.mem_of_mem_take hx)
theorem bytes_drop {l : List Nat} (h : bytes l) (k : Nat) : bytes (l.drop k) := fun x hx => h x (List.mem_of_mem_drop hx)
theorem val_lt : ∀ (s : Nat) (l : List Nat), bytes l → l.length = s → val l < 256 ^ s
 | 0, l, _, h => by rw [List.eq_nil_of_length_eq_zero h]; simp [val]
 | s + 1, l, hb, h => by
  have hne : l ≠ [] := by rintro rfl; simp at h
  rw [← List.dropLast_concat_getLast hne] at hb ⊢
  have h1 := val_lt s l.dropLast (fun x hx => hb x (List.mem_append_left _ hx)) (by simp [h])
  have h2 := hb (l.getLast hne) (by simp)
  rw [val_snoc, Nat.pow_succ]
  omega
def zs (c : Nat) : Nat := (nsize c).toNat
def mostN (c : Nat) : Nat := (most c).toNat
inductive Stp where
 | bad (e : Nat)
 | ok (n : Nat) (x : List Nat) (k : Nat)
def step (c : Nat) (bs : List Nat) : Stp :=
 if c = 111 then (if bs.length < 32 then .bad 2 else .ok 0 (bs.take 32) 32)
 else if c = 116 then (if bs.length < 2 then .bad 2 else if bs.length < 2 + val (bs.take 2) then .bad 2 else .ok 0 ((bs.drop 2).take (val (bs.take 2))) (2 + val (bs.take 2)))
 else if bs.length < zs c then .bad 2 else if mostN c < val (bs.take (zs c)) then .bad 1 else .ok (val (bs.take (zs c))) [] (zs c)
inductive Got where
 | bad (e : Nat)
 | ok (l : List (Nat × List Nat)) (p : Nat)
def Got.next (bs : List Nat) (g : Got) (c : Nat) : Got :=
 match g with
 | .bad e => .bad e
 | .ok l p => match step c (bs.drop p) with
  | .bad e => .bad e
  | .ok n x k => .ok (l ++ [(n, x)]) (p + k)
def reads (s : List Nat) (bs : List Nat) : Got := s.foldl (Got.next bs) (.ok [] 0)
theorem next_bad (bs : List Nat) (e : Nat) : ∀ (s : List Nat), s.foldl (Got.next bs) (.bad e) = .bad e
 | [] => rfl
 | _ :: s => next_bad bs e s
theorem next_ok (bs : List Nat) : ∀ (s : List Nat) (l0 : List (Nat × List Nat)) (p0 : Nat) (l : List (Nat × List Nat)) (p : Nat), s.foldl (Got.next bs) (.ok l0 p0) = .ok l p → ∃ l1, l = l0 ++ l1 ∧ l1.length = s.length
 | [], l0, p0, l, p, h => by
  injection h with h1 h2
  exact ⟨[], by simp [h1], rfl⟩
 | c :: s, l0, p0, l, p, h => by
  rw [List.foldl_cons, Got.next] at h
  cases hs : step c (bs.drop p0) with
  | bad e =>
   rw [hs] at h
   rw [next_bad] at h
   cases h
  | ok n x k =>
   rw [hs] at h
   obtain ⟨l1, h1, h2⟩ := next_ok bs s _ _ l p h
   exact ⟨(n, x) :: l1, by rw [h1]; simp, by simp [h2]⟩
end Oc
end Go.Proofs.YtgcgomdhdgjpdaaGreatDoor
/- Reading, from below: how an In ends (end, Fail), goes on (next), what is left (Left), a copy of bytes (bytes.Clone). -/
namespace Go.Proofs.YtgcgomdhdgjpdaaGreatDoor
open Go Go.RowKit
abbrev stopV (r : Nat) : Value := .iface 257 (.agg #[.pointer (some ⟨r, 0, none⟩)])
structure Rdg (w : World) (i r : Nat) (v : Value) : Prop where
 i_ : Blk w i 258 #[.pointer (some ⟨r, 0, none⟩)]
 r_ : Blk w r 240 #[v, .bool true, .bool false, .nilIface]
 ne : i ≠ r
def Dead (w : World) (r : Nat) (e : Value) : Prop := ∃ v, Blk w r 240 #[v, .bool true, .bool true, e]
theorem Dead.grown {w w' : World} {r : Nat} {e : Value} (h : Dead w r e) (k : Below w.heap.size w w') : Dead w' r e := by
 obtain ⟨v, h⟩ := h
 exact ⟨v, h.below k h.lt⟩
def Fails (w : World) (r : Nat) (er : Value) (e : Ending) (w' : World) : Prop := e = .panicked [{ v := stopV r, recovered := false }] ∧ Dead w' r er ∧ w.grownBy w' (some r)
def InAt (w0 w : World) (i r : Nat) (xs : List Nat) : Prop := ∃ v, Rdg w i r v ∧ Rd w0 v xs ∧ Below w0.heap.size w0 w ∧ w0.heap.size ≤ r ∧ w0.heap.size ≤ i
theorem below_then {w0 w w' : World} (h : Below w0.heap.size w0 w) (k : Below w.heap.size w w') : Below w0.heap.size w0 w' :=
 ⟨k.os.trans h.os, k.tape.trans h.tape, k.output.trans h.output, Nat.le_trans h.size k.size, fun i hi => (k.block i (Nat.lt_of_lt_of_le hi h.size)).trans (h.block i hi)⟩
theorem InAt.below {w0 w w' : World} {i r : Nat} {xs : List Nat} (h : InAt w0 w i r xs) (hb : Below w.heap.size w w') : InAt w0 w' i r xs := by
 obtain ⟨v, k, hr, hw, h1, h2⟩ := h
 exact ⟨v, ⟨k.i_.below hb k.i_.lt, k.r_.below hb k.r_.lt, k.ne⟩, hr, below_then hw hb, h1, h2⟩
theorem InAt.lt {w0 w : World} {i r : Nat} {xs : List Nat} (h : InAt w0 w i r xs) : r < w.heap.size := by
 obtain ⟨v, k, _⟩ := h
 exact k.r_.lt
theorem InAt.bel {w0 w : World} {i r : Nat} {xs : List Nat} (h : InAt w0 w i r xs) : Below w0.heap.size w0 w ∧ w0.heap.size ≤ r := by
 obtain ⟨v, k, hr, hw, h1, h2⟩ := h
 exact ⟨hw, h1⟩
theorem RdB.rd {w : World} {p : Nat} {v : Value} {xs : List Nat} (h : RdB w p v xs) : Rd w v xs := by
 obtain ⟨A, c, h1, h2, h3⟩ := h
 exact ⟨A, c, h1, h2, fun h0 => by obtain ⟨b, o, g1, _, g3, g4⟩ := h3 h0; exact ⟨b, o, g1, g3, g4⟩⟩
theorem Rd.cut {w : World} {A : Option Addr} {n c : Nat} {xs : List Nat} (h : Rd w (.slice A n c) xs) {k : Nat} (hk : k ≤ xs.length) :
  Rd w (.slice (if c = k then A else A.map (·.add k)) (n - k) (c - k)) (xs.drop k) := ((h.out (Nat.le_refl _)).cut hk).rd
theorem oend_any (r : Nat) (v : Value) (ae : Addr) (w : World) (h : Blk w r 240 #[v, .bool true, .bool false, .nilIface]) :
  Calls Tryz.prog 178 #[.pointer (some ⟨r, 0, none⟩), (ev ae)] w fun e w' => e = .returned (.tuple #[]) ∧ Blk w' r 240 #[v, .bool true, .bool true, (ev ae)] ∧ w.grownBy w' (some r) := by
 have c2 : w.cell? ⟨r, 2, none⟩ = some (.bool false) := h.cell 2
 have c3 : w.cell? ⟨r, 3, none⟩ = some .nilIface := h.cell 3
 have z2 := h.frozen 2
 have z3 := h.frozen 3
 have HB : Hid (Blk ((w.setCell ⟨r, 2, none⟩ (.bool true)).setCell ⟨r, 3, none⟩ (ev ae)) r 240 #[v, .bool true, .bool true, (ev ae)]) := Lib.hid (by
  have h2 := (h.set_ 2 (.bool true)).set_ 3 (ev ae)
  simp only [List.setIfInBounds_toArray, List.set_cons_zero, List.set_cons_succ] at h2
  exact h2)
 have HG : Hid (w.grownBy ((w.setCell ⟨r, 2, none⟩ (.bool true)).setCell ⟨r, 3, none⟩ (ev ae)) (some r)) := Lib.hid (only_setCell (p := ⟨r, 3, none⟩) (only_setCell (p := ⟨r, 2, none⟩) (World.grownBy.refl w (some r)) (Or.inl rfl) _) (Or.inl rfl) _)
 clear h
 go_enter Tryz.func178, Tryz.ntmps178
 go_wp2
 go_end0
 exact ⟨rfl, HB.out, HG.out⟩
theorem fail_any (i r : Nat) (v : Value) (ae : Addr) (w : World) (h : Rdg w i r v) :
  Calls Tryz.prog 165 #[.pointer (some ⟨i, 0, none⟩), ev ae] w (Fails w r (ev ae)) := by
 have c0 : w.cell? ⟨i, 0, none⟩ = some (.pointer (some ⟨r, 0, none⟩)) := h.i_.cell 0
 have c1 : w.cell? ⟨r, 1, none⟩ = some (.bool true) := h.r_.cell 1
 have CE := oend_any r v ae w h.r_
 have HI := Lib.hid h.i_
 have hne := h.ne
 clear h
 go_enter Tryz.func165, Tryz.ntmps165
 go_wp2_with (go_at_call 178; refine CE.mono ?_; rintro e w' ⟨rfl, hB, hG⟩; have HB := Lib.hid hB; have HG := Lib.hid hG; have c2 : w'.cell? ⟨i, 0, none⟩ = some (.pointer (some ⟨r, 0, none⟩)) := (HI.out.grown hG (by intro e; injection e with e; exact hne e)).cell 0; clear hB hG)
 exact ⟨rfl, rfl, ⟨v, HB.out⟩, HG.out⟩
theorem left_any (i r : Nat) (xs : List Nat) (w0 w : World) (h : InAt w0 w i r xs) :
  Calls Tryz.prog 163 #[.pointer (some ⟨i, 0, none⟩)] w fun e w' => e = .returned (.int .i64 (xs.length : Int)) ∧ w = w' := by
 obtain ⟨v, h, hr, _⟩ := h
 obtain ⟨A, c, rfl, _, _⟩ := hr
 have c0 : w.cell? ⟨i, 0, none⟩ = some (.pointer (some ⟨r, 0, none⟩)) := h.i_.cell 0
 have c1 : w.cell? ⟨r, 0, none⟩ = some (.slice A xs.length c) := h.r_.cell 0
 clear h
 go_enter Tryz.func163, Tryz.ntmps163
 go_wp2
 go_ret
 exact ⟨rfl, rfl⟩
theorem Rd.cutHi {w : World} {A : Option Addr} {n c : Nat} {xs : List Nat} (h : Rd w (.slice A n c) xs) {k : Nat} (hk : k ≤ xs.length) : Rd w (.slice A k c) (xs.take k) := by
 obtain ⟨A', c', hv, hc, hA⟩ := h
 injection hv with e1 e2 e3
 subst e1 e2 e3
 have hl : (xs.take k).length = k := by rw [List.length_take]; omega
 refine ⟨_, _, by rw [hl], by rw [hl]; omega, fun h0 => ?_⟩
 rw [hl] at h0
 obtain ⟨b, o, ha, hlt, hx⟩ := hA (by omega)
 refine ⟨b, o, ha, hlt, fun i hi => ?_⟩
 rw [hl] at hi
 rw [hx i (by omega)]
 simp [List.getD, hi]
theorem run_sliceHi {P : Program} {t e : TypeId} (ht : P.underlying t = some (.slice e)) (hi : (P.info? e).map (·.size) = some 1) (A : Option Addr) (len cap h : Nat) (h1 : h ≤ cap)
  {x : Int} (el : x = h) (w : World) :
  (Instr.slice t (.slice A len cap) none (some (.int .i64 x)) none).run P w = .ok (.slice A h cap) w := by
 subst el
 cases hq : P.info? e with
 | none => simp [hq] at hi
 | some i =>
  have hs : i.size = 1 := by simpa [hq] using hi
  have hn : ((h : Nat) : Int) ≤ cap := by omega
  cases A <;> simp [Instr.slice, run_underlying ht, Instr.sliceBounds, run_sliceBound, sizeOf, typeInfo, hq, hn, Addr.add]
theorem run_sliceLoS {P : Program} {t e : TypeId} (ht : P.underlying t = some (.slice e)) (hi : (P.info? e).map (·.size) = some 1) (A : Option Addr) (len cap l : Nat) (h1 : l ≤ len)
  {lo : Int} (el : lo = l) (w : World) :
  (Instr.slice t (.slice A len cap) (some (.int .i64 lo)) none none).run P w = .ok (.slice (if cap = l then A else A.map (·.add l)) (len - l) (cap - l)) w := by
 subst el
 cases hq : P.info? e with
 | none => simp [hq] at hi
 | some i =>
  have hs : i.size = 1 := by simpa [hq] using hi
  have hn : ((l : Nat) : Int) ≤ len := by omega
  simp [Instr.slice, run_underlying ht, Instr.sliceBounds, run_sliceBound, sizeOf, typeInfo, hq, hs, hn]
theorem next_ok (i r n : Nat) (xs : List Nat) (w0 w : World) (h : InAt w0 w i r xs) (hn : n ≤ xs.length) :
  Calls Tryz.prog 180 #[.pointer (some ⟨i, 0, none⟩), .int .i64 (n : Int)] w fun e w' => ∃ v, e = .returned v ∧ Rd w0 v (xs.take n) ∧ InAt w0 w' i r (xs.drop n) ∧ w.grownBy w' (some r) := by
 obtain ⟨v, h, hr, hw0, hr0, hi0⟩ := h
 have HR := Lib.hid hr
 obtain ⟨A, c, rfl, hc, hA⟩ := hr
 clear hA
 have c0 : w.cell? ⟨i, 0, none⟩ = some (.pointer (some ⟨r, 0, none⟩)) := h.i_.cell 0
 have c1 : w.cell? ⟨r, 0, none⟩ = some (.slice A xs.length c) := h.r_.cell 0
 have c2 : w.cell? ⟨r, 1, none⟩ = some (.bool true) := h.r_.cell 1
 have c3 : w.cell? ⟨r, 2, none⟩ = some (.bool false) := h.r_.cell 2
 have z0 := h.r_.frozen 0
 have i1 : ¬ (xs.length : Int) < (n : Int) := by omega
 have q1 : ∀ w', (Instr.slice 46 (.slice A xs.length c) none (some (.int .i64 (n : Int))) none).run Tryz.prog w' = .ok (.slice A n c) w' := fun w' => run_sliceHi Tryz.underlying46 (by kernel_rfl) A xs.length c n (by omega) rfl w'
 have q2 : ∀ w', (Instr.slice 46 (.slice A xs.length c) (some (.int .i64 (n : Int))) none none).run Tryz.prog w' = .ok (.slice (if c = n then A else A.map (·.add n)) (xs.length - n) (c - n)) w' := fun w' => run_sliceLoS Tryz.underlying46 (by kernel_rfl) A xs.length c n hn rfl w'
 obtain ⟨A2, hA2⟩ : ∃ A2, A2 = (if c = n then A else A.map (·.add n)) := ⟨_, rfl⟩
 rw [← hA2] at q2
 have HG : ∀ m, Hid (w.grownBy ((w.setCell ⟨r, 0, none⟩ (.slice A2 (xs.length - n) (c - n))).drewN m) (some r)) := fun m => Lib.hid (only_drewN (only_setCell (World.grownBy.refl w _) (Or.inl rfl) _) m)
 have HI : ∀ m, Hid (InAt w0 ((w.setCell ⟨r, 0, none⟩ (.slice A2 (xs.length - n) (c - n))).drewN m) i r (xs.drop n)) := fun m => Lib.hid ⟨_, ⟨(h.i_.far h.ne _).drewN m, (h.r_.set_ 0 _).drewN m, h.ne⟩, by have hq := HR.out.cut hn; rw [← hA2] at hq; exact hq, below_of_only hw0 (HG m).out hr0, hr0, hi0⟩
 have HV : Hid (Rd w0 (.slice A n c) (xs.take n)) := Lib.hid (HR.out.cutHi hn)
 clear h hA2
 go_enter Tryz.func180, Tryz.ntmps180
 go_wp2
 go_region
 go_wp2
 go_ret
 exact ⟨_, rfl, HV.out, (HI 1).out, (HG 1).out⟩
end Go.Proofs.YtgcgomdhdgjpdaaGreatDoor
