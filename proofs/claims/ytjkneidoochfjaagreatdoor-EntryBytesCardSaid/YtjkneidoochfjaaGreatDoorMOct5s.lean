/- Fields of layer 2 as bytes: octets.Write. -/
import Derived.Test.YtjkneidoochfjaaGreatDoorMOct2s
import Derived.Test.YtjkneidoochfjaaGreatDoorMBases
namespace Go.Proofs.YtjkneidoochfjaaGreatDoor
open Go Go.RowKit
/-- A field as it lies: its number, its bytes' slice, its bytes. -/
structure Fld where
  n : Int
  A : Option Addr
  l : Nat
  c : Nat
  bs : List Nat
/-- Fields as they lie in a block. -/
structure FRow (w : World) (b o : Nat) (fs : List Fld) : Prop where
  n : ∀ i (h : i < fs.length), w.cell? ⟨b, o + 2 * i, none⟩ = some (.int .i64 fs[i].n)
  s : ∀ i (h : i < fs.length), w.cell? ⟨b, o + 2 * i + 1, none⟩ = some (.slice fs[i].A fs[i].l fs[i].c)
  r : ∀ f ∈ fs, Rd w (.slice f.A f.l f.c) f.bs ∧ f.bs.length = f.l
  lt : b < w.heap.size
theorem FRow.below {w w' : World} {B b o : Nat} {fs : List Fld} (h : FRow w b o fs) (hb : Below B w w') (hB : w.heap.size ≤ B) : FRow w' b o fs :=
  have e : ∀ i, w'.cell? ⟨b, i, none⟩ = w.cell? ⟨b, i, none⟩ := fun _i => World.cell?_of_block (hb.block b (Nat.lt_of_lt_of_le h.lt hB))
  ⟨fun i hi => (e _).trans (h.n i hi), fun i hi => (e _).trans (h.s i hi), fun f hf => ⟨(h.r f hf).1.below hb hB, (h.r f hf).2⟩, Nat.lt_of_lt_of_le h.lt hb.size⟩
namespace Oc
def okTo (s : List UInt8) (fs : List Fld) (k : Nat) : Prop := ∀ i (h1 : i < s.length) (h2 : i < fs.length), i < k → fits s[i].toNat fs[i].n fs[i].l = true
/-- the fields' bytes -/
def encs : List UInt8 → List Fld → List Nat
  | c :: s, f :: fs => enc c.toNat f.n f.bs ++ encs s fs
  | _, _ => []
theorem encs_take : ∀ (s : List UInt8) (fs : List Fld) (k : Nat) (h1 : k < s.length) (h2 : k < fs.length), encs (s.take (k + 1)) (fs.take (k + 1)) = encs (s.take k) (fs.take k) ++ enc s[k].toNat fs[k].n fs[k].bs
  | c :: s, f :: fs, 0, _, _ => by simp [encs]
  | c :: s, f :: fs, k + 1, h1, h2 => by
    have := encs_take s fs k (by simpa using h1) (by simpa using h2)
    simp [encs, this]
theorem enc_len (c : Nat) (n : Int) (bs : List Nat) (h : bs.length ≤ 1000) : (enc c n bs).length ≤ 1010 := by
  unfold enc
  by_cases h1 : c = 111
  · rw [if_pos h1]; omega
  rw [if_neg h1]
  by_cases h2 : c = 116
  · rw [if_pos h2, List.length_append, nums_len]; omega
  rw [if_neg h2, nums_len]
  obtain ⟨s, hs, h8⟩ := nsize_nat c
  omega
theorem encs_len : ∀ (s : List UInt8) (fs : List Fld), (∀ f ∈ fs, f.bs.length ≤ 1000) → (encs s fs).length ≤ 1010 * fs.length
  | [], _, _ => by simp [encs]
  | _ :: _, [], _ => by simp [encs]
  | c :: s, f :: fs, h => by
    have h1 := encs_len s fs fun f hf => h f (List.mem_cons_of_mem _ hf)
    have h2 := enc_len c.toNat f.n f.bs (h f (List.mem_cons_self ..))
    rw [encs, List.length_append, List.length_cons]
    omega
theorem okTo_succ {s : List UInt8} {fs : List Fld} {k : Nat} (h : okTo s fs k) (h1 : k < s.length) (h2 : k < fs.length) (hf : fits s[k].toNat fs[k].n fs[k].l = true) : okTo s fs (k + 1) := fun i a b c => by
  rcases Nat.lt_or_ge i k with hk | hk
  · exact h i a b hk
  · obtain rfl : i = k := by omega
    exact hf
end Oc
theorem Pad.alloc {w : World} {s : Value} {ys : List Nat} {wr : World} (h : Pad w.heap.size w s ys wr) (o : Obj) : Pad w.heap.size w s ys (wr.alloc o) := ⟨ownsRow_alloc h.own o, h.bel.alloc h.bel.size o⟩
theorem Pad.drew {B : Nat} {w : World} {s : Value} {ys : List Nat} {wr : World} (h : Pad B w s ys wr) : Pad B w s ys wr.drew := ⟨h.own.drew, below_drewN h.bel 1⟩
/-- What octets.Write answers. -/
def WritePost (s : ByteArray) (fs : List Fld) (aK aR : Addr) (w : World) (e : Ending) (w' : World) : Prop :=
  Below w.heap.size w w' ∧
  (Oc.known s.data.toList = false → e = .returned (.tuple #[.slice none 0 0, ev aK])) ∧
  (Oc.known s.data.toList = true → (fs.length ≠ s.size ∨ ¬ Oc.okTo s.data.toList fs s.size) → e = .returned (.tuple #[.slice none 0 0, ev aR])) ∧
  (Oc.known s.data.toList = true → fs.length = s.size → Oc.okTo s.data.toList fs s.size → ∃ v, e = .returned (.tuple #[v, .nilIface]) ∧ Pad w.heap.size w v (Oc.encs s.data.toList fs) w')
set_option maxRecDepth 100000 in
theorem write_any (s : ByteArray) (A : Option Addr) (b o cap : Nat) (fs : List Fld) (aK aR : Addr) (w : World) (hs : s.size ≤ 1000) (hA : 0 < fs.length → A = some ⟨b, o, none⟩) (hF : FRow w b o fs) (_hl : fs.length ≤ 1000) (hlb : ∀ f ∈ fs, f.l ≤ 1000)
    (hK : w.cell? ⟨7, 0, none⟩ = some (ev aK)) (hR : w.cell? ⟨2, 0, none⟩ = some (ev aR)) :
    Calls Tryz.prog 44 #[.string s, .slice A fs.length cap] w (WritePost s fs aK aR w) := by
  have C1 := known_any s
  have HKB := Lib.hid (block_lt_of_cell hK)
  have HRB := Lib.hid (block_lt_of_cell hR)
  obtain ⟨kn, hkn⟩ : ∃ kn, kn = Oc.known s.data.toList := ⟨_, rfl⟩
  rw [← hkn] at C1
  have HKN := Lib.hid hkn
  clear hkn
  cases kn
  · have H : ∀ m, Hid (WritePost s fs aK aR w (.returned (.tuple #[.slice none 0 0, ev aK])) (w.drewN m)) := fun m => Lib.hid ⟨below_drewN (Below.refl _ _) m, fun _ => rfl, fun h _ => (by rw [← HKN.out] at h; cases h), fun h _ _ => (by rw [← HKN.out] at h; cases h)⟩
    go_enter Tryz.func44, Tryz.ntmps44
    go_wp2_with (go_at_call 69; refine (C1 _ (by omega)).mono ?_; rintro e w' ⟨rfl, rfl⟩)
    go_quiet (fail)
    go_wp2
    go_ret2
    exact (H _).out
  · by_cases hn : fs.length = s.size
    · have b1 : ((fs.length : Int) != (s.size : Int)) = false := by simp; omega
      have HP0 : Hid (Pad w.heap.size w (.slice none 0 0) (Oc.encs (s.data.toList.take 0) (fs.take 0)) w) := Lib.hid ⟨World.ownsRow_nil _ _ _ _, Below.refl _ _⟩
      have HF := Lib.hid hF
      have HKC := Lib.hid hK
      have HRC := Lib.hid hR
      clear hF hK hR
      go_enter Tryz.func44, Tryz.ntmps44
      go_wp2_with (go_at_call 69; refine (C1 _ (by omega)).mono ?_; rintro e w' ⟨rfl, rfl⟩)
      go_loopw [6, 21] (fun v i wr => ∃ k : Nat, k ≤ fs.length ∧ i = .int .i64 k ∧ Hid (Pad w.heap.size w v (Oc.encs (s.data.toList.take k) (fs.take k)) wr) ∧ Hid (Oc.okTo s.data.toList fs k)) (fun _ i _ => fs.length - (intOf i).toNat)
      case atStart => exact ⟨0, Nat.zero_le _, rfl, HP0, Lib.hid fun _ _ _ h => by omega⟩
      case round =>
        obtain ⟨k, hk, rfl, HP, HO⟩ := hrel
        by_cases hlt : k < fs.length
        · obtain rfl := hA (by omega)
          have HFr := Lib.hid (HF.out.below HP.out.bel (Nat.le_refl _))
          have hg : wr.rangeAt b (o + k * 2) [.int .i64 fs[k].n, .slice fs[k].A fs[k].l fs[k].c] := fun j v hj => by
            have p1 := HFr.out.n k hlt
            have p2 := HFr.out.s k hlt
            rcases j with _ | _ | j
            · rw [show o + k * 2 + 0 = o + 2 * k by omega, p1]; exact hj
            · rw [show o + k * 2 + (0 + 1) = o + 2 * k + 1 by omega, p2]; exact hj
            · simp at hj
          have hks : k < s.size := by omega
          have es : s.data.toList[k]'(by simpa using hks) = s[k] := rfl
          have hno : Oc.fits s[k].toNat fs[k].n fs[k].l = false → ¬ Oc.okTo s.data.toList fs s.size := fun h ho => by
            have h2 := ho k (by simpa using hks) hlt hks
            rw [es, h] at h2
            cases h2
          have hyes : Oc.fits s[k].toNat fs[k].n fs[k].l = true → Oc.okTo s.data.toList fs (k + 1) := fun h => Oc.okTo_succ HO.out (by simpa using hks) hlt (by rw [es]; exact h)
          have henc : Oc.encs (s.data.toList.take (k + 1)) (fs.take (k + 1)) = Oc.encs (s.data.toList.take k) (fs.take k) ++ Oc.enc s[k].toNat fs[k].n fs[k].bs := by
            rw [Oc.encs_take _ _ _ (by simpa using hks) hlt, es]
          have hrd := HF.out.r fs[k] (List.getElem_mem _)
          generalize fs[k] = f at hg hno hyes henc hrd
          obtain ⟨n, Af, lf, cf, bs⟩ := f
          dsimp only at hg hno hyes henc hrd
          have HG := Lib.hid hg
          have HNO := Lib.hid hno
          have HYES := Lib.hid hyes
          have HENC := Lib.hid henc
          have HRD := Lib.hid hrd
          clear hg hno hyes henc hrd es
          have i0 : ((k : Nat) : Int) < fs.length := by omega
          have i1 : (0 : Int) ≤ ((k : Nat) : Int) := by omega
          have i2 : ((k : Nat) : Int) < s.size := by omega
          have CF := fits_any s[k].toNat n Af lf cf
          have HS0 : Hid (Others (boxF wr n Af lf cf) (boxF wr n Af lf cf).drew) := Lib.hid (Others.refl _)
          have HS1 : Hid (Others (boxF wr n Af lf cf) (boxF (boxF wr n Af lf cf).drew n Af lf cf)) := Lib.hid ((Others.refl (boxF wr n Af lf cf)).alloc _)
          have hP3 : Pad w.heap.size w u6 (Oc.encs (s.data.toList.take k) (fs.take k)) (boxF (boxF wr n Af lf cf).drew n Af lf cf).drew := ((HP.out.alloc _).drew.alloc _).drew
          have HB3 : Hid (Below w.heap.size w (boxF (boxF wr n Af lf cf).drew n Af lf cf)) := Lib.hid ((HP.out.alloc _).drew.alloc _).bel
          have pR : wr.cell? ⟨2, 0, none⟩ = some (ev aR) := (World.cell?_of_block (HP.out.bel.block _ HRB.out)).trans HRC.out
          cases hfit : Oc.fits s[k].toNat n lf
          · rw [hfit] at CF
            have H : ∀ m, Hid (WritePost s fs aK aR w (.returned (.tuple #[.slice none 0 0, ev aR])) ((boxF (boxF wr n Af lf cf).drew n Af lf cf).drewN m)) := fun m => Lib.hid ⟨below_drewN HB3.out m, fun h => (by rw [← HKN.out] at h; cases h), fun _ _ => rfl, fun _ _ h => absurd h (HNO.out hfit)⟩
            have pR2 : ((boxF wr n Af lf cf).drew.alloc (Obj.cells #[.int .i64 n, .slice Af lf cf] 85)).cell? ⟨2, 0, none⟩ = some (ev aR) := (World.cell?_of_block (HB3.out.block _ HRB.out)).trans HRC.out
            clear hP3
            go_wp2_with (refine wpList_load_mid rfl 85 (.tmp 24) rfl b (o + k * 2) rfl _ _ HG.out Tryz.underlying85 rfl (by kernel_rfl) ?_)
            refine wp_region_held (S := (fun w' => Others (boxF wr n Af lf cf) w')) (by kernel_rfl) ?_
            change wpAnyH _ _ _ _ _ _ _ _ (boxF wr n Af lf cf).drew
            refine wpAnyH_take (i := 0) (v := ?_) rfl (by kernel_rfl) (by kernel_rfl) (by kernel_rfl) (fun _ _ _ h => h) (Or.inl ⟨by rfl, ?_⟩) (HS0.out) ?_
            rotate_left
            · intro w _; go_simp; with_reducible rfl
            try simp only [Act.put, List.getElem_toArray, List.getElem_cons_zero, List.setIfInBounds_toArray, List.set_cons_zero, List.set_cons_succ]
            refine wpAnyH_take (i := 1) (v := ?_) rfl (by kernel_rfl) (by kernel_rfl) (by kernel_rfl) (fun _ _ _ h => h) (Or.inl ⟨by rfl, ?_⟩) (HS0.out) ?_
            rotate_left
            · intro w _; go_simp; with_reducible rfl
            try simp only [Act.put, List.getElem_toArray, List.getElem_cons_zero, List.getElem_cons_succ, List.setIfInBounds_toArray, List.set_cons_zero, List.set_cons_succ]
            refine wpAnyH_take (i := 2) (v := ?_) rfl (by kernel_rfl) (by kernel_rfl) (by kernel_rfl) (fun _ _ _ h => h) (Or.inl ⟨by rfl, ?_⟩) (HS0.out) ?_
            rotate_left
            · intro w' hw; go_simp; with_reducible rfl
            try simp only [Act.put, List.getElem_toArray, List.getElem_cons_zero, List.getElem_cons_succ, List.setIfInBounds_toArray, List.set_cons_zero, List.set_cons_succ]
            refine wpAnyH_take (i := 3) rfl (by kernel_rfl) (by kernel_rfl) (by kernel_rfl) (fun _ _ _ h => h) (takes_row 85 (.tmp 8) rfl (by rfl) (wr.heap.size) rfl 85 (#[.int .i64 n, .slice Af lf cf]) _ (fun w' h => h _ _ _ _ (by decide) (Blk.new wr _ _)) Tryz.underlying85 rfl (by kernel_rfl)) (HS0.out) ?_
            try simp only [Act.put, List.getElem_toArray, List.getElem_cons_zero, List.getElem_cons_succ, List.setIfInBounds_toArray, List.set_cons_zero, List.set_cons_succ]
            refine all_one (i := 4) (by kernel_rfl) rfl (by rfl) (fun K hK => ?_)
            go_simp
            refine (CF _).mono ?_
            rintro e w' ⟨rfl, rfl⟩
            dsimp only
            refine hK _ _ (HS1.out) ?_; clear hK K
            try simp only [Act.put, List.getElem_toArray, List.getElem_cons_zero, List.getElem_cons_succ, List.setIfInBounds_toArray, List.set_cons_zero, List.set_cons_succ]
            refine wpAnyH_take (i := 5) (v := ?_) rfl (by kernel_rfl) (by kernel_rfl) (by kernel_rfl) (fun _ _ _ h => h) (Or.inl ⟨by rfl, ?_⟩) HS1.out ?_
            rotate_left
            · intro w' hw; go_simp; with_reducible rfl
            try simp only [Act.put, List.getElem_toArray, List.getElem_cons_zero, List.getElem_cons_succ, List.setIfInBounds_toArray, List.set_cons_zero, List.set_cons_succ]
            refine wpAnyH_done (by kernel_rfl) ?_ _
            go_wp2
            have H2 : ∀ m, Hid (WritePost s fs aK aR w (.returned (.tuple #[.slice none 0 0, ev aR])) (((boxF wr n Af lf cf).drew.alloc (Obj.cells #[.int .i64 n, .slice Af lf cf] 85)).drewN m)) := H
            clear H HB3 HS1
            generalize (boxF wr n Af lf cf).drew.alloc (Obj.cells #[.int .i64 n, .slice Af lf cf] 85) = wo at pR2 H2 ⊢
            go_quiet (fail)
            go_wp2
            go_ret2
            exact (H2 _).out
          · rw [hfit] at CF
            have HO2 := Lib.hid (HYES.out hfit)
            have CP := put_any s[k].toNat n Af lf cf bs u6 _ w.heap.size w (boxF (boxF wr n Af lf cf).drew n Af lf cf).drew rfl hP3 HRD.out.1 HRD.out.2 hfit (Nat.le_trans (Oc.encs_len _ _ (fun f hf => by rw [(HF.out.r f (List.mem_of_mem_take hf)).2]; exact hlb f (List.mem_of_mem_take hf))) (by rw [List.length_take]; omega))
            rw [← HENC.out] at CP
            clear hP3 pR
            go_wp2_with (refine wpList_load_mid rfl 85 (.tmp 24) rfl b (o + k * 2) rfl _ _ HG.out Tryz.underlying85 rfl (by kernel_rfl) ?_)
            refine wp_region_held (S := (fun w' => Others (boxF wr n Af lf cf) w')) (by kernel_rfl) ?_
            change wpAnyH _ _ _ _ _ _ _ _ (boxF wr n Af lf cf).drew
            refine wpAnyH_take (i := 0) (v := ?_) rfl (by kernel_rfl) (by kernel_rfl) (by kernel_rfl) (fun _ _ _ h => h) (Or.inl ⟨by rfl, ?_⟩) (HS0.out) ?_
            rotate_left
            · intro w _; go_simp; with_reducible rfl
            try simp only [Act.put, List.getElem_toArray, List.getElem_cons_zero, List.setIfInBounds_toArray, List.set_cons_zero, List.set_cons_succ]
            refine wpAnyH_take (i := 1) (v := ?_) rfl (by kernel_rfl) (by kernel_rfl) (by kernel_rfl) (fun _ _ _ h => h) (Or.inl ⟨by rfl, ?_⟩) (HS0.out) ?_
            rotate_left
            · intro w _; go_simp; with_reducible rfl
            try simp only [Act.put, List.getElem_toArray, List.getElem_cons_zero, List.getElem_cons_succ, List.setIfInBounds_toArray, List.set_cons_zero, List.set_cons_succ]
            refine wpAnyH_take (i := 2) (v := ?_) rfl (by kernel_rfl) (by kernel_rfl) (by kernel_rfl) (fun _ _ _ h => h) (Or.inl ⟨by rfl, ?_⟩) (HS0.out) ?_
            rotate_left
            · intro w' hw; go_simp; with_reducible rfl
            try simp only [Act.put, List.getElem_toArray, List.getElem_cons_zero, List.getElem_cons_succ, List.setIfInBounds_toArray, List.set_cons_zero, List.set_cons_succ]
            refine wpAnyH_take (i := 3) rfl (by kernel_rfl) (by kernel_rfl) (by kernel_rfl) (fun _ _ _ h => h) (takes_row 85 (.tmp 8) rfl (by rfl) (wr.heap.size) rfl 85 (#[.int .i64 n, .slice Af lf cf]) _ (fun w' h => h _ _ _ _ (by decide) (Blk.new wr _ _)) Tryz.underlying85 rfl (by kernel_rfl)) (HS0.out) ?_
            try simp only [Act.put, List.getElem_toArray, List.getElem_cons_zero, List.getElem_cons_succ, List.setIfInBounds_toArray, List.set_cons_zero, List.set_cons_succ]
            refine all_one (i := 4) (by kernel_rfl) rfl (by rfl) (fun K hK => ?_)
            go_simp
            refine (CF _).mono ?_
            rintro e w' ⟨rfl, rfl⟩
            dsimp only
            refine hK _ _ (HS1.out) ?_; clear hK K
            try simp only [Act.put, List.getElem_toArray, List.getElem_cons_zero, List.getElem_cons_succ, List.setIfInBounds_toArray, List.set_cons_zero, List.set_cons_succ]
            refine wpAnyH_take (i := 5) (v := ?_) rfl (by kernel_rfl) (by kernel_rfl) (by kernel_rfl) (fun _ _ _ h => h) (Or.inl ⟨by rfl, ?_⟩) HS1.out ?_
            rotate_left
            · intro w' hw; go_simp; with_reducible rfl
            try simp only [Act.put, List.getElem_toArray, List.getElem_cons_zero, List.getElem_cons_succ, List.setIfInBounds_toArray, List.set_cons_zero, List.set_cons_succ]
            refine wpAnyH_done (by kernel_rfl) ?_ _
            go_wp2
            refine wp_region_held (S := (fun w' => Others (boxF wr n Af lf cf) w')) (by kernel_rfl) ?_
            change wpAnyH _ _ _ _ _ _ _ _ (boxF (boxF wr n Af lf cf).drew n Af lf cf).drew
            refine wpAnyH_take (i := 0) (v := ?_) rfl (by kernel_rfl) (by kernel_rfl) (by kernel_rfl) (fun _ _ _ h => h) (Or.inl ⟨by rfl, ?_⟩) (HS1.out) ?_
            rotate_left
            · intro w _; go_simp; with_reducible rfl
            try simp only [Act.put, List.getElem_toArray, List.getElem_cons_zero, List.setIfInBounds_toArray, List.set_cons_zero, List.set_cons_succ]
            refine wpAnyH_take (i := 1) (v := ?_) rfl (by kernel_rfl) (by kernel_rfl) (by kernel_rfl) (fun _ _ _ h => h) (Or.inl ⟨by rfl, ?_⟩) (HS1.out) ?_
            rotate_left
            · intro w _; go_simp; with_reducible rfl
            try simp only [Act.put, List.getElem_toArray, List.getElem_cons_zero, List.getElem_cons_succ, List.setIfInBounds_toArray, List.set_cons_zero, List.set_cons_succ]
            refine wpAnyH_take (i := 2) (v := ?_) rfl (by kernel_rfl) (by kernel_rfl) (by kernel_rfl) (fun _ _ _ h => h) (Or.inl ⟨by rfl, ?_⟩) (HS1.out) ?_
            rotate_left
            · intro w _; go_simp; with_reducible rfl
            try simp only [Act.put, List.getElem_toArray, List.getElem_cons_zero, List.getElem_cons_succ, List.setIfInBounds_toArray, List.set_cons_zero, List.set_cons_succ]
            refine wpAnyH_take (i := 3) (v := ?_) rfl (by kernel_rfl) (by kernel_rfl) (by kernel_rfl) (fun _ _ _ h => h) (Or.inl ⟨by rfl, ?_⟩) (HS1.out) ?_
            rotate_left
            · intro w' hw; go_simp; with_reducible rfl
            try simp only [Act.put, List.getElem_toArray, List.getElem_cons_zero, List.getElem_cons_succ, List.setIfInBounds_toArray, List.set_cons_zero, List.set_cons_succ]
            refine wpAnyH_take (i := 4) rfl (by kernel_rfl) (by kernel_rfl) (by kernel_rfl) (fun _ _ _ h => h) (takes_row 85 (.tmp 8) rfl (by rfl) (wr.heap.size) rfl 85 (#[.int .i64 n, .slice Af lf cf]) _ (fun w' h => h _ _ _ _ (by decide) (Blk.new wr _ _)) Tryz.underlying85 rfl (by kernel_rfl)) (HS1.out) ?_
            try simp only [Act.put, List.getElem_toArray, List.getElem_cons_zero, List.getElem_cons_succ, List.setIfInBounds_toArray, List.set_cons_zero, List.set_cons_succ]
            refine all_one (i := 5) (by kernel_rfl) rfl (by rfl) (fun K hK => ?_)
            go_simp
            refine (CP).mono ?_
            rintro e w' ⟨v', rfl, hp, ho⟩
            have HP2 := Lib.hid hp
            have HO3 : Hid (Others (boxF wr n Af lf cf) w') := Lib.hid (HS1.out.trans ho)
            clear hp ho
            dsimp only
            refine hK _ _ (HO3.out) ?_; clear hK K
            try simp only [Act.put, List.getElem_toArray, List.getElem_cons_zero, List.getElem_cons_succ, List.setIfInBounds_toArray, List.set_cons_zero, List.set_cons_succ]
            refine wpAnyH_take (i := 6) (v := ?_) rfl (by kernel_rfl) (by kernel_rfl) (by kernel_rfl) (fun _ _ _ h => h) (Or.inl ⟨by rfl, ?_⟩) HO3.out ?_
            rotate_left
            · intro w' hw; go_simp; with_reducible rfl
            try simp only [Act.put, List.getElem_toArray, List.getElem_cons_zero, List.getElem_cons_succ, List.setIfInBounds_toArray, List.set_cons_zero, List.set_cons_succ]
            refine wpAnyH_done (by kernel_rfl) ?_ _
            go_wp2
            go_roundw
            case rel => exact ⟨k + 1, by omega, by go_num, HP2, HO2⟩
            case measure => simp [intOf]; omega
        · obtain rfl : k = fs.length := by omega
          have H : Hid (WritePost s fs aK aR w (.returned (.tuple #[u6, .nilIface])) wr) := Lib.hid ⟨HP.out.bel, fun h => (by rw [← HKN.out] at h; cases h), fun _ h => (by rcases h with h | h; exact absurd hn h; exact absurd (hn ▸ HO.out) h), fun _ _ _ => ⟨_, rfl, by
            have h := HP.out
            rwa [List.take_of_length_le (by simp; omega), List.take_of_length_le (Nat.le_refl _)] at h⟩⟩
          go_wp2
          go_ret2
          exact H.out
    · have H : ∀ m, Hid (WritePost s fs aK aR w (.returned (.tuple #[.slice none 0 0, ev aR])) (w.drewN m)) := fun m => Lib.hid ⟨below_drewN (Below.refl _ _) m, fun h => (by rw [← HKN.out] at h; cases h), fun _ _ => rfl, fun _ h _ => absurd h hn⟩
      have b1 : ((fs.length : Int) != (s.size : Int)) = true := by simp; omega
      go_enter Tryz.func44, Tryz.ntmps44
      go_wp2_with (go_at_call 69; refine (C1 _ (by omega)).mono ?_; rintro e w' ⟨rfl, rfl⟩)
      go_quiet (fail)
      go_wp2
      go_ret2
      exact (H _).out
end Go.Proofs.YtjkneidoochfjaaGreatDoor
/- The document's comparison of two rows of fields (cartageref02.Same). -/
namespace Go.Proofs.YtjkneidoochfjaaGreatDoor
open Go Go.RowKit
/-- What a field says: its number and its bytes. -/
def Fld.says (f : Fld) : Int × List Nat := (f.n, f.bs)
end Go.Proofs.YtjkneidoochfjaaGreatDoor
/- Fields as the document's fields (cartagelaw02.of). -/
namespace Go.Proofs.YtjkneidoochfjaaGreatDoor
open Go Go.RowKit
def cellsF (fs : List Fld) : List Value := fs.flatMap fun f => [.int .i64 f.n, .slice f.A f.l f.c]
theorem cellsF_len (fs : List Fld) : (cellsF fs).length = fs.length * 2 := by
  induction fs with
  | nil => rfl
  | cons f fs ih => rw [cellsF, List.flatMap_cons, List.length_append, ← cellsF, ih]; simp; omega
theorem cellsF_get : ∀ {fs : List Fld} {i : Nat} (h : i < fs.length), (cellsF fs)[2 * i]? = some (.int .i64 fs[i].n) ∧ (cellsF fs)[2 * i + 1]? = some (.slice fs[i].A fs[i].l fs[i].c)
  | f :: fs, 0, _ => by simp [cellsF]
  | f :: fs, i + 1, h => by
    have := cellsF_get (fs := fs) (i := i) (by simpa using h)
    rw [show 2 * (i + 1) = 2 * i + 1 + 1 by omega]
    simpa [cellsF] using this
theorem fld_info : (Tryz.prog.info? 77).map (fun i => (i.zero, i.size, i.bytes)) = some (some (.agg #[.int .i64 0, .slice none 0 0]), 2, 32) := by kernel_rfl
/-- The call's own row of fields. -/
structure OwnF (w0 w : World) (v : Value) (k : Nat) (cs : List Value) : Prop where
  own : w.ownsRow w0.heap.size 77 2 v k cs
  bel : Below w0.heap.size w0 w
  some_ : ∃ g c, v = .slice (some ⟨g, 0, none⟩) k c
theorem OwnF.lit (w : World) : OwnF w (w.alloc (.cells #[] 77)) (.slice (some ⟨w.heap.size, 0, none⟩) 0 0) 0 [] :=
  ⟨World.ownsRow_lit w #[] 0 (Nat.le_refl _) (by decide) rfl, (Below.refl _ _).alloc (Nat.le_refl _) _, _, _, rfl⟩
theorem OwnF.row {w0 w : World} {v : Value} {fs : List Fld} (h : OwnF w0 w v fs.length (cellsF fs)) (hr : ∀ f ∈ fs, Rd w0 (.slice f.A f.l f.c) f.bs ∧ f.bs.length = f.l) : ∃ g c, v = .slice (some ⟨g, 0, none⟩) fs.length c ∧ FRow w g 0 fs := by
  obtain ⟨g, c, rfl⟩ := h.some_
  have hc := fun j hj => h.own.cellAt j hj
  refine ⟨g, c, rfl, fun i hi => ?_, fun i hi => ?_, fun f hf => ⟨(hr f hf).1.below h.bel (Nat.le_refl _), (hr f hf).2⟩, (h.own.lt g rfl).2⟩
  · rw [Nat.zero_add, hc _ (by omega)]; exact (cellsF_get hi).1
  · rw [Nat.zero_add, hc _ (by omega)]; exact (cellsF_get hi).2
end Go.Proofs.YtjkneidoochfjaaGreatDoor
