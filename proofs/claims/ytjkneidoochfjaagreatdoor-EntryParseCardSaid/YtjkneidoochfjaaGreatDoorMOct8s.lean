/- Fields as bytes by the document's own Write (cartageref02.Write). -/
import Derived.Test.YtjkneidoochfjaaGreatDoorMOct5s
import Derived.WalkLawsBesides
import Derived.WalkSpells
namespace Go.Proofs.YtjkneidoochfjaaGreatDoor
open Go Go.RowKit
theorem Pad.step {w : World} {s : Value} {ys : List Nat} {wr w' : World} (h : Pad w.heap.size w s ys wr) (k : Below wr.heap.size wr w') : Pad w.heap.size w s ys w' :=
  ⟨h.own.kept (row := none) ⟨k.os, k.tape, k.output, k.size, fun i hi _ => k.block i hi⟩ (by cases s.ownBlock with | none => exact Or.inl rfl | some _ => exact Or.inr (by simp)),
   ⟨k.os.trans h.bel.os, k.tape.trans h.bel.tape, k.output.trans h.bel.output, Nat.le_trans h.bel.size k.size, fun i hi => (k.block i (Nat.lt_of_lt_of_le hi h.bel.size)).trans (h.bel.block i hi)⟩⟩
theorem Pad.drewN {B : Nat} {w : World} {s : Value} {ys : List Nat} {wr : World} (h : Pad B w s ys wr) (n : Nat) : Pad B w s ys (wr.drewN n) := ⟨h.own, below_drewN h.bel n⟩
theorem Others.of_below {a b : World} (h : Below a.heap.size a b) : Others a b := fun p _ _ _ _ e => (h.block p (Array.getElem?_eq_some_iff.1 e).1).trans e
namespace Oc
theorem known_at {s : ByteArray} {k : Nat} (h : known s.data.toList = true) (hk : k < s.size) : isL s[k] = true := by
  unfold known at h
  exact List.all_eq_true.1 h s[k] (by simp [ByteArray.getElem_eq_getElem_data])
/-- a letter is a number's, an object's or a text's -/
theorem letters {c : Nat} (h : 0 ≤ size c) : (∃ z : Nat, 0 < z ∧ z ≤ 8 ∧ size c = z ∧ nsize c = z ∧ mostOf z = most c ∧ c ≠ 111 ∧ c ≠ 116) ∨ c = 111 ∨ c = 116 := by
  by_cases h1 : c = 98
  · subst h1; exact Or.inl ⟨1, by decide, by decide, rfl, rfl, rfl, by decide, by decide⟩
  by_cases h2 : c = 119
  · subst h2; exact Or.inl ⟨4, by decide, by decide, rfl, rfl, rfl, by decide, by decide⟩
  by_cases h3 : c = 113
  · subst h3; exact Or.inl ⟨8, by decide, by decide, rfl, rfl, rfl, by decide, by decide⟩
  by_cases h4 : c = 111
  · exact Or.inr (Or.inl h4)
  by_cases h5 : c = 116
  · exact Or.inr (Or.inr h5)
  unfold size at h
  rw [if_neg h1, if_neg h2, if_neg h3, if_neg h4, if_neg h5] at h
  omega
end Oc
/-- What the document's Write answers. -/
def RWritePost (s : ByteArray) (fs : List Fld) (w : World) (e : Ending) (w' : World) : Prop :=
  Below w.heap.size w w' ∧
  (Oc.known s.data.toList = false → e = .returned (.tuple #[.slice none 0 0, .int .i64 7])) ∧
  (Oc.known s.data.toList = true → (fs.length ≠ s.size ∨ ¬ Oc.okTo s.data.toList fs s.size) → e = .returned (.tuple #[.slice none 0 0, .int .i64 1])) ∧
  (Oc.known s.data.toList = true → fs.length = s.size → Oc.okTo s.data.toList fs s.size → ∃ v, e = .returned (.tuple #[v, .int .i64 0]) ∧ Pad w.heap.size w v (Oc.encs s.data.toList fs) w')
set_option maxRecDepth 100000 in
set_option maxHeartbeats 400000 in
theorem rwrite_any (s : ByteArray) (A : Option Addr) (b o cap : Nat) (fs : List Fld) (w : World) (hs : s.size ≤ 1000) (hA : 0 < fs.length → A = some ⟨b, o, none⟩) (hF : FRow w b o fs) (_hl : fs.length ≤ 1000) (hlb : ∀ f ∈ fs, f.l ≤ 1000) :
    Calls Tryz.prog 33 #[.string s, .slice A fs.length cap] w (RWritePost s fs w) := by
  have C1 := rknown_any s
  obtain ⟨kn, hkn⟩ : ∃ kn, kn = Oc.known s.data.toList := ⟨_, rfl⟩
  rw [← hkn] at C1
  have HKN := Lib.hid hkn
  clear hkn
  cases kn
  · have H : Hid (RWritePost s fs w (.returned (.tuple #[.slice none 0 0, .int .i64 7])) w) := Lib.hid ⟨Below.refl _ _, fun _ => rfl, fun h _ => (by rw [← HKN.out] at h; cases h), fun h _ _ => (by rw [← HKN.out] at h; cases h)⟩
    go_enter Tryz.func33, Tryz.ntmps33
    go_wp2_with (go_at_call 62; refine (C1 _ (by omega)).mono ?_; rintro e w' ⟨rfl, rfl⟩)
    go_ret2
    exact H.out
  · by_cases hn : fs.length = s.size
    · have b1 : ((s.size : Int) != (fs.length : Int)) = false := by simp; omega
      have HP0 : Hid (Pad w.heap.size w (.slice (some ⟨w.heap.size, 0, none⟩) 0 0) (Oc.encs (s.data.toList.take 0) (fs.take 0)) (w.alloc (.cells #[] 5))) := Lib.hid ⟨World.ownsRow_lit w #[] 0 (Nat.le_refl _) (by decide) rfl, (Below.refl _ _).alloc (Nat.le_refl _) _⟩
      have HF := Lib.hid hF
      clear hF
      go_enter Tryz.func33, Tryz.ntmps33
      go_wp2_with (go_at_call 62; refine (C1 _ (by omega)).mono ?_; rintro e w' ⟨rfl, rfl⟩)
      go_loopw [6, 21] (fun v i wr => ∃ k : Nat, k ≤ fs.length ∧ i = .int .i64 k ∧ Hid (Pad w.heap.size w v (Oc.encs (s.data.toList.take k) (fs.take k)) wr) ∧ Hid (Oc.okTo s.data.toList fs k)) (fun _ i _ => fs.length - (intOf i).toNat)
      case atStart => exact ⟨0, Nat.zero_le _, rfl, HP0, Lib.hid fun _ _ _ h => by omega⟩
      case round =>
        obtain ⟨k, hk, rfl, HP, HO⟩ := hrel
        by_cases hlt : k < fs.length
        · obtain rfl := hA (by omega)
          have HFr := Lib.hid (HF.out.below HP.out.bel (Nat.le_refl _))
          have hg : wr.rangeAt b (o + k * 2) [.int .i64 fs[k].n, .slice fs[k].A fs[k].l fs[k].c] := fun j v hj => by
            have p1 := HFr.out.n k hlt
            have p2 := HFr.out.s k hlt
            rcases j with _ | _ | j
            · rw [show o + k * 2 + 0 = o + 2 * k by omega, p1]; exact hj
            · rw [show o + k * 2 + (0 + 1) = o + 2 * k + 1 by omega, p2]; exact hj
            · simp at hj
          have hks : k < s.size := by omega
          have es : s.data.toList[k]'(by simpa using hks) = s[k] := rfl
          have hno : Oc.fits s[k].toNat fs[k].n fs[k].l = false → ¬ Oc.okTo s.data.toList fs s.size := fun h ho => by
            have h2 := ho k (by simpa using hks) hlt hks
            rw [es, h] at h2
            cases h2
          have hyes : Oc.fits s[k].toNat fs[k].n fs[k].l = true → Oc.okTo s.data.toList fs (k + 1) := fun h => Oc.okTo_succ HO.out (by simpa using hks) hlt (by rw [es]; exact h)
          have henc : Oc.encs (s.data.toList.take (k + 1)) (fs.take (k + 1)) = Oc.encs (s.data.toList.take k) (fs.take k) ++ Oc.enc s[k].toNat fs[k].n fs[k].bs := by
            rw [Oc.encs_take _ _ _ (by simpa using hks) hlt, es]
          have hrd := HF.out.r fs[k] (List.getElem_mem _)
          generalize fs[k] = f at hg hno hyes henc hrd
          obtain ⟨n, Af, lf, cf, bs⟩ := f
          dsimp only at hg hno hyes henc hrd
          have HG := Lib.hid hg
          have HNO := Lib.hid hno
          have HYES := Lib.hid hyes
          have HENC := Lib.hid henc
          have HRD := Lib.hid hrd
          clear hg hno hyes henc hrd es
          have i0 : ((k : Nat) : Int) < fs.length := by omega
          have i1 : (0 : Int) ≤ ((k : Nat) : Int) := by omega
          have i2 : ((k : Nat) : Int) < s.size := by omega
          have hkl : Oc.isL s[k] = true := Oc.known_at HKN.out.symm hks
          have hP3 : Pad w.heap.size w u6 (Oc.encs (s.data.toList.take k) (fs.take k)) (wr.alloc (.cells #[.int .i64 n, .slice Af lf cf] 77)) := HP.out.alloc _
          have HP3 := Lib.hid hP3
          have hbad : ∀ m, Oc.fits s[k].toNat n lf = false → RWritePost s fs w (.returned (.tuple #[.slice none 0 0, .int .i64 1])) ((wr.alloc (.cells #[.int .i64 n, .slice Af lf cf] 77)).drewN m) := fun m hfit => ⟨below_drewN hP3.bel m, fun h => (by rw [← HKN.out] at h; cases h), fun _ _ => rfl, fun _ _ h => absurd h (HNO.out hfit)⟩
          have HBAD := Lib.hid hbad
          have HLEN := Lib.hid (Oc.encs_len (s.data.toList.take k) (fs.take k) (fun f hf => by rw [(HF.out.r f (List.mem_of_mem_take hf)).2]; exact hlb f (List.mem_of_mem_take hf)))
          clear hP3 hbad
          rcases Oc.letters (of_decide_eq_true hkl) with ⟨z, hz0, hz8, hsz, hnz, hmz, n1, n2⟩ | hc | hc
          · have CS := rsize_any s[k].toNat
            have CM := most_any (z : Int)
            rw [hsz] at CS
            rw [hmz] at CM
            have hfits : Oc.fits s[k].toNat n lf = (decide (0 ≤ n) && decide (n ≤ Oc.most s[k].toNat)) := by unfold Oc.fits; rw [if_neg n1, if_neg n2]
            have hmle := Oc.most_le s[k].toNat
            have henc := fun (m : Nat) (h : n = (m : Int)) => enc_num (bs := bs) n1 n2 hnz h
            have HEN := Lib.hid henc
            generalize Oc.most s[k].toNat = mx at CM hfits hmle
            have iz : (0 : Int) < (z : Int) := by omega
            clear hsz hmz henc hkl hnz
            by_cases h3 : 0 ≤ n
            · by_cases h4 : n ≤ mx
              · obtain ⟨m, rfl⟩ := Int.eq_ofNat_of_zero_le h3
                have hfit : Oc.fits s[k].toNat (m : Int) lf = true := by rw [hfits, decide_eq_true h3, decide_eq_true h4]; rfl
                have HO2 := Lib.hid (HYES.out hfit)
                clear hfits
                have i5 : ¬ (m : Int) < 0 := by omega
                have i6 : ¬ mx < (m : Int) := by omega
                have CN := fun w' => rnum_any z m w' hz8 (by omega)
                go_wp2_with (first | (refine wpList_load_mid rfl 77 (.tmp 24) rfl b (o + k * 2) rfl _ _ HG.out Tryz.underlying77 rfl (by kernel_rfl) ?_) | (go_at_call 63; refine (CS _).mono ?_; rintro e w' ⟨rfl, rfl⟩))
                go_quiet ((go_at_call 64; exact Calls.quiet_of_same ((CM _).mono fun _ _ h => ⟨h.1, h.2.symm⟩)))
                have HZ : Hid ((Oc.encs (s.data.toList.take k) (fs.take k)).length + (Oc.nums z m).length ≤ 70368744177664) := Lib.hid (by have h := HLEN.out; rw [List.length_take] at h; rw [Oc.nums_len]; omega)
                go_wp2_with (first
                  | (refine wpList_appendB rfl (.tmp 42) (.tmp 46) rfl w.heap.size _ (Oc.encs (s.data.toList.take k) (fs.take k)) rfl HP4.out.own HP4.out.bel.size _ rfl (Oc.nums z m) HR2.out HZ.out ?_; intro v2 w2 ho2 hg2; have HP5 : Hid (Pad w.heap.size w v2 ((Oc.encs (s.data.toList.take k) (fs.take k)) ++ Oc.nums z m) w2) := Lib.hid ⟨ho2, below_own HP4.out.bel HP4.out.own (Nat.le_refl _) hg2⟩; clear ho2 hg2)
                  | (go_at_call 32; refine (CN _).mono ?_; rintro e w' ⟨v', rfl, hr, hb⟩; have HR2 := Lib.hid hr; have HP4 := Lib.hid (Pad.step (HP3.out.drewN nq) hb); clear hr hb))
                rw [← HEN.out m rfl, ← HENC.out] at HP5
                go_roundw
                case rel => exact ⟨k + 1, by omega, by go_num, HP5, HO2⟩
                case measure => simp [intOf]; omega
              · have hfit : Oc.fits s[k].toNat n lf = false := by rw [hfits, decide_eq_false h4, Bool.and_false]
                have H : ∀ m, Hid (RWritePost s fs w (.returned (.tuple #[.slice none 0 0, .int .i64 1])) ((wr.alloc (.cells #[.int .i64 n, .slice Af lf cf] 77)).drewN m)) := fun m => Lib.hid (HBAD.out m hfit)
                clear hfits
                have i5 : mx < n := by omega
                have i6 : ¬ n < 0 := by omega
                go_wp2_with (first | (refine wpList_load_mid rfl 77 (.tmp 24) rfl b (o + k * 2) rfl _ _ HG.out Tryz.underlying77 rfl (by kernel_rfl) ?_) | (go_at_call 63; refine (CS _).mono ?_; rintro e w' ⟨rfl, rfl⟩))
                go_quiet ((go_at_call 64; exact Calls.quiet_of_same ((CM _).mono fun _ _ h => ⟨h.1, h.2.symm⟩)))
                go_wp2
                go_ret2
                exact (H _).out
            · have hfit : Oc.fits s[k].toNat n lf = false := by rw [hfits, decide_eq_false h3, Bool.false_and]
              have H : ∀ m, Hid (RWritePost s fs w (.returned (.tuple #[.slice none 0 0, .int .i64 1])) ((wr.alloc (.cells #[.int .i64 n, .slice Af lf cf] 77)).drewN m)) := fun m => Lib.hid (HBAD.out m hfit)
              clear hfits
              have i5 : n < 0 := by omega
              go_wp2_with (first | (refine wpList_load_mid rfl 77 (.tmp 24) rfl b (o + k * 2) rfl _ _ HG.out Tryz.underlying77 rfl (by kernel_rfl) ?_) | (go_at_call 63; refine (CS _).mono ?_; rintro e w' ⟨rfl, rfl⟩))
              go_quiet ((go_at_call 64; exact Calls.quiet_of_same ((CM _).mono fun _ _ h => ⟨h.1, h.2.symm⟩)))
              go_wp2
              go_ret2
              exact (H _).out
          · have CS : ∀ w, Calls Tryz.prog 63 #[.int .u8 111] w fun e w' => e = .returned (.int .i64 0) ∧ w = w' := fun w => rsize_any 111 w
            have hcI : (s[k].toNat : Int) = 111 := by omega
            have HR1 : Hid (Rd (wr.alloc (.cells #[.int .i64 n, .slice Af lf cf] 77)) (.slice Af lf cf) bs) := Lib.hid (HRD.out.1.below HP3.out.bel (Nat.le_refl _))
            have hle := HRD.out.2
            by_cases h3 : lf = 32
            · have hfit : Oc.fits s[k].toNat n lf = true := by rw [hc]; exact decide_eq_true h3
              have HO2 := Lib.hid (HYES.out hfit)
              have HEN : Hid (Oc.enc s[k].toNat n bs = bs) := Lib.hid (by rw [hc]; rfl)
              have HZ : Hid ((Oc.encs (s.data.toList.take k) (fs.take k)).length + bs.length ≤ 70368744177664) := Lib.hid (by have h := HLEN.out; rw [List.length_take] at h; omega)
              subst h3
              clear hfit hkl
              go_wp2_with (first | (refine wpList_load_mid rfl 77 (.tmp 24) rfl b (o + k * 2) rfl _ _ HG.out Tryz.underlying77 rfl (by kernel_rfl) ?_) | (go_at_call 63; refine (CS _).mono ?_; rintro e w' ⟨rfl, rfl⟩) | (refine wpList_appendB rfl (.tmp 74) (.tmp 76) rfl w.heap.size _ (Oc.encs (s.data.toList.take k) (fs.take k)) rfl HP3.out.own HP3.out.bel.size _ rfl bs HR1.out HZ.out ?_; intro v2 w2 ho2 hg2; have HP5 : Hid (Pad w.heap.size w v2 ((Oc.encs (s.data.toList.take k) (fs.take k)) ++ bs) w2) := Lib.hid ⟨ho2, below_own HP3.out.bel HP3.out.own (Nat.le_refl _) hg2⟩; clear ho2 hg2))
              rw [← HEN.out, ← HENC.out] at HP5
              go_roundw
              case rel => exact ⟨k + 1, by omega, by go_num, HP5, HO2⟩
              case measure => simp [intOf]; omega
            · have hfit : Oc.fits s[k].toNat n lf = false := by rw [hc]; exact decide_eq_false h3
              have H : ∀ m, Hid (RWritePost s fs w (.returned (.tuple #[.slice none 0 0, .int .i64 1])) ((wr.alloc (.cells #[.int .i64 n, .slice Af lf cf] 77)).drewN m)) := fun m => Lib.hid (HBAD.out m hfit)
              have b3 : ((lf : Int) != 32) = true := by simp; omega
              clear hfit hkl
              go_wp2_with (first | (refine wpList_load_mid rfl 77 (.tmp 24) rfl b (o + k * 2) rfl _ _ HG.out Tryz.underlying77 rfl (by kernel_rfl) ?_) | (go_at_call 63; refine (CS _).mono ?_; rintro e w' ⟨rfl, rfl⟩))
              go_ret2
              exact (H 0).out
          · have CS : ∀ w, Calls Tryz.prog 63 #[.int .u8 116] w fun e w' => e = .returned (.int .i64 0) ∧ w = w' := fun w => rsize_any 116 w
            have hcI : (s[k].toNat : Int) = 116 := by omega
            have HR1 : Hid (Rd (wr.alloc (.cells #[.int .i64 n, .slice Af lf cf] 77)) (.slice Af lf cf) bs) := Lib.hid (HRD.out.1.below HP3.out.bel (Nat.le_refl _))
            have hle := HRD.out.2
            by_cases h3 : lf ≤ 65535
            · have hfit : Oc.fits s[k].toNat n lf = true := by rw [hc]; exact decide_eq_true h3
              have HO2 := Lib.hid (HYES.out hfit)
              have HEN : Hid (Oc.enc s[k].toNat n bs = Oc.nums 2 lf ++ bs) := Lib.hid (by rw [hc, ← hle]; rfl)
              have HZ : Hid ((Oc.encs (s.data.toList.take k) (fs.take k)).length + (Oc.nums 2 lf).length ≤ 70368744177664) := Lib.hid (by have h := HLEN.out; rw [List.length_take] at h; rw [Oc.nums_len]; omega)
              have HZ2 : Hid (((Oc.encs (s.data.toList.take k) (fs.take k)) ++ Oc.nums 2 lf).length + bs.length ≤ 70368744177664) := Lib.hid (by have h := HLEN.out; rw [List.length_take] at h; rw [List.length_append, Oc.nums_len]; omega)
              have CN := fun w' => rnum_any 2 lf w' (by omega) (by omega)
              simp only [show ((2 : Nat) : Int) = 2 from rfl] at CN
              have i6 : ¬ (65535 : Int) < (lf : Int) := by omega
              clear hfit hkl
              go_wp2_with (first
                | (refine wpList_load_mid rfl 77 (.tmp 24) rfl b (o + k * 2) rfl _ _ HG.out Tryz.underlying77 rfl (by kernel_rfl) ?_) | (go_at_call 63; refine (CS _).mono ?_; rintro e w' ⟨rfl, rfl⟩)
                | (refine wpList_appendB rfl (.tmp 68) (.tmp 72) rfl w.heap.size _ (Oc.encs (s.data.toList.take k) (fs.take k)) rfl HP4.out.own HP4.out.bel.size _ rfl (Oc.nums 2 lf) HR2.out HZ.out ?_; intro v2 w2 ho2 hg2; have HP5 : Hid (Pad w.heap.size w v2 ((Oc.encs (s.data.toList.take k) (fs.take k)) ++ Oc.nums 2 lf) w2) := Lib.hid ⟨ho2, below_own HP4.out.bel HP4.out.own (Nat.le_refl _) hg2⟩; have pB2 : w2.cell? ⟨wr.heap.size, 1, none⟩ = some (.slice Af lf cf) := Blk.cell ((HOT.out.own HP4.out.own hg2) _ _ _ _ (by decide) (Blk.new wr _ _)) 1; clear ho2 hg2)
                | (refine wpList_appendB rfl (.tmp 74) (.tmp 76) rfl w.heap.size _ ((Oc.encs (s.data.toList.take k) (fs.take k)) ++ Oc.nums 2 lf) rfl HP5.out.own HP5.out.bel.size _ rfl bs (HRD.out.1.below HP5.out.bel (Nat.le_refl _)) HZ2.out ?_; intro v3 w3 ho3 hg3; have HP6 : Hid (Pad w.heap.size w v3 ((Oc.encs (s.data.toList.take k) (fs.take k)) ++ Oc.nums 2 lf ++ bs) w3) := Lib.hid ⟨ho3, below_own HP5.out.bel HP5.out.own (Nat.le_refl _) hg3⟩; clear ho3 hg3)
                | (go_at_call 32; refine (CN _).mono ?_; rintro e w' ⟨v', rfl, hr, hb⟩; have HR2 := Lib.hid hr; have HP4 := Lib.hid (Pad.step HP3.out hb); have HOT := Lib.hid (Others.of_below hb); clear hr hb))
              rw [List.append_assoc, ← HEN.out, ← HENC.out] at HP6
              go_roundw
              case rel => exact ⟨k + 1, by omega, by go_num, HP6, HO2⟩
              case measure => simp [intOf]; omega
            · have hfit : Oc.fits s[k].toNat n lf = false := by rw [hc]; exact decide_eq_false h3
              have H : ∀ m, Hid (RWritePost s fs w (.returned (.tuple #[.slice none 0 0, .int .i64 1])) ((wr.alloc (.cells #[.int .i64 n, .slice Af lf cf] 77)).drewN m)) := fun m => Lib.hid (HBAD.out m hfit)
              have i6 : (65535 : Int) < (lf : Int) := by omega
              clear hfit hkl
              go_wp2_with (first | (refine wpList_load_mid rfl 77 (.tmp 24) rfl b (o + k * 2) rfl _ _ HG.out Tryz.underlying77 rfl (by kernel_rfl) ?_) | (go_at_call 63; refine (CS _).mono ?_; rintro e w' ⟨rfl, rfl⟩))
              go_ret2
              exact (H 0).out
        · obtain rfl : k = fs.length := by omega
          have H : Hid (RWritePost s fs w (.returned (.tuple #[u6, .int .i64 0])) wr) := Lib.hid ⟨HP.out.bel, fun h => (by rw [← HKN.out] at h; cases h), fun _ h => (by rcases h with h | h; exact absurd hn h; exact absurd (hn ▸ HO.out) h), fun _ _ _ => ⟨_, rfl, by
            have h := HP.out
            rwa [List.take_of_length_le (by simp; omega), List.take_of_length_le (Nat.le_refl _)] at h⟩⟩
          go_wp2
          go_ret2
          exact H.out
    · have H : Hid (RWritePost s fs w (.returned (.tuple #[.slice none 0 0, .int .i64 1])) w) := Lib.hid ⟨Below.refl _ _, fun h => (by rw [← HKN.out] at h; cases h), fun _ _ => rfl, fun _ h _ => absurd h hn⟩
      have b1 : ((s.size : Int) != (fs.length : Int)) = true := by simp; omega
      go_enter Tryz.func33, Tryz.ntmps33
      go_wp2_with (go_at_call 62; refine (C1 _ (by omega)).mono ?_; rintro e w' ⟨rfl, rfl⟩)
      go_ret2
      exact H.out
end Go.Proofs.YtjkneidoochfjaaGreatDoor
/- Reading by shapes: which fields bytes are; what was written is read again, and what is read was written so. -/
namespace Go.Proofs.YtjkneidoochfjaaGreatDoor
open Go Go.RowKit
namespace Oc
/-- the number that bytes are, the greatest first -/
def val (l : List Nat) : Nat := l.foldl (fun n b => n * 256 + b) 0
theorem val_snoc (l : List Nat) (x : Nat) : val (l ++ [x]) = val l * 256 + x := by simp [val]
theorem val_take {l : List Nat} {k : Nat} (h : k < l.length) : val (l.take (k + 1)) = val (l.take k) * 256 + l.getD k 0 := by
  rw [List.take_succ_eq_append_getElem h, val_snoc]; simp [List.getD, h]
def bytes (l : List Nat) : Prop := ∀ x ∈ l, x < 256
theorem bytes_of {l : List Nat} (h : Sha.Byte l) : bytes l := fun x hx => by
  obtain ⟨i, hi, rfl⟩ := List.mem_iff_getElem.1 hx
  have := h i
  simpa [List.getD, hi] using this
theorem bytes_take {l : List Nat} (h : bytes l) (k : Nat) : bytes (l.take k) := fun x hx => h x (List.mem_of_mem_take hx)
theorem bytes_drop {l : List Nat} (h : bytes l) (k : Nat) : bytes (l.drop k) := fun x hx => h x (List.mem_of_mem_drop hx)
theorem val_lt : ∀ (s : Nat) (l : List Nat), bytes l → l.length = s → val l < 256 ^ s
  | 0, l, _, h => by rw [List.eq_nil_of_length_eq_zero h]; simp [val]
  | s + 1, l, hb, h => by
    have hne : l ≠ [] := by rintro rfl; simp at h
    rw [← List.dropLast_concat_getLast hne] at hb ⊢
    have h1 := val_lt s l.dropLast (fun x hx => hb x (List.mem_append_left _ hx)) (by simp [h])
    have h2 := hb (l.getLast hne) (by simp)
    rw [val_snoc, Nat.pow_succ]
    omega
theorem nums_succ' (s n : Nat) : nums (s + 1) n = nums s (n / 256) ++ [n % 256] := by
  unfold nums
  rw [List.range_succ, List.map_append]
  congr 1
  · apply List.map_congr_left
    intro i hi
    have hi := List.mem_range.1 hi
    have e : 8 * (s + 1 - 1 - i) = 8 + 8 * (s - 1 - i) := by omega
    rw [e, Nat.pow_add, Nat.div_div_eq_div_mul]
  · simp
theorem val_nums : ∀ (s n : Nat), n < 256 ^ s → val (nums s n) = n
  | 0, n, h => by simp at h; subst h; simp [nums, val]
  | s + 1, n, h => by
    rw [nums_succ', val_snoc, val_nums s (n / 256) (by rw [Nat.pow_succ] at h; omega)]
    omega
theorem nums_val : ∀ (s : Nat) (l : List Nat), bytes l → l.length = s → nums s (val l) = l
  | 0, l, _, h => by rw [List.eq_nil_of_length_eq_zero h]; rfl
  | s + 1, l, hb, h => by
    have hne : l ≠ [] := by rintro rfl; simp at h
    rw [← List.dropLast_concat_getLast hne] at hb ⊢
    have h1 := nums_val s l.dropLast (fun x hx => hb x (List.mem_append_left _ hx)) (by simp [h])
    have h2 := hb (l.getLast hne) (by simp)
    generalize l.getLast hne = x at h2 ⊢
    rw [val_snoc, nums_succ', show (val l.dropLast * 256 + x) / 256 = val l.dropLast by omega, show (val l.dropLast * 256 + x) % 256 = x by omega, h1]
theorem nums_bytes (s n : Nat) : bytes (nums s n) := fun x hx => by
  obtain ⟨i, _, rfl⟩ := List.mem_map.1 hx
  exact Nat.mod_lt _ (by omega)
/-- how long a letter's number is, and the greatest one -/
def zs (c : Nat) : Nat := (nsize c).toNat
def mostN (c : Nat) : Nat := (most c).toNat
inductive Stp where
  | bad (e : Nat)
  | ok (n : Nat) (x : List Nat) (k : Nat)
/-- one field -/
def step (c : Nat) (bs : List Nat) : Stp :=
  if c = 111 then (if bs.length < 32 then .bad 2 else .ok 0 (bs.take 32) 32)
  else if c = 116 then (if bs.length < 2 then .bad 2 else if bs.length < 2 + val (bs.take 2) then .bad 2 else .ok 0 ((bs.drop 2).take (val (bs.take 2))) (2 + val (bs.take 2)))
  else if bs.length < zs c then .bad 2 else if mostN c < val (bs.take (zs c)) then .bad 1 else .ok (val (bs.take (zs c))) [] (zs c)
inductive Got where
  | bad (e : Nat)
  | ok (l : List (Nat × List Nat)) (p : Nat)
def Got.next (bs : List Nat) (g : Got) (c : Nat) : Got :=
  match g with
  | .bad e => .bad e
  | .ok l p => match step c (bs.drop p) with
    | .bad e => .bad e
    | .ok n x k => .ok (l ++ [(n, x)]) (p + k)
/-- the fields, and how many bytes they are -/
def reads (s : List Nat) (bs : List Nat) : Got := s.foldl (Got.next bs) (.ok [] 0)
theorem reads_take {s bs : List Nat} {k : Nat} (h : k < s.length) : reads (s.take (k + 1)) bs = (reads (s.take k) bs).next bs s[k] := by
  unfold reads
  rw [List.take_succ_eq_append_getElem h, List.foldl_append]
  rfl
theorem next_bad (bs : List Nat) (e : Nat) : ∀ (s : List Nat), s.foldl (Got.next bs) (.bad e) = .bad e
  | [] => rfl
  | _ :: s => next_bad bs e s
theorem reads_bad {s bs : List Nat} {k e : Nat} (h : reads (s.take k) bs = .bad e) : reads s bs = .bad e := by
  unfold reads at h ⊢
  rw [← List.take_append_drop k s, List.foldl_append, h]
  exact next_bad bs e _
theorem next_ok (bs : List Nat) : ∀ (s : List Nat) (l0 : List (Nat × List Nat)) (p0 : Nat) (l : List (Nat × List Nat)) (p : Nat), s.foldl (Got.next bs) (.ok l0 p0) = .ok l p → ∃ l1, l = l0 ++ l1 ∧ l1.length = s.length
  | [], l0, p0, l, p, h => by
    injection h with h1 h2
    exact ⟨[], by simp [h1], rfl⟩
  | c :: s, l0, p0, l, p, h => by
    rw [List.foldl_cons, Got.next] at h
    cases hs : step c (bs.drop p0) with
    | bad e =>
      rw [hs] at h
      rw [next_bad] at h
      cases h
    | ok n x k =>
      rw [hs] at h
      obtain ⟨l1, h1, h2⟩ := next_ok bs s _ _ l p h
      exact ⟨(n, x) :: l1, by rw [h1]; simp, by simp [h2]⟩
theorem reads_len {s bs : List Nat} {l : List (Nat × List Nat)} {p : Nat} (h : reads s bs = .ok l p) : l.length = s.length := by
  obtain ⟨l1, h1, h2⟩ := next_ok bs s _ _ l p h
  rw [h1]; simpa using h2
theorem letter {c : Nat} (h : 0 ≤ size c) : c = 98 ∨ c = 119 ∨ c = 113 ∨ c = 111 ∨ c = 116 := by
  unfold size at h
  by_cases h1 : c = 98; · exact Or.inl h1
  by_cases h2 : c = 119; · exact Or.inr (Or.inl h2)
  by_cases h3 : c = 113; · exact Or.inr (Or.inr (Or.inl h3))
  by_cases h4 : c = 111; · exact Or.inr (Or.inr (Or.inr (Or.inl h4)))
  by_cases h5 : c = 116; · exact Or.inr (Or.inr (Or.inr (Or.inr h5)))
  rw [if_neg h1, if_neg h2, if_neg h3, if_neg h4, if_neg h5] at h
  omega
def says (f : Fld) : Int × List Nat := (f.n, f.bs)
def lays (q : Nat × List Nat) : Int × List Nat := ((q.1 : Int), q.2)
end Oc
end Go.Proofs.YtjkneidoochfjaaGreatDoor
/- Reading, from below: how an In ends (end, Fail), goes on (next), what is left (Left), a copy of bytes (bytes.Clone). -/
namespace Go.Proofs.YtjkneidoochfjaaGreatDoor
open Go Go.RowKit
/-- the panic's value -/
abbrev stopV (r : Nat) : Value := .iface 142 (.agg #[.pointer (some ⟨r, 0, none⟩)])
/-- An In at block i, and its reading at block r: v is what is left. -/
structure Rdg (w : World) (i r : Nat) (v : Value) : Prop where
  i_ : Blk w i 144 #[.pointer (some ⟨r, 0, none⟩)]
  r_ : Blk w r 109 #[v, .bool true, .bool false, .nilIface]
  ne : i ≠ r
/-- A reading that has ended by an error. -/
def Dead (w : World) (r : Nat) (e : Value) : Prop := ∃ v, Blk w r 109 #[v, .bool true, .bool true, e]
theorem Dead.grown {w w' : World} {r : Nat} {e : Value} (h : Dead w r e) (k : Below w.heap.size w w') : Dead w' r e := by
  obtain ⟨v, h⟩ := h
  exact ⟨v, h.below k h.lt⟩
/-- what a call ends by that can't go on -/
def Fails (w : World) (r : Nat) (er : Value) (e : Ending) (w' : World) : Prop := e = .panicked [{ v := stopV r, recovered := false }] ∧ Dead w' r er ∧ w.grownBy w' (some r)
/-- An In whose bytes xs are left; they lie in the world w0. -/
def InAt (w0 w : World) (i r : Nat) (xs : List Nat) : Prop := ∃ v, Rdg w i r v ∧ Rd w0 v xs ∧ Below w0.heap.size w0 w ∧ w0.heap.size ≤ r ∧ w0.heap.size ≤ i
theorem below_then {w0 w w' : World} (h : Below w0.heap.size w0 w) (k : Below w.heap.size w w') : Below w0.heap.size w0 w' :=
  ⟨k.os.trans h.os, k.tape.trans h.tape, k.output.trans h.output, Nat.le_trans h.size k.size, fun i hi => (k.block i (Nat.lt_of_lt_of_le hi h.size)).trans (h.block i hi)⟩
theorem InAt.below {w0 w w' : World} {i r : Nat} {xs : List Nat} (h : InAt w0 w i r xs) (hb : Below w.heap.size w w') : InAt w0 w' i r xs := by
  obtain ⟨v, k, hr, hw, h1, h2⟩ := h
  exact ⟨v, ⟨k.i_.below hb k.i_.lt, k.r_.below hb k.r_.lt, k.ne⟩, hr, below_then hw hb, h1, h2⟩
theorem InAt.lt {w0 w : World} {i r : Nat} {xs : List Nat} (h : InAt w0 w i r xs) : r < w.heap.size := by
  obtain ⟨v, k, _⟩ := h
  exact k.r_.lt
theorem InAt.bel {w0 w : World} {i r : Nat} {xs : List Nat} (h : InAt w0 w i r xs) : Below w0.heap.size w0 w ∧ w0.heap.size ≤ r := by
  obtain ⟨v, k, hr, hw, h1, h2⟩ := h
  exact ⟨hw, h1⟩
theorem RdB.rd {w : World} {p : Nat} {v : Value} {xs : List Nat} (h : RdB w p v xs) : Rd w v xs := by
  obtain ⟨A, c, h1, h2, h3⟩ := h
  exact ⟨A, c, h1, h2, fun h0 => by obtain ⟨b, o, g1, _, g3, g4⟩ := h3 h0; exact ⟨b, o, g1, g3, g4⟩⟩
theorem Rd.cut {w : World} {A : Option Addr} {n c : Nat} {xs : List Nat} (h : Rd w (.slice A n c) xs) {k : Nat} (hk : k ≤ xs.length) :
    Rd w (.slice (if c = k then A else A.map (·.add k)) (n - k) (c - k)) (xs.drop k) := ((h.out (Nat.le_refl _)).cut hk).rd
theorem oend_any (r : Nat) (v : Value) (ae : Addr) (w : World) (h : Blk w r 109 #[v, .bool true, .bool false, .nilIface]) :
    Calls Tryz.prog 84 #[.pointer (some ⟨r, 0, none⟩), (ev ae)] w fun e w' => e = .returned (.tuple #[]) ∧ Blk w' r 109 #[v, .bool true, .bool true, (ev ae)] ∧ w.grownBy w' (some r) := by
  have c2 : w.cell? ⟨r, 2, none⟩ = some (.bool false) := h.cell 2
  have c3 : w.cell? ⟨r, 3, none⟩ = some .nilIface := h.cell 3
  have z2 := h.frozen 2
  have z3 := h.frozen 3
  have HB : Hid (Blk ((w.setCell ⟨r, 2, none⟩ (.bool true)).setCell ⟨r, 3, none⟩ (ev ae)) r 109 #[v, .bool true, .bool true, (ev ae)]) := Lib.hid (by
    have h2 := (h.set_ 2 (.bool true)).set_ 3 (ev ae)
    simp only [List.setIfInBounds_toArray, List.set_cons_zero, List.set_cons_succ] at h2
    exact h2)
  have HG : Hid (w.grownBy ((w.setCell ⟨r, 2, none⟩ (.bool true)).setCell ⟨r, 3, none⟩ (ev ae)) (some r)) := Lib.hid (only_setCell (p := ⟨r, 3, none⟩) (only_setCell (p := ⟨r, 2, none⟩) (World.grownBy.refl w (some r)) (Or.inl rfl) _) (Or.inl rfl) _)
  clear h
  go_enter Tryz.func84, Tryz.ntmps84
  go_wp2
  go_end0
  exact ⟨rfl, HB.out, HG.out⟩
theorem fail_any (i r : Nat) (v : Value) (ae : Addr) (w : World) (h : Rdg w i r v) :
    Calls Tryz.prog 86 #[.pointer (some ⟨i, 0, none⟩), ev ae] w (Fails w r (ev ae)) := by
  have c0 : w.cell? ⟨i, 0, none⟩ = some (.pointer (some ⟨r, 0, none⟩)) := h.i_.cell 0
  have c1 : w.cell? ⟨r, 1, none⟩ = some (.bool true) := h.r_.cell 1
  have CE := oend_any r v ae w h.r_
  have HI := Lib.hid h.i_
  have hne := h.ne
  clear h
  go_enter Tryz.func86, Tryz.ntmps86
  go_wp2_with (go_at_call 84; refine CE.mono ?_; rintro e w' ⟨rfl, hB, hG⟩; have HB := Lib.hid hB; have HG := Lib.hid hG; have c2 : w'.cell? ⟨i, 0, none⟩ = some (.pointer (some ⟨r, 0, none⟩)) := (HI.out.grown hG (by intro e; injection e with e; exact hne e)).cell 0; clear hB hG)
  exact ⟨rfl, rfl, ⟨v, HB.out⟩, HG.out⟩
theorem left_any (i r : Nat) (xs : List Nat) (w0 w : World) (h : InAt w0 w i r xs) :
    Calls Tryz.prog 104 #[.pointer (some ⟨i, 0, none⟩)] w fun e w' => e = .returned (.int .i64 (xs.length : Int)) ∧ w = w' := by
  obtain ⟨v, h, hr, _⟩ := h
  obtain ⟨A, c, rfl, _, _⟩ := hr
  have c0 : w.cell? ⟨i, 0, none⟩ = some (.pointer (some ⟨r, 0, none⟩)) := h.i_.cell 0
  have c1 : w.cell? ⟨r, 0, none⟩ = some (.slice A xs.length c) := h.r_.cell 0
  clear h
  go_enter Tryz.func104, Tryz.ntmps104
  go_wp2
  go_ret
  exact ⟨rfl, rfl⟩
theorem Rd.cutHi {w : World} {A : Option Addr} {n c : Nat} {xs : List Nat} (h : Rd w (.slice A n c) xs) {k : Nat} (hk : k ≤ xs.length) : Rd w (.slice A k c) (xs.take k) := by
  obtain ⟨A', c', hv, hc, hA⟩ := h
  injection hv with e1 e2 e3
  subst e1 e2 e3
  have hl : (xs.take k).length = k := by rw [List.length_take]; omega
  refine ⟨_, _, by rw [hl], by rw [hl]; omega, fun h0 => ?_⟩
  rw [hl] at h0
  obtain ⟨b, o, ha, hlt, hx⟩ := hA (by omega)
  refine ⟨b, o, ha, hlt, fun i hi => ?_⟩
  rw [hl] at hi
  rw [hx i (by omega)]
  simp [List.getD, hi]
theorem run_sliceHi {P : Program} {t e : TypeId} (ht : P.underlying t = some (.slice e)) (hi : (P.info? e).map (·.size) = some 1) (A : Option Addr) (len cap h : Nat) (h1 : h ≤ cap)
    {x : Int} (el : x = h) (w : World) :
    (Instr.slice t (.slice A len cap) none (some (.int .i64 x)) none).run P w = .ok (.slice A h cap) w := by
  subst el
  cases hq : P.info? e with
  | none => simp [hq] at hi
  | some i =>
    have hs : i.size = 1 := by simpa [hq] using hi
    have hn : ((h : Nat) : Int) ≤ cap := by omega
    cases A <;> simp [Instr.slice, run_underlying ht, Instr.sliceBounds, run_sliceBound, sizeOf, typeInfo, hq, hn, Addr.add]
theorem run_sliceLoS {P : Program} {t e : TypeId} (ht : P.underlying t = some (.slice e)) (hi : (P.info? e).map (·.size) = some 1) (A : Option Addr) (len cap l : Nat) (h1 : l ≤ len)
    {lo : Int} (el : lo = l) (w : World) :
    (Instr.slice t (.slice A len cap) (some (.int .i64 lo)) none none).run P w = .ok (.slice (if cap = l then A else A.map (·.add l)) (len - l) (cap - l)) w := by
  subst el
  cases hq : P.info? e with
  | none => simp [hq] at hi
  | some i =>
    have hs : i.size = 1 := by simpa [hq] using hi
    have hn : ((l : Nat) : Int) ≤ len := by omega
    simp [Instr.slice, run_underlying ht, Instr.sliceBounds, run_sliceBound, sizeOf, typeInfo, hq, hs, hn]
theorem next_ok (i r n : Nat) (xs : List Nat) (w0 w : World) (h : InAt w0 w i r xs) (hn : n ≤ xs.length) :
    Calls Tryz.prog 88 #[.pointer (some ⟨i, 0, none⟩), .int .i64 (n : Int)] w fun e w' => ∃ v, e = .returned v ∧ Rd w0 v (xs.take n) ∧ InAt w0 w' i r (xs.drop n) ∧ w.grownBy w' (some r) := by
  obtain ⟨v, h, hr, hw0, hr0, hi0⟩ := h
  have HR := Lib.hid hr
  obtain ⟨A, c, rfl, hc, hA⟩ := hr
  clear hA
  have c0 : w.cell? ⟨i, 0, none⟩ = some (.pointer (some ⟨r, 0, none⟩)) := h.i_.cell 0
  have c1 : w.cell? ⟨r, 0, none⟩ = some (.slice A xs.length c) := h.r_.cell 0
  have c2 : w.cell? ⟨r, 1, none⟩ = some (.bool true) := h.r_.cell 1
  have c3 : w.cell? ⟨r, 2, none⟩ = some (.bool false) := h.r_.cell 2
  have z0 := h.r_.frozen 0
  have i1 : ¬ (xs.length : Int) < (n : Int) := by omega
  have q1 : ∀ w', (Instr.slice 32 (.slice A xs.length c) none (some (.int .i64 (n : Int))) none).run Tryz.prog w' = .ok (.slice A n c) w' := fun w' => run_sliceHi Tryz.underlying32 (by kernel_rfl) A xs.length c n (by omega) rfl w'
  have q2 : ∀ w', (Instr.slice 32 (.slice A xs.length c) (some (.int .i64 (n : Int))) none none).run Tryz.prog w' = .ok (.slice (if c = n then A else A.map (·.add n)) (xs.length - n) (c - n)) w' := fun w' => run_sliceLoS Tryz.underlying32 (by kernel_rfl) A xs.length c n hn rfl w'
  obtain ⟨A2, hA2⟩ : ∃ A2, A2 = (if c = n then A else A.map (·.add n)) := ⟨_, rfl⟩
  rw [← hA2] at q2
  have HG : ∀ m, Hid (w.grownBy ((w.setCell ⟨r, 0, none⟩ (.slice A2 (xs.length - n) (c - n))).drewN m) (some r)) := fun m => Lib.hid (only_drewN (only_setCell (World.grownBy.refl w _) (Or.inl rfl) _) m)
  have HI : ∀ m, Hid (InAt w0 ((w.setCell ⟨r, 0, none⟩ (.slice A2 (xs.length - n) (c - n))).drewN m) i r (xs.drop n)) := fun m => Lib.hid ⟨_, ⟨(h.i_.far h.ne _).drewN m, (h.r_.set_ 0 _).drewN m, h.ne⟩, by have hq := HR.out.cut hn; rw [← hA2] at hq; exact hq, below_of_only hw0 (HG m).out hr0, hr0, hi0⟩
  have HV : Hid (Rd w0 (.slice A n c) (xs.take n)) := Lib.hid (HR.out.cutHi hn)
  clear h hA2
  go_enter Tryz.func88, Tryz.ntmps88
  go_wp2
  go_region
  go_wp2
  go_ret
  exact ⟨_, rfl, HV.out, (HI 1).out, (HG 1).out⟩
end Go.Proofs.YtjkneidoochfjaaGreatDoor
/- Reading, from below: an In that has too few bytes (next); a number (number), a copy of bytes (bytes.Clone). -/
namespace Go.Proofs.YtjkneidoochfjaaGreatDoor
open Go Go.RowKit
theorem next_short (i r n : Nat) (aS : Addr) (xs : List Nat) (w0 w : World) (h : InAt w0 w i r xs) (hn : xs.length < n) (hS : w.cell? ⟨3, 0, none⟩ = some (ev aS)) :
    Calls Tryz.prog 88 #[.pointer (some ⟨i, 0, none⟩), .int .i64 (n : Int)] w (Fails w r (ev aS)) := by
  obtain ⟨v, h, hr, _⟩ := h
  obtain ⟨A, c, rfl, hc, hA⟩ := hr
  clear hA
  have c0 : w.cell? ⟨i, 0, none⟩ = some (.pointer (some ⟨r, 0, none⟩)) := h.i_.cell 0
  have c1 : w.cell? ⟨r, 0, none⟩ = some (.slice A xs.length c) := h.r_.cell 0
  have c2 : w.cell? ⟨r, 1, none⟩ = some (.bool true) := h.r_.cell 1
  have c3 : w.cell? ⟨r, 2, none⟩ = some (.bool false) := h.r_.cell 2
  have i1 : (xs.length : Int) < (n : Int) := by omega
  have CF := fail_any i r _ aS w h
  clear h
  go_enter Tryz.func88, Tryz.ntmps88
  go_wp2_with (go_at_call 86; refine CF.mono ?_; rintro e w' ⟨rfl, hd, hg⟩)
  exact ⟨rfl, rfl, hd, hg⟩
theorem clone_any (v : Value) (xs : List Nat) (w : World) (hv : Rd w v xs) (hz : xs.length ≤ 1099511627776) :
    Calls Tryz.prog 68 #[v] w fun e w' => ∃ A c, e = .returned (.slice A xs.length c) ∧ Rd w' (.slice A xs.length c) xs ∧ (0 < xs.length → ∃ g cs, A = some ⟨g, 0, none⟩ ∧ w.heap.size ≤ g ∧ Blk w' g 5 cs) ∧ Below w.heap.size w w' := by
  have HV := Lib.hid hv
  obtain ⟨A, c, rfl, hc, hA⟩ := hv
  have qT : ∀ (w : World) (a : Option Addr) (n c n' c' : Nat), (binOp .eql 32 (.slice a n c) (.slice none n' c')).run Tryz.prog w = .ok (.bool a.isNone) w := fun w a n c n' c' => Lib.run_eql_slice_nil w _ _ a n c n' c' Tryz.underlying32
  cases A with
  | none =>
    have h0 : xs.length = 0 := by
      rcases Nat.eq_zero_or_pos xs.length with h | h
      · exact h
      · obtain ⟨b, o, ha, _⟩ := hA h
        cases ha
    have e := List.eq_nil_of_length_eq_zero h0
    subst e
    clear hA
    go_enter Tryz.func68, Tryz.ntmps68
    go_wp2
    go_ret
    exact ⟨_, _, rfl, ⟨_, _, rfl, Nat.le_refl _, fun h => absurd h (by simp)⟩, fun h => absurd h (by simp), Below.refl _ _⟩
  | some a =>
    clear hA
    obtain ⟨n, hn⟩ : ∃ n, n = xs.length := ⟨_, rfl⟩
    rw [← hn] at hc hz HV ⊢
    have HN := Lib.hid hn
    clear hn
    have HP : Hid (Pad w.heap.size w (.slice (some ⟨w.heap.size, 0, none⟩) 0 0) [] (w.alloc (.cells #[] 5))) := Lib.hid ⟨World.ownsRow_lit w #[] 0 (Nat.le_refl _) (by decide) rfl, (Below.refl _ _).alloc (Nat.le_refl _) _⟩
    have HR1 := Lib.hid (rd_alloc HV.out (.cells #[] 5))
    have HZ : Hid (([] : List Nat).length + xs.length ≤ 70368744177664) := Lib.hid (by rw [← HN.out]; simp; omega)
    go_enter Tryz.func68, Tryz.ntmps68
    go_wp2_with (refine wpList_appendB rfl (.tmp 5) (.tmp 6) rfl w.heap.size _ [] rfl HP.out.own HP.out.bel.size _ rfl xs HR1.out HZ.out ?_; intro v2 w2 ho2 hg2; rw [List.nil_append] at ho2; have HP2 : Hid (Pad w.heap.size w v2 xs w2) := Lib.hid ⟨ho2, below_own HP.out.bel HP.out.own (Nat.le_refl _) hg2⟩; clear ho2 hg2)
    go_ret
    obtain ⟨A2, c2, rfl⟩ := HP2.out.len
    refine ⟨A2, c2, by rw [HN.out]; rfl, by rw [HN.out]; exact HP2.out.rd, fun h0 => ?_, HP2.out.bel⟩
    rcases HP2.out.own.2 with ⟨_, h1⟩ | ⟨g, cap, cur, hv, hb, hh, _⟩
    · rw [HN.out] at h0; omega
    · injection hv with e1 e2 e3
      exact ⟨g, cur, e1, hb, hh⟩
theorem or_byte (n b : Nat) (hn : n < 72057594037927936) (hb : b < 256) : bits .or .u64 (((n * 256 : Nat)) : Int) (b : Int) = ((n * 256 + b : Nat) : Int) := by
  rw [u64_or (n * 256) b (by omega) (by omega)]
  have h := Nat.shiftLeft_add_eq_or_of_lt (i := 8) (b := b) (by omega) n
  rw [Nat.shiftLeft_eq] at h
  rw [show n * 256 = n * 2^8 from rfl, ← h]
end Go.Proofs.YtjkneidoochfjaaGreatDoor
