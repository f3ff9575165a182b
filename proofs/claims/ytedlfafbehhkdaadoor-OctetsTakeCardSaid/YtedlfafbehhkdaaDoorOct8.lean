/- Fields as bytes by the document's own Write (cartageref02.Write). -/
import Derived.Test.YtedlfafbehhkdaaDoorOct7
namespace Go.Proofs.YtedlfafbehhkdaaDoor
open Go Go.RowKit
theorem Pad.step {w : World} {s : Value} {ys : List Nat} {wr w' : World} (h : Pad w.heap.size w s ys wr) (k : Below wr.heap.size wr w') : Pad w.heap.size w s ys w' :=
  ⟨h.own.kept (row := none) ⟨k.os, k.tape, k.output, k.size, fun i hi _ => k.block i hi⟩ (by cases s.ownBlock with | none => exact Or.inl rfl | some _ => exact Or.inr (by simp)),
   ⟨k.os.trans h.bel.os, k.tape.trans h.bel.tape, k.output.trans h.bel.output, Nat.le_trans h.bel.size k.size, fun i hi => (k.block i (Nat.lt_of_lt_of_le hi h.bel.size)).trans (h.bel.block i hi)⟩⟩
theorem Pad.drewN {B : Nat} {w : World} {s : Value} {ys : List Nat} {wr : World} (h : Pad B w s ys wr) (n : Nat) : Pad B w s ys (wr.drewN n) := ⟨h.own, below_drewN h.bel n⟩
theorem Others.of_below {a b : World} (h : Below a.heap.size a b) : Others a b := fun p _ _ _ _ e => (h.block p (Array.getElem?_eq_some_iff.1 e).1).trans e
namespace Oc
theorem known_at {s : ByteArray} {k : Nat} (h : known s.data.toList = true) (hk : k < s.size) : isL s[k] = true := by
  unfold known at h
  exact List.all_eq_true.1 h s[k] (by simp [ByteArray.getElem_eq_getElem_data])
/-- a letter is a number's, an object's or a text's -/
theorem letters {c : Nat} (h : 0 ≤ size c) : (∃ z : Nat, 0 < z ∧ z ≤ 8 ∧ size c = z ∧ nsize c = z ∧ mostOf z = most c ∧ c ≠ 111 ∧ c ≠ 116) ∨ c = 111 ∨ c = 116 := by
  by_cases h1 : c = 98
  · subst h1; exact Or.inl ⟨1, by decide, by decide, rfl, rfl, rfl, by decide, by decide⟩
  by_cases h2 : c = 119
  · subst h2; exact Or.inl ⟨4, by decide, by decide, rfl, rfl, rfl, by decide, by decide⟩
  by_cases h3 : c = 113
  · subst h3; exact Or.inl ⟨8, by decide, by decide, rfl, rfl, rfl, by decide, by decide⟩
  by_cases h4 : c = 111
  · exact Or.inr (Or.inl h4)
  by_cases h5 : c = 116
  · exact Or.inr (Or.inr h5)
  unfold size at h
  rw [if_neg h1, if_neg h2, if_neg h3, if_neg h4, if_neg h5] at h
  omega
end Oc
/-- What the document's Write answers. -/
def RWritePost (s : ByteArray) (fs : List Fld) (w : World) (e : Ending) (w' : World) : Prop :=
  Below w.heap.size w w' ∧
  (Oc.known s.data.toList = false → e = .returned (.tuple #[.slice none 0 0, .int .i64 7])) ∧
  (Oc.known s.data.toList = true → (fs.length ≠ s.size ∨ ¬ Oc.okTo s.data.toList fs s.size) → e = .returned (.tuple #[.slice none 0 0, .int .i64 1])) ∧
  (Oc.known s.data.toList = true → fs.length = s.size → Oc.okTo s.data.toList fs s.size → ∃ v, e = .returned (.tuple #[v, .int .i64 0]) ∧ Pad w.heap.size w v (Oc.encs s.data.toList fs) w')
set_option maxRecDepth 100000 in
set_option maxHeartbeats 400000 in
theorem rwrite_any (s : ByteArray) (A : Option Addr) (b o cap : Nat) (fs : List Fld) (w : World) (hs : s.size ≤ 1000) (hA : 0 < fs.length → A = some ⟨b, o, none⟩) (hF : FRow w b o fs) (hl : fs.length ≤ 1000) (hlb : ∀ f ∈ fs, f.l ≤ 1000) :
    Calls Tryd.prog 9 #[.string s, .slice A fs.length cap] w (RWritePost s fs w) := by
  have C1 := rknown_any s
  obtain ⟨kn, hkn⟩ : ∃ kn, kn = Oc.known s.data.toList := ⟨_, rfl⟩
  rw [← hkn] at C1
  have HKN := Lib.hid hkn
  clear hkn
  cases kn
  · have H : Hid (RWritePost s fs w (.returned (.tuple #[.slice none 0 0, .int .i64 7])) w) := Lib.hid ⟨Below.refl _ _, fun _ => rfl, fun h _ => (by rw [← HKN.out] at h; cases h), fun h _ _ => (by rw [← HKN.out] at h; cases h)⟩
    go_enter Tryd.func9, Tryd.ntmps9
    go_wp2_with (go_at_call 24; refine (C1 _ (by omega)).mono ?_; rintro e w' ⟨rfl, rfl⟩)
    go_ret2
    exact H.out
  · by_cases hn : fs.length = s.size
    · have b1 : ((s.size : Int) != (fs.length : Int)) = false := by simp; omega
      have HP0 : Hid (Pad w.heap.size w (.slice (some ⟨w.heap.size, 0, none⟩) 0 0) (Oc.encs (s.data.toList.take 0) (fs.take 0)) (w.alloc (.cells #[] 5))) := Lib.hid ⟨World.ownsRow_lit w #[] 0 (Nat.le_refl _) (by decide) rfl, (Below.refl _ _).alloc (Nat.le_refl _) _⟩
      have HF := Lib.hid hF
      clear hF
      go_enter Tryd.func9, Tryd.ntmps9
      go_wp2_with (go_at_call 24; refine (C1 _ (by omega)).mono ?_; rintro e w' ⟨rfl, rfl⟩)
      go_loopw [6, 21] (fun v i wr => ∃ k : Nat, k ≤ fs.length ∧ i = .int .i64 k ∧ Hid (Pad w.heap.size w v (Oc.encs (s.data.toList.take k) (fs.take k)) wr) ∧ Hid (Oc.okTo s.data.toList fs k)) (fun _ i _ => fs.length - (intOf i).toNat)
      case atStart => exact ⟨0, Nat.zero_le _, rfl, HP0, Lib.hid fun _ _ _ h => by omega⟩
      case round =>
        obtain ⟨k, hk, rfl, HP, HO⟩ := hrel
        by_cases hlt : k < fs.length
        · obtain rfl := hA (by omega)
          have HFr := Lib.hid (HF.out.below HP.out.bel (Nat.le_refl _))
          have hg : wr.rangeAt b (o + k * 2) [.int .i64 fs[k].n, .slice fs[k].A fs[k].l fs[k].c] := fun j v hj => by
            have p1 := HFr.out.n k hlt
            have p2 := HFr.out.s k hlt
            rcases j with _ | _ | j
            · rw [show o + k * 2 + 0 = o + 2 * k by omega, p1]; exact hj
            · rw [show o + k * 2 + (0 + 1) = o + 2 * k + 1 by omega, p2]; exact hj
            · simp at hj
          have hks : k < s.size := by omega
          have es : s.data.toList[k]'(by simpa using hks) = s[k] := rfl
          have hno : Oc.fits s[k].toNat fs[k].n fs[k].l = false → ¬ Oc.okTo s.data.toList fs s.size := fun h ho => by
            have h2 := ho k (by simpa using hks) hlt hks
            rw [es, h] at h2
            cases h2
          have hyes : Oc.fits s[k].toNat fs[k].n fs[k].l = true → Oc.okTo s.data.toList fs (k + 1) := fun h => Oc.okTo_succ HO.out (by simpa using hks) hlt (by rw [es]; exact h)
          have henc : Oc.encs (s.data.toList.take (k + 1)) (fs.take (k + 1)) = Oc.encs (s.data.toList.take k) (fs.take k) ++ Oc.enc s[k].toNat fs[k].n fs[k].bs := by
            rw [Oc.encs_take _ _ _ (by simpa using hks) hlt, es]
          have hrd := HF.out.r fs[k] (List.getElem_mem _)
          generalize fs[k] = f at hg hno hyes henc hrd
          obtain ⟨n, Af, lf, cf, bs⟩ := f
          dsimp only at hg hno hyes henc hrd
          have HG := Lib.hid hg
          have HNO := Lib.hid hno
          have HYES := Lib.hid hyes
          have HENC := Lib.hid henc
          have HRD := Lib.hid hrd
          clear hg hno hyes henc hrd es
          have i0 : ((k : Nat) : Int) < fs.length := by omega
          have i1 : (0 : Int) ≤ ((k : Nat) : Int) := by omega
          have i2 : ((k : Nat) : Int) < s.size := by omega
          have hkl : Oc.isL s[k] = true := Oc.known_at HKN.out.symm hks
          have hP3 : Pad w.heap.size w u6 (Oc.encs (s.data.toList.take k) (fs.take k)) (wr.alloc (.cells #[.int .i64 n, .slice Af lf cf] 48)) := HP.out.alloc _
          have HP3 := Lib.hid hP3
          have hbad : ∀ m, Oc.fits s[k].toNat n lf = false → RWritePost s fs w (.returned (.tuple #[.slice none 0 0, .int .i64 1])) ((wr.alloc (.cells #[.int .i64 n, .slice Af lf cf] 48)).drewN m) := fun m hfit => ⟨below_drewN hP3.bel m, fun h => (by rw [← HKN.out] at h; cases h), fun _ _ => rfl, fun _ _ h => absurd h (HNO.out hfit)⟩
          have HBAD := Lib.hid hbad
          have HLEN := Lib.hid (Oc.encs_len (s.data.toList.take k) (fs.take k) (fun f hf => by rw [(HF.out.r f (List.mem_of_mem_take hf)).2]; exact hlb f (List.mem_of_mem_take hf)))
          clear hP3 hbad
          rcases Oc.letters (of_decide_eq_true hkl) with ⟨z, hz0, hz8, hsz, hnz, hmz, n1, n2⟩ | hc | hc
          · have CS := size_any s[k].toNat
            have CM := most_any (z : Int)
            rw [hsz] at CS
            rw [hmz] at CM
            have hfits : Oc.fits s[k].toNat n lf = (decide (0 ≤ n) && decide (n ≤ Oc.most s[k].toNat)) := by unfold Oc.fits; rw [if_neg n1, if_neg n2]
            have hmle := Oc.most_le s[k].toNat
            have henc := fun (m : Nat) (h : n = (m : Int)) => enc_num (bs := bs) n1 n2 hnz h
            have HEN := Lib.hid henc
            generalize Oc.most s[k].toNat = mx at CM hfits hmle
            have iz : (0 : Int) < (z : Int) := by omega
            clear hsz hmz henc hkl hnz
            by_cases h3 : 0 ≤ n
            · by_cases h4 : n ≤ mx
              · obtain ⟨m, rfl⟩ := Int.eq_ofNat_of_zero_le h3
                have hfit : Oc.fits s[k].toNat (m : Int) lf = true := by rw [hfits, decide_eq_true h3, decide_eq_true h4]; rfl
                have HO2 := Lib.hid (HYES.out hfit)
                clear hfits
                have i5 : ¬ (m : Int) < 0 := by omega
                have i6 : ¬ mx < (m : Int) := by omega
                have CN := fun w' => rnum_any z m w' hz8 (by omega)
                go_wp2_with (first | (refine wpList_load_mid rfl 48 (.tmp 24) rfl b (o + k * 2) rfl _ _ HG.out Tryd.underlying48 rfl (by kernel_rfl) ?_) | (go_at_call 25; refine (CS _).mono ?_; rintro e w' ⟨rfl, rfl⟩))
                go_quiet ((go_at_call 26; exact Calls.quiet_of_same ((CM _).mono fun _ _ h => ⟨h.1, h.2.symm⟩)))
                have HZ : Hid ((Oc.encs (s.data.toList.take k) (fs.take k)).length + (Oc.nums z m).length ≤ 70368744177664) := Lib.hid (by have h := HLEN.out; rw [List.length_take] at h; rw [Oc.nums_len]; omega)
                go_wp2_with (first
                  | (refine wpList_appendB rfl (.tmp 42) (.tmp 46) rfl w.heap.size _ (Oc.encs (s.data.toList.take k) (fs.take k)) rfl HP4.out.own HP4.out.bel.size _ rfl (Oc.nums z m) HR2.out HZ.out ?_; intro v2 w2 ho2 hg2; have HP5 : Hid (Pad w.heap.size w v2 ((Oc.encs (s.data.toList.take k) (fs.take k)) ++ Oc.nums z m) w2) := Lib.hid ⟨ho2, below_own HP4.out.bel HP4.out.own (Nat.le_refl _) hg2⟩; clear ho2 hg2)
                  | (go_at_call 27; refine (CN _).mono ?_; rintro e w' ⟨v', rfl, hr, hb⟩; have HR2 := Lib.hid hr; have HP4 := Lib.hid (Pad.step (HP3.out.drewN nq) hb); clear hr hb))
                rw [← HEN.out m rfl, ← HENC.out] at HP5
                go_roundw
                case rel => exact ⟨k + 1, by omega, by go_num, HP5, HO2⟩
                case measure => simp [intOf]; omega
              · have hfit : Oc.fits s[k].toNat n lf = false := by rw [hfits, decide_eq_false h4, Bool.and_false]
                have H : ∀ m, Hid (RWritePost s fs w (.returned (.tuple #[.slice none 0 0, .int .i64 1])) ((wr.alloc (.cells #[.int .i64 n, .slice Af lf cf] 48)).drewN m)) := fun m => Lib.hid (HBAD.out m hfit)
                clear hfits
                have i5 : mx < n := by omega
                have i6 : ¬ n < 0 := by omega
                go_wp2_with (first | (refine wpList_load_mid rfl 48 (.tmp 24) rfl b (o + k * 2) rfl _ _ HG.out Tryd.underlying48 rfl (by kernel_rfl) ?_) | (go_at_call 25; refine (CS _).mono ?_; rintro e w' ⟨rfl, rfl⟩))
                go_quiet ((go_at_call 26; exact Calls.quiet_of_same ((CM _).mono fun _ _ h => ⟨h.1, h.2.symm⟩)))
                go_wp2
                go_ret2
                exact (H _).out
            · have hfit : Oc.fits s[k].toNat n lf = false := by rw [hfits, decide_eq_false h3, Bool.false_and]
              have H : ∀ m, Hid (RWritePost s fs w (.returned (.tuple #[.slice none 0 0, .int .i64 1])) ((wr.alloc (.cells #[.int .i64 n, .slice Af lf cf] 48)).drewN m)) := fun m => Lib.hid (HBAD.out m hfit)
              clear hfits
              have i5 : n < 0 := by omega
              go_wp2_with (first | (refine wpList_load_mid rfl 48 (.tmp 24) rfl b (o + k * 2) rfl _ _ HG.out Tryd.underlying48 rfl (by kernel_rfl) ?_) | (go_at_call 25; refine (CS _).mono ?_; rintro e w' ⟨rfl, rfl⟩))
              go_quiet ((go_at_call 26; exact Calls.quiet_of_same ((CM _).mono fun _ _ h => ⟨h.1, h.2.symm⟩)))
              go_wp2
              go_ret2
              exact (H _).out
          · have CS : ∀ w, Calls Tryd.prog 25 #[.int .u8 111] w fun e w' => e = .returned (.int .i64 0) ∧ w = w' := fun w => size_any 111 w
            have hcI : (s[k].toNat : Int) = 111 := by omega
            have HR1 : Hid (Rd (wr.alloc (.cells #[.int .i64 n, .slice Af lf cf] 48)) (.slice Af lf cf) bs) := Lib.hid (HRD.out.1.below HP3.out.bel (Nat.le_refl _))
            have hle := HRD.out.2
            by_cases h3 : lf = 32
            · have hfit : Oc.fits s[k].toNat n lf = true := by rw [hc]; exact decide_eq_true h3
              have HO2 := Lib.hid (HYES.out hfit)
              have HEN : Hid (Oc.enc s[k].toNat n bs = bs) := Lib.hid (by rw [hc]; rfl)
              have HZ : Hid ((Oc.encs (s.data.toList.take k) (fs.take k)).length + bs.length ≤ 70368744177664) := Lib.hid (by have h := HLEN.out; rw [List.length_take] at h; omega)
              subst h3
              clear hfit hkl
              go_wp2_with (first | (refine wpList_load_mid rfl 48 (.tmp 24) rfl b (o + k * 2) rfl _ _ HG.out Tryd.underlying48 rfl (by kernel_rfl) ?_) | (go_at_call 25; refine (CS _).mono ?_; rintro e w' ⟨rfl, rfl⟩) | (refine wpList_appendB rfl (.tmp 74) (.tmp 76) rfl w.heap.size _ (Oc.encs (s.data.toList.take k) (fs.take k)) rfl HP3.out.own HP3.out.bel.size _ rfl bs HR1.out HZ.out ?_; intro v2 w2 ho2 hg2; have HP5 : Hid (Pad w.heap.size w v2 ((Oc.encs (s.data.toList.take k) (fs.take k)) ++ bs) w2) := Lib.hid ⟨ho2, below_own HP3.out.bel HP3.out.own (Nat.le_refl _) hg2⟩; clear ho2 hg2))
              rw [← HEN.out, ← HENC.out] at HP5
              go_roundw
              case rel => exact ⟨k + 1, by omega, by go_num, HP5, HO2⟩
              case measure => simp [intOf]; omega
            · have hfit : Oc.fits s[k].toNat n lf = false := by rw [hc]; exact decide_eq_false h3
              have H : ∀ m, Hid (RWritePost s fs w (.returned (.tuple #[.slice none 0 0, .int .i64 1])) ((wr.alloc (.cells #[.int .i64 n, .slice Af lf cf] 48)).drewN m)) := fun m => Lib.hid (HBAD.out m hfit)
              have b3 : ((lf : Int) != 32) = true := by simp; omega
              clear hfit hkl
              go_wp2_with (first | (refine wpList_load_mid rfl 48 (.tmp 24) rfl b (o + k * 2) rfl _ _ HG.out Tryd.underlying48 rfl (by kernel_rfl) ?_) | (go_at_call 25; refine (CS _).mono ?_; rintro e w' ⟨rfl, rfl⟩))
              go_ret2
              exact (H 0).out
          · have CS : ∀ w, Calls Tryd.prog 25 #[.int .u8 116] w fun e w' => e = .returned (.int .i64 0) ∧ w = w' := fun w => size_any 116 w
            have hcI : (s[k].toNat : Int) = 116 := by omega
            have HR1 : Hid (Rd (wr.alloc (.cells #[.int .i64 n, .slice Af lf cf] 48)) (.slice Af lf cf) bs) := Lib.hid (HRD.out.1.below HP3.out.bel (Nat.le_refl _))
            have hle := HRD.out.2
            by_cases h3 : lf ≤ 65535
            · have hfit : Oc.fits s[k].toNat n lf = true := by rw [hc]; exact decide_eq_true h3
              have HO2 := Lib.hid (HYES.out hfit)
              have HEN : Hid (Oc.enc s[k].toNat n bs = Oc.nums 2 lf ++ bs) := Lib.hid (by rw [hc, ← hle]; rfl)
              have HZ : Hid ((Oc.encs (s.data.toList.take k) (fs.take k)).length + (Oc.nums 2 lf).length ≤ 70368744177664) := Lib.hid (by have h := HLEN.out; rw [List.length_take] at h; rw [Oc.nums_len]; omega)
              have HZ2 : Hid (((Oc.encs (s.data.toList.take k) (fs.take k)) ++ Oc.nums 2 lf).length + bs.length ≤ 70368744177664) := Lib.hid (by have h := HLEN.out; rw [List.length_take] at h; rw [List.length_append, Oc.nums_len]; omega)
              have CN := fun w' => rnum_any 2 lf w' (by omega) (by omega)
              simp only [show ((2 : Nat) : Int) = 2 from rfl] at CN
              have i6 : ¬ (65535 : Int) < (lf : Int) := by omega
              clear hfit hkl
              go_wp2_with (first
                | (refine wpList_load_mid rfl 48 (.tmp 24) rfl b (o + k * 2) rfl _ _ HG.out Tryd.underlying48 rfl (by kernel_rfl) ?_) | (go_at_call 25; refine (CS _).mono ?_; rintro e w' ⟨rfl, rfl⟩)
                | (refine wpList_appendB rfl (.tmp 68) (.tmp 72) rfl w.heap.size _ (Oc.encs (s.data.toList.take k) (fs.take k)) rfl HP4.out.own HP4.out.bel.size _ rfl (Oc.nums 2 lf) HR2.out HZ.out ?_; intro v2 w2 ho2 hg2; have HP5 : Hid (Pad w.heap.size w v2 ((Oc.encs (s.data.toList.take k) (fs.take k)) ++ Oc.nums 2 lf) w2) := Lib.hid ⟨ho2, below_own HP4.out.bel HP4.out.own (Nat.le_refl _) hg2⟩; have pB2 : w2.cell? ⟨wr.heap.size, 1, none⟩ = some (.slice Af lf cf) := Blk.cell ((HOT.out.own HP4.out.own hg2) _ _ _ _ (by decide) (Blk.new wr _ _)) 1; clear ho2 hg2)
                | (refine wpList_appendB rfl (.tmp 74) (.tmp 76) rfl w.heap.size _ ((Oc.encs (s.data.toList.take k) (fs.take k)) ++ Oc.nums 2 lf) rfl HP5.out.own HP5.out.bel.size _ rfl bs (HRD.out.1.below HP5.out.bel (Nat.le_refl _)) HZ2.out ?_; intro v3 w3 ho3 hg3; have HP6 : Hid (Pad w.heap.size w v3 ((Oc.encs (s.data.toList.take k) (fs.take k)) ++ Oc.nums 2 lf ++ bs) w3) := Lib.hid ⟨ho3, below_own HP5.out.bel HP5.out.own (Nat.le_refl _) hg3⟩; clear ho3 hg3)
                | (go_at_call 27; refine (CN _).mono ?_; rintro e w' ⟨v', rfl, hr, hb⟩; have HR2 := Lib.hid hr; have HP4 := Lib.hid (Pad.step HP3.out hb); have HOT := Lib.hid (Others.of_below hb); clear hr hb))
              rw [List.append_assoc, ← HEN.out, ← HENC.out] at HP6
              go_roundw
              case rel => exact ⟨k + 1, by omega, by go_num, HP6, HO2⟩
              case measure => simp [intOf]; omega
            · have hfit : Oc.fits s[k].toNat n lf = false := by rw [hc]; exact decide_eq_false h3
              have H : ∀ m, Hid (RWritePost s fs w (.returned (.tuple #[.slice none 0 0, .int .i64 1])) ((wr.alloc (.cells #[.int .i64 n, .slice Af lf cf] 48)).drewN m)) := fun m => Lib.hid (HBAD.out m hfit)
              have i6 : (65535 : Int) < (lf : Int) := by omega
              clear hfit hkl
              go_wp2_with (first | (refine wpList_load_mid rfl 48 (.tmp 24) rfl b (o + k * 2) rfl _ _ HG.out Tryd.underlying48 rfl (by kernel_rfl) ?_) | (go_at_call 25; refine (CS _).mono ?_; rintro e w' ⟨rfl, rfl⟩))
              go_ret2
              exact (H 0).out
        · obtain rfl : k = fs.length := by omega
          have H : Hid (RWritePost s fs w (.returned (.tuple #[u6, .int .i64 0])) wr) := Lib.hid ⟨HP.out.bel, fun h => (by rw [← HKN.out] at h; cases h), fun _ h => (by rcases h with h | h; exact absurd hn h; exact absurd (hn ▸ HO.out) h), fun _ _ _ => ⟨_, rfl, by
            have h := HP.out
            rwa [List.take_of_length_le (by simp; omega), List.take_of_length_le (Nat.le_refl _)] at h⟩⟩
          go_wp2
          go_ret2
          exact H.out
    · have H : Hid (RWritePost s fs w (.returned (.tuple #[.slice none 0 0, .int .i64 1])) w) := Lib.hid ⟨Below.refl _ _, fun h => (by rw [← HKN.out] at h; cases h), fun _ _ => rfl, fun _ h _ => absurd h hn⟩
      have b1 : ((s.size : Int) != (fs.length : Int)) = true := by simp; omega
      go_enter Tryd.func9, Tryd.ntmps9
      go_wp2_with (go_at_call 24; refine (C1 _ (by omega)).mono ?_; rintro e w' ⟨rfl, rfl⟩)
      go_ret2
      exact H.out
end Go.Proofs.YtedlfafbehhkdaaDoor
