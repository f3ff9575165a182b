/- The walk of the law OctetsWrite: what fields of all shapes are as bytes, and that they are read as they were written. -/
import Derived.Test.YtedlfafbehhkdaaDoorOneLaw
import Derived.Test.YtedlfafbehhkdaaDoorOct25
namespace Go.Proofs.YtedlfafbehhkdaaDoor
open Go Go.RowKit
namespace Oc
theorem enc_bytes {c : Nat} {n : Int} {bs : List Nat} (h : bytes bs) : bytes (enc c n bs) := by
  unfold enc
  by_cases h1 : c = 111
  · rw [if_pos h1]; exact h
  rw [if_neg h1]
  by_cases h2 : c = 116
  · rw [if_pos h2]
    intro x hx
    rcases List.mem_append.1 hx with hx | hx
    · exact nums_bytes _ _ x hx
    · exact h x hx
  · rw [if_neg h2]; exact nums_bytes _ _
theorem encs_bytes : ∀ (s : List UInt8) (fs : List Fld), (∀ f ∈ fs, bytes f.bs) → bytes (encs s fs)
  | c :: s, f :: fs, h => by
    intro x hx
    rw [encs] at hx
    rcases List.mem_append.1 hx with hx | hx
    · exact enc_bytes (h f List.mem_cons_self) x hx
    · exact encs_bytes s fs (fun g hg => h g (List.mem_cons_of_mem _ hg)) x hx
  | [], _, _ => by intro x hx; simp [encs] at hx
  | _ :: _, [], _ => by intro x hx; simp [encs] at hx
end Oc
theorem says_same {fs gs : List Fld} {l : List (Nat × List Nat)} (h : fs.map Oc.says = l.map Oc.lays) (k : gs.map Oc.says = l.map Oc.lays) : fs.map Fld.says = gs.map Fld.says := h.trans k.symm
theorem conv_nil (w : World) : (convert 24 9 (.slice none 0 0)).run Tryd.prog w = .ok (.string (textOf [])) w := conv_rd (Rd.nil [] rfl)
/-- what the loop over the fields keeps -/
def Small (w wr : World) (fs : List Fld) (k : Nat) : Prop := Below w.heap.size w wr ∧ ∀ i (h : i < fs.length), i < k → fs[i].l ≤ 300
set_option maxRecDepth 100000 in
theorem write_big (s : ByteArray) (A : Option Addr) (n c : Nat) (a : Nat → Addr) (w : World) (hS : OSents w a) (h : 60 < s.size ∨ 60 < n) :
    Calls Tryd.prog 3 #[.string s, .slice A n c] w fun e w' => e = .returned (.bool true) ∧ Below w.heap.size w w' := by
  have CA := alive_any a w hS
  clear hS
  by_cases h1 : 60 < s.size
  · have i1 : (60 : Int) < (s.size : Int) := by omega
    go_enter Tryd.func3, Tryd.ntmps3
    go_wp2_with (go_at_call 6; refine CA.mono ?_; rintro e w1 ⟨rfl, hb⟩; have HB := Lib.hid hb; clear hb)
    go_ret
    exact ⟨rfl, HB.out⟩
  · have i1 : ¬ (60 : Int) < (s.size : Int) := by omega
    have i2 : (60 : Int) < (n : Int) := by omega
    go_enter Tryd.func3, Tryd.ntmps3
    go_wp2_with (go_at_call 6; refine CA.mono ?_; rintro e w1 ⟨rfl, hb⟩; have HB := Lib.hid hb; clear hb)
    go_ret
    exact ⟨rfl, HB.out⟩
set_option maxRecDepth 100000 in
theorem write_bad (s : ByteArray) (A : Option Addr) (b o cap : Nat) (fs : List Fld) (a : Nat → Addr) (j : Nat) (w : World) (hj : j < 22) (hS : Sents w a) (hA : 0 < fs.length → A = some ⟨b, o, none⟩) (hF : FRow w b o fs) (hs : s.size ≤ 60) (hn : fs.length ≤ 60)
    (h1 : ∀ w e w', WritePost s fs (a 6) (a 0) w e w' → e = .returned (.tuple #[.slice none 0 0, ev (a j)])) (h2 : ∀ w e w', RWritePost s fs w e w' → e = .returned (.tuple #[.slice none 0 0, .int .i64 ((j + 1 : Nat) : Int)])) :
    Calls Tryd.prog 3 #[.string s, .slice A fs.length cap] w fun e w' => e = .returned (.bool true) ∧ Below w.heap.size w w' := by
  have H1 := Lib.hid h1
  have H2 := Lib.hid h2
  clear h1 h2
  have CA := alive_any a w hS.o
  have HSE := Lib.hid hS
  have HF := Lib.hid hF
  have i1 : ¬ (60 : Int) < (s.size : Int) := by omega
  have i2 : ¬ (60 : Int) < (fs.length : Int) := by omega
  clear hS hF
  go_enter Tryd.func3, Tryd.ntmps3
  go_wp2_with (go_at_call 6; refine CA.mono ?_; rintro e w1 ⟨rfl, hb⟩; have HB := Lib.hid hb; clear hb CA)
  go_loopw [28] (fun j wr => ∃ k : Nat, k ≤ fs.length ∧ j = .int .i64 k ∧ Hid (Small w wr fs k)) (fun j _ => fs.length - (intOf j).toNat)
  case atStart => exact ⟨0, Nat.zero_le _, rfl, Lib.hid ⟨HB.out, fun i _ h => by omega⟩⟩
  case round =>
    obtain ⟨k, hk, rfl, HR⟩ := hrel
    by_cases hlt : k < fs.length
    · obtain rfl := hA (by omega)
      have HFr := Lib.hid (HF.out.below HR.out.1 (Nat.le_refl _))
      have hg : wr.rangeAt b (o + k * 2) [.int .i64 fs[k].n, .slice fs[k].A fs[k].l fs[k].c] := fun j v hj => by
        have p1 := HFr.out.n k hlt
        have p2 := HFr.out.s k hlt
        rcases j with _ | _ | j
        · rw [show o + k * 2 + 0 = o + 2 * k by omega, p1]; exact hj
        · rw [show o + k * 2 + (0 + 1) = o + 2 * k + 1 by omega, p2]; exact hj
        · simp at hj
      have hnx : fs[k].l ≤ 300 → ∀ w', Below wr.heap.size wr w' → Small w w' fs (k + 1) := fun h w' hb => ⟨below_then HR.out.1 hb, fun i hi hik => by
        rcases Nat.lt_succ_iff_lt_or_eq.1 hik with h1 | h1
        · exact HR.out.2 i hi h1
        · subst h1; exact h⟩
      generalize fs[k] = f at hg hnx
      obtain ⟨fn, Af, lf, cf, bs⟩ := f
      dsimp only at hg hnx
      have HG := Lib.hid hg
      have HNX := Lib.hid hnx
      have HW : ∀ m, Hid (Below wr.heap.size wr ((wr.alloc (.cells #[.int .i64 fn, .slice Af lf cf] 26)).drewN m)) := fun m => Lib.hid (below_drewN ((Below.refl _ _).alloc (Nat.le_refl _) _) m)
      clear hg hnx
      have i3 : ((k : Nat) : Int) < fs.length := by omega
      have i4 : (0 : Int) ≤ ((k : Nat) : Int) := by omega
      by_cases hbig : 300 < lf
      · have i5 : (300 : Int) < (lf : Int) := by omega
        go_wp2_with (refine wpList_load_mid rfl 26 (.tmp 30) rfl b (o + k * 2) rfl _ _ HG.out Tryd.underlying26 rfl (by kernel_rfl) ?_)
        go_ret
        exact ⟨rfl, below_then HR.out.1 (HW 0).out⟩
      · have i5 : ¬ (300 : Int) < (lf : Int) := by omega
        go_wp2_with (refine wpList_load_mid rfl 26 (.tmp 30) rfl b (o + k * 2) rfl _ _ HG.out Tryd.underlying26 rfl (by kernel_rfl) ?_)
        go_roundw
        case rel => exact ⟨k + 1, by omega, by go_num, Lib.hid (HNX.out (by omega) _ (HW 0).out)⟩
        case measure => simp [intOf]; omega
    · obtain rfl : k = fs.length := by omega
      have hsm := fun f (hf : f ∈ fs) => (by
        obtain ⟨i, hi, rfl⟩ := List.mem_iff_getElem.1 hf
        exact HR.out.2 i hi hi : f.l ≤ 300)
      have CO := of_any A b o cap fs wr hA (HF.out.below HR.out.1 (Nat.le_refl _)) (by omega)
      have HL := Lib.hid (show ∀ f ∈ fs, f.l ≤ 1000 from fun f hf => by have := hsm f hf; omega)
      clear hsm
      have qn := conv_nil
      have b0 : (((j + 1 : Nat) : Int) != 0) = true := by simp; omega
      obtain ⟨jj, hjj⟩ : ∃ jj : Int, jj = ((j + 1 : Nat) : Int) := ⟨_, rfl⟩
      have HJ := Lib.hid hjj
      rw [← hjj] at b0
      clear hjj
      go_wp2_with (first
        | (go_at_call 7; refine CO.mono ?_; rintro e w2 ⟨g, cg, rfl, hrow, hb⟩; have HB2 := Lib.hid (below_then HR.out.1 hb); have HROW := Lib.hid hrow; have hS2 := HSE.out.below HB2.out (Nat.le_refl _); have CW := write_any s A b o cap fs (a 6) (a 0) w2 (by omega) hA (HF.out.below HB2.out (Nat.le_refl _)) (by omega) HL.out (hS2 6 (by omega)).var (hS2 0 (by omega)).var; clear hb hrow CO hS2)
        | (go_at_call 8; refine CW.mono ?_; rintro e w3 hp; obtain rfl := H1.out _ _ _ hp; have HB3 := Lib.hid (below_then HB2.out hp.1); have CR := rwrite_any s (some ⟨g, 0, none⟩) g 0 cg fs w3 (by omega) (fun _ => rfl) (HROW.out.below hp.1 (Nat.le_refl _)) (by omega) HL.out; clear hp CW)
        | (go_at_call 9; refine CR.mono ?_; rintro e w4 hp; obtain rfl := H2.out _ _ _ hp; have HB4 := Lib.hid (below_then HB3.out hp.1); rw [← HJ.out]; have CN := num_any j hj a w4 (HSE.out.below HB4.out (Nat.le_refl _)); rw [← HJ.out] at CN; clear hp CR)
        | (go_at_call 10; refine CN.mono ?_; rintro e w5 ⟨rfl, hb5⟩; have HB5 := Lib.hid (below_then HB4.out hb5); clear hb5 CN))
      go_ret
      exact ⟨rfl, HB5.out⟩
set_option maxRecDepth 100000 in
set_option maxHeartbeats 1000000 in
theorem write_good (s : ByteArray) (A : Option Addr) (b o cap : Nat) (fs : List Fld) (a : Nat → Addr) (w : World) (hS : Sents w a) (hA : 0 < fs.length → A = some ⟨b, o, none⟩) (hF : FRow w b o fs) (hs : s.size ≤ 60) (hn : fs.length ≤ 60) (hbs : ∀ f ∈ fs, Oc.bytes f.bs)
    (hk : Oc.known s.data.toList = true) (hl : fs.length = s.size) (ho : Oc.okTo s.data.toList fs s.size) :
    Calls Tryd.prog 3 #[.string s, .slice A fs.length cap] w fun e w' => e = .returned (.bool true) ∧ Below w.heap.size w w' := by
  have HOK := Lib.hid (And.intro hk (And.intro hl ho))
  obtain ⟨l, hrd⟩ := Oc.reads_encs s.data.toList fs hk (by rw [hl]; simp) (by simpa using ho) (fun f hf => (hF.r f hf).2)
  have hby := Oc.encs_bytes s.data.toList fs hbs
  have hel := fun (h : ∀ f ∈ fs, f.bs.length ≤ 1000) => Oc.encs_len s.data.toList fs h
  have hfl := fun f (hf : f ∈ fs) => (hF.r f hf).2
  obtain ⟨xs, hxs⟩ : ∃ xs, xs = Oc.encs s.data.toList fs := ⟨_, rfl⟩
  rw [← hxs] at hrd hby hel
  have HXS := Lib.hid hxs
  have HRD : Hid (Oc.reads (shN s) xs = .ok l xs.length) := Lib.hid hrd
  have HBY := Lib.hid hby
  have HEL := Lib.hid hel
  have HFL := Lib.hid hfl
  clear hk hl ho hrd hby hel hfl hxs hbs
  have CA := alive_any a w hS.o
  have HSE := Lib.hid hS
  have HF := Lib.hid hF
  have i1 : ¬ (60 : Int) < (s.size : Int) := by omega
  have i2 : ¬ (60 : Int) < (fs.length : Int) := by omega
  clear hS hF
  go_enter Tryd.func3, Tryd.ntmps3
  go_wp2_with (go_at_call 6; refine CA.mono ?_; rintro e w1 ⟨rfl, hb⟩; have HB := Lib.hid hb; clear hb CA)
  go_loopw [28] (fun j wr => ∃ k : Nat, k ≤ fs.length ∧ j = .int .i64 k ∧ Hid (Small w wr fs k)) (fun j _ => fs.length - (intOf j).toNat)
  case atStart => exact ⟨0, Nat.zero_le _, rfl, Lib.hid ⟨HB.out, fun i _ h => by omega⟩⟩
  case round =>
    obtain ⟨k, hk, rfl, HR⟩ := hrel
    by_cases hlt : k < fs.length
    · obtain rfl := hA (by omega)
      have HFr := Lib.hid (HF.out.below HR.out.1 (Nat.le_refl _))
      have hg : wr.rangeAt b (o + k * 2) [.int .i64 fs[k].n, .slice fs[k].A fs[k].l fs[k].c] := fun j v hj => by
        have p1 := HFr.out.n k hlt
        have p2 := HFr.out.s k hlt
        rcases j with _ | _ | j
        · rw [show o + k * 2 + 0 = o + 2 * k by omega, p1]; exact hj
        · rw [show o + k * 2 + (0 + 1) = o + 2 * k + 1 by omega, p2]; exact hj
        · simp at hj
      have hnx : fs[k].l ≤ 300 → ∀ w', Below wr.heap.size wr w' → Small w w' fs (k + 1) := fun h w' hb => ⟨below_then HR.out.1 hb, fun i hi hik => by
        rcases Nat.lt_succ_iff_lt_or_eq.1 hik with h1 | h1
        · exact HR.out.2 i hi h1
        · subst h1; exact h⟩
      generalize fs[k] = f at hg hnx
      obtain ⟨fn, Af, lf, cf, bs⟩ := f
      dsimp only at hg hnx
      have HG := Lib.hid hg
      have HNX := Lib.hid hnx
      have HW : ∀ m, Hid (Below wr.heap.size wr ((wr.alloc (.cells #[.int .i64 fn, .slice Af lf cf] 26)).drewN m)) := fun m => Lib.hid (below_drewN ((Below.refl _ _).alloc (Nat.le_refl _) _) m)
      clear hg hnx
      have i3 : ((k : Nat) : Int) < fs.length := by omega
      have i4 : (0 : Int) ≤ ((k : Nat) : Int) := by omega
      by_cases hbig : 300 < lf
      · have i5 : (300 : Int) < (lf : Int) := by omega
        go_wp2_with (refine wpList_load_mid rfl 26 (.tmp 30) rfl b (o + k * 2) rfl _ _ HG.out Tryd.underlying26 rfl (by kernel_rfl) ?_)
        go_ret
        exact ⟨rfl, below_then HR.out.1 (HW 0).out⟩
      · have i5 : ¬ (300 : Int) < (lf : Int) := by omega
        go_wp2_with (refine wpList_load_mid rfl 26 (.tmp 30) rfl b (o + k * 2) rfl _ _ HG.out Tryd.underlying26 rfl (by kernel_rfl) ?_)
        go_roundw
        case rel => exact ⟨k + 1, by omega, by go_num, Lib.hid (HNX.out (by omega) _ (HW 0).out)⟩
        case measure => simp [intOf]; omega
    · obtain rfl : k = fs.length := by omega
      have hsm := fun f (hf : f ∈ fs) => (by
        obtain ⟨i, hi, rfl⟩ := List.mem_iff_getElem.1 hf
        exact HR.out.2 i hi hi : f.l ≤ 300)
      have CO := of_any A b o cap fs wr hA (HF.out.below HR.out.1 (Nat.le_refl _)) (by omega)
      have HL := Lib.hid (show ∀ f ∈ fs, f.l ≤ 1000 from fun f hf => by have := hsm f hf; omega)
      clear hsm
      have hxl : xs.length ≤ 100000 := by have := HEL.out (fun f hf => by rw [HFL.out f hf]; exact HL.out f hf); omega
      have CNN := num_nil
      go_wp2_with (first
        | (go_at_call 7; refine CO.mono ?_; rintro e w2 ⟨g, cg, rfl, hrow, hb⟩; have HB2 := Lib.hid (below_then HR.out.1 hb); have HROW := Lib.hid hrow; have hS2 := HSE.out.below HB2.out (Nat.le_refl _); have CW := write_any s A b o cap fs (a 6) (a 0) w2 (by omega) hA (HF.out.below HB2.out (Nat.le_refl _)) (by omega) HL.out (hS2 6 (by omega)).var (hS2 0 (by omega)).var; clear hb hrow CO hS2)
        | (go_at_call 8; refine CW.mono ?_; rintro e w3 ⟨hb3, _, _, hok⟩; obtain ⟨v, rfl, hp⟩ := hok HOK.out.1 HOK.out.2.1 HOK.out.2.2; rw [← HXS.out] at hp; obtain ⟨Av, cv, rfl⟩ := hp.len; have HB3 := Lib.hid (below_then HB2.out hb3); have CR := rwrite_any s (some ⟨g, 0, none⟩) g 0 cg fs w3 (by omega) (fun _ => rfl) (HROW.out.below hb3 (Nat.le_refl _)) (by omega) HL.out; have HROW3 := Lib.hid (HROW.out.below hb3 (Nat.le_refl _)); have HV3 := Lib.hid hp.rd; clear hok hp hb3 CW)
        | (go_at_call 9; refine CR.mono ?_; rintro e w4 ⟨hb4, _, _, hok⟩; obtain ⟨v2, rfl, hp⟩ := hok HOK.out.1 HOK.out.2.1 HOK.out.2.2; rw [← HXS.out] at hp; obtain ⟨Ax, cx, rfl⟩ := hp.len; have HB4 := Lib.hid (below_then HB3.out hb4); have HROW4 := Lib.hid (HROW3.out.below hb4 (Nat.le_refl _)); have HV4 := Lib.hid (HV3.out.below hb4 (Nat.le_refl _)); have HX4 := Lib.hid hp.rd; have q1 := conv_rd HV4.out; have q2 := conv_rd HX4.out; clear hok hp hb4 CR)
        | (go_at_call 10; refine (CNN _).mono ?_; rintro e w5 ⟨rfl, rfl⟩; have CRD := oread_any s xs a Av xs.length cv _ HV4.out (by omega) HBY.out (HSE.out.below HB4.out (Nat.le_refl _)).o HOK.out.1 l HRD.out)
        | (go_at_call 11; refine CRD.mono ?_; rintro e w6 ⟨A1, b1, c1, fb, rfl, hA1, hr1, hs1, hb6⟩; have HB6 := Lib.hid (below_then HB4.out hb6); have HROW6 := Lib.hid (HROW4.out.below hb6 (Nat.le_refl _)); have CRR := rrest_any s xs Ax xs.length cx w6 (by omega) (HX4.out.below hb6 (Nat.le_refl _)) HBY.out (by omega); have HA1 := Lib.hid hA1; have HR1 := Lib.hid hr1; have HS1 := Lib.hid hs1; have hfb : fb.length = fs.length := (by rw [says_len hs1, Oc.reads_len HRD.out, shN_len, HOK.out.2.1]); clear hb6 hA1 hr1 hs1 CRD)
        | (go_at_call 12; refine CRR.mono ?_; rintro e w7 ⟨hb7, _, _, hok⟩; obtain ⟨A3, b3, c3, fr, A4, c4, rfl, hA3, hr3, hs3, _⟩ := hok HOK.out.1 l xs.length HRD.out; have HB7 := Lib.hid (below_then HB6.out hb7); have HROW7 := Lib.hid (HROW6.out.below hb7 (Nat.le_refl _)); have HA3 := Lib.hid hA3; have HR3 := Lib.hid hr3; have HSS := Lib.hid (says_same HS1.out hs3); have hfr : fr.length = fb.length := (by rw [says_len hs3, says_len HS1.out]); have CO1 := of_any A1 b1 0 c1 fb w7 HA1.out (HR1.out.below hb7 (Nat.le_refl _)) (by omega); rw [hfb] at CO1; clear hb7 hok hA3 hr3 hs3 CRR)
        | (go_at_call 7; refine CO1.mono ?_; rintro e w8 ⟨g8, c8, rfl, hr8, hb8⟩; have HB8 := Lib.hid (below_then HB7.out hb8); have HROW8 := Lib.hid (HROW7.out.below hb8 (Nat.le_refl _)); have CS1 := same_any g8 0 c8 b3 0 c3 (some ⟨g8, 0, none⟩) A3 fb fr w8 (fun _ => rfl) (fun h => HA3.out (by omega)) hr8 (HR3.out.below hb8 (Nat.le_refl _)) HSS.out (by omega); rw [hfb] at CS1; clear hb8 hr8 CO1)
        | (go_at_call 13; refine CS1.mono ?_; rintro e w9 ⟨rfl, m, rfl⟩; have HB9 := Lib.hid (below_drewN HB8.out m); have HROW9 := Lib.hid (HROW8.out.below (below_drewN (Below.refl _ _) m) (Nat.le_refl _)); have CO2 := of_any A b o cap fs (w8.drewN m) hA (HF.out.below HB9.out (Nat.le_refl _)) (by omega); clear CS1)
        | (go_at_call 7; refine CO2.mono ?_; rintro e w10 ⟨g10, c10, rfl, hr10, hb10⟩; have HB10 := Lib.hid (below_then HB9.out hb10); have CS2 := same_any g10 0 c10 g 0 cg (some ⟨g10, 0, none⟩) (some ⟨g, 0, none⟩) fs fs w10 (fun _ => rfl) (fun _ => rfl) hr10 (HROW9.out.below hb10 (Nat.le_refl _)) rfl (by omega); clear hb10 hr10 CO2)
        | (go_at_call 13; refine CS2.mono ?_; rintro e w11 ⟨rfl, m2, rfl⟩; have HB11 := Lib.hid (below_drewN HB10.out m2); clear CS2))
      go_ret
      exact ⟨rfl, HB11.out⟩
end Go.Proofs.YtedlfafbehhkdaaDoor
