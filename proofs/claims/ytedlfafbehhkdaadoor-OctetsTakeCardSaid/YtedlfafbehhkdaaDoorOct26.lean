/- The functions that the law OctetsTake hands to Take. -/
import Derived.Test.YtedlfafbehhkdaaDoorOct25
import Derived.Test.YtedlfafbehhkdaaDoorOneLaw
namespace Go.Proofs.YtedlfafbehhkdaaDoor
open Go Go.RowKit
def NoS : Nat → Prop := fun _ => False
theorem oid_index (os : List Nat) (h : os.length = 32) (w : World) : (Instr.index 73 (.agg (u8s os)) (.int .i64 0)).run Tryd.prog w = .ok (.int .u8 ((os.getD 0 0 : Nat) : Int)) w :=
  run_indexArr Tryd.underlying73 Tryd.underlying5 (by kernel_rfl) (u8s os) 0 _ (by omega) (u8s_get os 0 (by omega)) .i64 rfl w
section
variable (xs : List Nat) (a : Nat → Addr) (w0 w : World)
theorem third_bad (hb : Oc.bytes xs) (hS : OSents w0 a) (e : Nat) (h : Oc.reads [98, 116, 111] xs = .bad e) : e = 2 ∧ ReadsBad 16 #[] NoS w0 w xs (a 1) := by
  have hr0 : Oc.reads [98, 116, 111] xs = ((Oc.Got.next xs (.ok [] 0) 98).next xs 116).next xs 111 := rfl
  rw [hr0] at h
  have hn := step_num (c := 98) (by decide) (by decide) xs
  have hz : Oc.zs 98 = 1 := rfl
  have hm : Oc.mostN 98 = 255 := rfl
  rw [hz, hm] at hn
  have key : ∀ (P : World → Nat → Nat → Prop), (∀ w2 i r, InAt w0 w2 i r xs → P w2 i r → Calls Tryd.prog 16 #[.pointer (some ⟨i, 0, none⟩)] w2 (Fails w2 r (ev (a 1)))) → (∀ w2 i r, InAt w0 w2 i r xs → P w2 i r) → ReadsBad 16 #[] NoS w0 w xs (a 1) := fun P h1 h2 w2 i r _ _ hi _ =>
    (h1 w2 i r hi (h2 w2 i r hi)).mono fun e w' ⟨g1, g2, g3⟩ => ⟨g1, g2, Kpt.of_grown g3 (Or.inl rfl)⟩
  have hpS : ∀ w2 i r, InAt w0 w2 i r xs → w2.cell? ⟨2, 0, none⟩ = some (ev (a 1)) ∧ r ≠ 2 := fun w2 i r hi => ⟨((hS.below hi.bel.1 (Nat.le_refl _)) 1 (by omega)).var, fun e => by
    have g1 := hi.bel.2
    have g2 := (hS 1 (by omega)).lt
    have g3 : sgs.getD 1 0 = 2 := rfl
    omega⟩
  by_cases h1 : xs.length < 1
  · rw [if_pos h1] at hn
    simp only [Oc.Got.next, List.drop_zero, hn] at h
    injection h with h
    refine ⟨h.symm, key (fun _ _ _ => True) (fun w2 i r hi _ => ?_) (fun _ _ _ _ => trivial)⟩
    have CF : Calls Tryd.prog 38 #[.pointer (some ⟨i, 0, none⟩), .int .u8 98] w2 _ := inum_short i r 98 1 (a 1) xs w0 w2 hi rfl (by omega) h1 (hpS w2 i r hi).1
    clear hi
    go_enter Tryd.func16, Tryd.ntmps16
    go_wp2_with (go_at_call 38; refine CF.mono ?_; rintro e w' ⟨rfl, hd, hg⟩)
    exact ⟨rfl, rfl, hd, hg⟩
  have hv1 := Oc.val_lt 1 (xs.take 1) (Oc.bytes_take hb 1) (by rw [List.length_take]; omega)
  rw [if_neg h1, if_neg (by omega)] at hn
  simp only [Oc.Got.next, List.drop_zero, hn] at h
  have CO := fun w2 i r (hi : InAt w0 w2 i r xs) => inum_ok i r 98 1 xs w0 w2 hi rfl (by omega) (by omega) (by omega) hb (by rw [hm]; omega) rfl
  generalize Oc.val (xs.take 1) = v0 at h CO hv1
  have hst := step_text (xs.drop 1)
  have hb1 := Oc.bytes_drop hb 1
  rw [show (0 + 1 : Nat) = 1 from rfl] at h
  by_cases h2 : (xs.drop 1).length < 2
  · rw [if_pos h2] at hst
    simp only [hst] at h
    injection h with h
    refine ⟨h.symm, key (fun _ _ _ => True) (fun w2 i r hi _ => ?_) (fun _ _ _ _ => trivial)⟩
    have CN : Calls Tryd.prog 38 #[.pointer (some ⟨i, 0, none⟩), .int .u8 98] w2 _ := CO w2 i r hi
    have HPS := Lib.hid (hpS w2 i r hi)
    clear hi CO
    go_enter Tryd.func16, Tryd.ntmps16
    go_wp2_with (first | (go_at_call 38; refine CN.mono ?_; rintro e w3 ⟨rfl, hi, hg⟩; have CF := text_short i r (a 1) (xs.drop 1) w0 w3 hi h2 (hg.cell HPS.out.1 (fun e => HPS.out.2 (by injection e with e; exact e.symm))); have HG := Lib.hid hg; clear hi hg CN) | (go_at_call 39; refine CF.mono ?_; rintro e w' ⟨rfl, hd, hg⟩))
    exact ⟨rfl, rfl, hd, only_trans HG.out hg⟩
  rw [if_neg h2] at hst
  by_cases h3 : (xs.drop 1).length < 2 + Oc.val ((xs.drop 1).take 2)
  · rw [if_pos h3] at hst
    simp only [hst] at h
    injection h with h
    refine ⟨h.symm, key (fun _ _ _ => True) (fun w2 i r hi _ => ?_) (fun _ _ _ _ => trivial)⟩
    have CN : Calls Tryd.prog 38 #[.pointer (some ⟨i, 0, none⟩), .int .u8 98] w2 _ := CO w2 i r hi
    have HPS := Lib.hid (hpS w2 i r hi)
    clear hi CO
    go_enter Tryd.func16, Tryd.ntmps16
    go_wp2_with (first | (go_at_call 38; refine CN.mono ?_; rintro e w3 ⟨rfl, hi, hg⟩; have CF := text_short2 i r (a 1) (xs.drop 1) w0 w3 hi (by omega) h3 hb1 HPS.out.2 (hg.cell HPS.out.1 (fun e => HPS.out.2 (by injection e with e; exact e.symm))); have HG := Lib.hid hg; clear hi hg CN) | (go_at_call 39; refine CF.mono ?_; rintro e w' ⟨rfl, hd, hg⟩))
    exact ⟨rfl, rfl, hd, only_trans HG.out hg⟩
  rw [if_neg h3] at hst
  simp only [hst] at h
  have CT := fun w2 i r (hi : InAt w0 w2 i r (xs.drop 1)) => text_ok i r (xs.drop 1) w0 w2 hi (by omega) (by omega) hb1 hi.lt
  have hv2 := Oc.val_lt 2 ((xs.drop 1).take 2) (Oc.bytes_take hb1 2) (by rw [List.length_take]; omega)
  generalize Oc.val ((xs.drop 1).take 2) = V at h CT hv2 h3
  have HDD : Hid ((xs.drop 1).drop (2 + V) = xs.drop (1 + (2 + V))) := Lib.hid (by rw [List.drop_drop])
  have hso := step_oid (xs.drop (1 + (2 + V)))
  by_cases h4 : (xs.drop (1 + (2 + V))).length < 32
  · rw [if_pos h4] at hso
    simp only [hso] at h
    injection h with h
    refine ⟨h.symm, key (fun _ _ _ => True) (fun w2 i r hi _ => ?_) (fun _ _ _ _ => trivial)⟩
    have CN : Calls Tryd.prog 38 #[.pointer (some ⟨i, 0, none⟩), .int .u8 98] w2 _ := CO w2 i r hi
    have HPS := Lib.hid (hpS w2 i r hi)
    have W1 : IntKind.i64.wrap ((v0 : Int) + (V : Int)) = (v0 : Int) + (V : Int) := IntWalk.i64_in _ (by omega)
    clear hi CO
    go_enter Tryd.func16, Tryd.ntmps16
    go_wp2_with (first | (go_at_call 38; refine CN.mono ?_; rintro e w3 ⟨rfl, hi, hg⟩; have CF := CT w3 i r hi; have HG := Lib.hid hg; clear hi hg CN) | (go_at_call 39; refine CF.mono ?_; rintro e w4 ⟨A, c, rfl, _, hi, hg⟩; rw [HDD.out] at hi; have CX := oid_short i r (a 1) _ w0 w4 hi h4 ((only_trans HG.out hg).cell HPS.out.1 (fun e => HPS.out.2 (by injection e with e; exact e.symm))); have HG2 := Lib.hid (only_trans HG.out hg); clear hi hg CF) | (go_at_call 40; refine CX.mono ?_; rintro e w' ⟨rfl, hd, hg⟩))
    exact ⟨rfl, rfl, hd, only_trans HG2.out hg⟩
  · rw [if_neg h4] at hso
    simp only [hso] at h
    cases h
end
end Go.Proofs.YtedlfafbehhkdaaDoor
