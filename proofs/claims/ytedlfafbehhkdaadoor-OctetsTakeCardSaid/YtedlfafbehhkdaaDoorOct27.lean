/- The other functions that the law OctetsTake hands to Take; cartagenum.Err. -/
import Derived.Test.YtedlfafbehhkdaaDoorOct26
namespace Go.Proofs.YtedlfafbehhkdaaDoor
open Go Go.RowKit
set_option maxRecDepth 100000 in
theorem err_state (a : Nat → Addr) (w : World) (hs : Sents w a) : Calls Tryd.prog 42 #[.int .i64 19] w fun e w' => e = .returned (ev (a 18)) ∧ Below w.heap.size w w' := by
  have c0 : w.cell? ⟨1, 0, none⟩ = some (ev (a 0)) := (hs 0 (by omega)).var
  have c1 : w.cell? ⟨2, 0, none⟩ = some (ev (a 1)) := (hs 1 (by omega)).var
  have c2 : w.cell? ⟨3, 0, none⟩ = some (ev (a 2)) := (hs 2 (by omega)).var
  have c3 : w.cell? ⟨4, 0, none⟩ = some (ev (a 3)) := (hs 3 (by omega)).var
  have c4 : w.cell? ⟨5, 0, none⟩ = some (ev (a 4)) := (hs 4 (by omega)).var
  have c5 : w.cell? ⟨6, 0, none⟩ = some (ev (a 5)) := (hs 5 (by omega)).var
  have c6 : w.cell? ⟨0, 0, none⟩ = some (ev (a 6)) := (hs 6 (by omega)).var
  have c7 : w.cell? ⟨7, 0, none⟩ = some (ev (a 7)) := (hs 7 (by omega)).var
  have c8 : w.cell? ⟨8, 0, none⟩ = some (ev (a 8)) := (hs 8 (by omega)).var
  have c9 : w.cell? ⟨9, 0, none⟩ = some (ev (a 9)) := (hs 9 (by omega)).var
  have c10 : w.cell? ⟨10, 0, none⟩ = some (ev (a 10)) := (hs 10 (by omega)).var
  have c11 : w.cell? ⟨11, 0, none⟩ = some (ev (a 11)) := (hs 11 (by omega)).var
  have c12 : w.cell? ⟨12, 0, none⟩ = some (ev (a 12)) := (hs 12 (by omega)).var
  have c13 : w.cell? ⟨13, 0, none⟩ = some (ev (a 13)) := (hs 13 (by omega)).var
  have c14 : w.cell? ⟨14, 0, none⟩ = some (ev (a 14)) := (hs 14 (by omega)).var
  have c15 : w.cell? ⟨15, 0, none⟩ = some (ev (a 15)) := (hs 15 (by omega)).var
  have c16 : w.cell? ⟨16, 0, none⟩ = some (ev (a 16)) := (hs 16 (by omega)).var
  have c17 : w.cell? ⟨17, 0, none⟩ = some (ev (a 17)) := (hs 17 (by omega)).var
  have c18 : w.cell? ⟨18, 0, none⟩ = some (ev (a 18)) := (hs 18 (by omega)).var
  have c19 : w.cell? ⟨19, 0, none⟩ = some (ev (a 19)) := (hs 19 (by omega)).var
  have c20 : w.cell? ⟨20, 0, none⟩ = some (ev (a 20)) := (hs 20 (by omega)).var
  have c21 : w.cell? ⟨21, 0, none⟩ = some (ev (a 21)) := (hs 21 (by omega)).var
  have HB : Hid (Below w.heap.size w (w.alloc (.cells #[.nilIface, ev (a 0), ev (a 1), ev (a 2), ev (a 3), ev (a 4), ev (a 5), ev (a 6), ev (a 7), ev (a 8), ev (a 9), ev (a 10), ev (a 11), ev (a 12), ev (a 13), ev (a 14), ev (a 15), ev (a 16), ev (a 17), ev (a 18), ev (a 19), ev (a 20), ev (a 21)] 30))) := Lib.hid ((Below.refl _ _).alloc (Nat.le_refl _) _)
  have px : (w.alloc (.cells #[.nilIface, ev (a 0), ev (a 1), ev (a 2), ev (a 3), ev (a 4), ev (a 5), ev (a 6), ev (a 7), ev (a 8), ev (a 9), ev (a 10), ev (a 11), ev (a 12), ev (a 13), ev (a 14), ev (a 15), ev (a 16), ev (a 17), ev (a 18), ev (a 19), ev (a 20), ev (a 21)] 30)).cell? ⟨w.heap.size, 19, none⟩ = some (ev (a 18)) := (Blk.new w 30 _).cell 19
  clear hs
  go_enter Tryd.func42, Tryd.ntmps42
  go_wp2
  go_ret
  exact ⟨rfl, HB.out⟩
section
variable (xs : List Nat) (a : Nat → Addr) (w0 w : World)
theorem strange_bad (hS : OSents w0 a) : ReadsBad 18 #[] NoS w0 w xs (a 6) := by
  intro w2 i r _ _ hi _
  have pK := ((hS.below hi.bel.1 (Nat.le_refl _)) 6 (by omega)).var
  have CF : Calls Tryd.prog 38 #[.pointer (some ⟨i, 0, none⟩), .int .u8 120] w2 _ := inum_kind i r 120 (a 6) xs w0 w2 hi rfl pK
  clear hi
  change Calls Tryd.prog 18 #[.pointer (some ⟨i, 0, none⟩)] w2 _
  go_enter Tryd.func18, Tryd.ntmps18
  go_wp2_with (go_at_call 38; refine CF.mono ?_; rintro e w' ⟨rfl, hd, hg⟩)
  exact ⟨rfl, rfl, hd, Kpt.of_grown hg (Or.inl rfl)⟩
theorem broken_short (hS : OSents w0 a) (h0 : xs.length < 1) : ReadsBad 17 #[] NoS w0 w xs (a 1) := by
  intro w2 i r _ _ hi _
  have pS := ((hS.below hi.bel.1 (Nat.le_refl _)) 1 (by omega)).var
  have CF : Calls Tryd.prog 38 #[.pointer (some ⟨i, 0, none⟩), .int .u8 98] w2 _ := inum_short i r 98 1 (a 1) xs w0 w2 hi rfl (by omega) h0 pS
  clear hi
  change Calls Tryd.prog 17 #[.pointer (some ⟨i, 0, none⟩)] w2 _
  go_enter Tryd.func17, Tryd.ntmps17
  go_wp2_with (go_at_call 38; refine CF.mono ?_; rintro e w' ⟨rfl, hd, hg⟩)
  exact ⟨rfl, rfl, hd, Kpt.of_grown hg (Or.inl rfl)⟩
theorem num_b (hb : Oc.bytes xs) (h0 : 1 ≤ xs.length) (i r : Nat) (w2 : World) (hi : InAt w0 w2 i r xs) : Calls Tryd.prog 38 #[.pointer (some ⟨i, 0, none⟩), .int .u8 98] w2 fun e w' => e = .returned (.int .i64 ((Oc.val (xs.take 1) : Nat) : Int)) ∧ InAt w0 w' i r (xs.drop 1) ∧ w2.grownBy w' (some r) :=
  inum_ok i r 98 1 xs w0 w2 hi rfl (by omega) (by omega) h0 hb (by have := Oc.val_lt 1 (xs.take 1) (Oc.bytes_take hb 1) (by rw [List.length_take]; omega); have hm : Oc.mostN 98 = 255 := rfl; rw [hm]; omega) rfl
theorem broken_state (hb : Oc.bytes xs) (hS : Sents w0 a) (h0 : 1 ≤ xs.length) : ReadsBad 17 #[] NoS w0 w xs (a 18) := by
  intro w2 i r _ _ hi _
  have CN := num_b xs w0 hb h0 i r w2 hi
  have HSE := Lib.hid hS
  clear hi hS
  change Calls Tryd.prog 17 #[.pointer (some ⟨i, 0, none⟩)] w2 _
  go_enter Tryd.func17, Tryd.ntmps17
  go_wp2_with (first | (go_at_call 38; refine CN.mono ?_; rintro e w3 ⟨rfl, hi, hg⟩; have HI := Lib.hid hi; have HG := Lib.hid hg; have CE := err_state a w3 (HSE.out.below hi.bel.1 (Nat.le_refl _)); clear hi hg CN) | (go_at_call 42; refine CE.mono ?_; rintro e w4 ⟨rfl, hb4⟩; have HB4 := Lib.hid hb4; obtain ⟨v4, hi4, _⟩ := HI.out.below hb4; have CF := fail_any i r v4 (a 18) w4 hi4; clear hb4 hi4 CE) | (go_at_call 41; refine CF.mono ?_; rintro e w' ⟨rfl, hd, hg⟩))
  exact ⟨rfl, rfl, hd, Kpt.of_grown (only_trans (only_trans HG.out (only_of_below HB4.out _)) hg) (Or.inl rfl)⟩
theorem third_ok (hb : Oc.bytes xs) (hz : xs.length ≤ 1000) (l : List (Nat × List Nat)) (p : Nat) (h : Oc.reads [98, 116, 111] xs = .ok l p) :
    ∃ v0 t os, l = [(v0, []), (0, t), (0, os)] ∧ os.length = 32 ∧ v0 < 256 ∧ t.length < 65536 ∧ os.getD 0 0 < 256 ∧ ReadsTo 16 #[] NoS w0 w xs (xs.drop p) (fun _ u _ => u = .int .i64 ((v0 : Int) + (t.length : Int) + ((os.getD 0 0 : Nat) : Int) + ((xs.drop p).length : Int))) := by
  have hr0 : Oc.reads [98, 116, 111] xs = ((Oc.Got.next xs (.ok [] 0) 98).next xs 116).next xs 111 := rfl
  rw [hr0] at h
  have hn := step_num (c := 98) (by decide) (by decide) xs
  have hzz : Oc.zs 98 = 1 := rfl
  have hm : Oc.mostN 98 = 255 := rfl
  rw [hzz, hm] at hn
  by_cases h1 : xs.length < 1
  · rw [if_pos h1] at hn
    simp only [Oc.Got.next, List.drop_zero, hn] at h
    cases h
  have hv1 := Oc.val_lt 1 (xs.take 1) (Oc.bytes_take hb 1) (by rw [List.length_take]; omega)
  rw [if_neg h1, if_neg (by omega)] at hn
  simp only [Oc.Got.next, List.drop_zero, hn] at h
  have CO := num_b xs w0 hb (by omega)
  generalize Oc.val (xs.take 1) = v0 at h CO hv1
  have hst := step_text (xs.drop 1)
  have hb1 := Oc.bytes_drop hb 1
  rw [show (0 + 1 : Nat) = 1 from rfl] at h
  by_cases h2 : (xs.drop 1).length < 2
  · rw [if_pos h2] at hst
    simp only [hst] at h
    cases h
  rw [if_neg h2] at hst
  by_cases h3 : (xs.drop 1).length < 2 + Oc.val ((xs.drop 1).take 2)
  · rw [if_pos h3] at hst
    simp only [hst] at h
    cases h
  rw [if_neg h3] at hst
  simp only [hst] at h
  have CT := fun w2 i r (hi : InAt w0 w2 i r (xs.drop 1)) => text_ok i r (xs.drop 1) w0 w2 hi (by omega) (by omega) hb1 hi.lt
  have hv2 := Oc.val_lt 2 ((xs.drop 1).take 2) (Oc.bytes_take hb1 2) (by rw [List.length_take]; omega)
  generalize Oc.val ((xs.drop 1).take 2) = V at h CT hv2 h3
  have HDD : Hid ((xs.drop 1).drop (2 + V) = xs.drop (1 + (2 + V))) := Lib.hid (by rw [List.drop_drop])
  have hso := step_oid (xs.drop (1 + (2 + V)))
  by_cases h4 : (xs.drop (1 + (2 + V))).length < 32
  · rw [if_pos h4] at hso
    simp only [hso] at h
    cases h
  rw [if_neg h4] at hso
  simp only [hso] at h
  injection h with e1 e2
  have htl : (((xs.drop 1).drop 2).take V).length = V := by rw [List.length_take, List.length_drop]; omega
  have hol : ((xs.drop (1 + (2 + V))).take 32).length = 32 := by rw [List.length_take]; omega
  have hyb : ((xs.drop (1 + (2 + V))).take 32).getD 0 0 < 256 := by
    have hb4 := Oc.bytes_take (Oc.bytes_drop hb (1 + (2 + V))) 32
    rw [List.getD, List.getElem?_eq_getElem (by omega)]
    exact hb4 _ (List.getElem_mem _)
  refine ⟨v0, ((xs.drop 1).drop 2).take V, (xs.drop (1 + (2 + V))).take 32, by rw [← e1]; rfl, hol, by omega, by omega, hyb, ?_⟩
  rw [htl, ← e2]
  have HDE : Hid ((xs.drop (1 + (2 + V))).drop 32 = xs.drop (1 + (2 + V) + 32)) := Lib.hid (by rw [List.drop_drop])
  have hll : (xs.drop (1 + (2 + V) + 32)).length ≤ 1000 := by rw [List.length_drop]; omega
  have hoi := oid_index _ hol
  have CX := fun w2 i r (hi : InAt w0 w2 i r (xs.drop (1 + (2 + V)))) => oid_ok i r _ w0 w2 hi (by omega)
  obtain ⟨os, hos⟩ : ∃ os, os = (xs.drop (1 + (2 + V))).take 32 := ⟨_, rfl⟩
  rw [← hos] at CX hyb hoi ⊢
  generalize xs.drop (1 + (2 + V) + 32) = zs at HDE hll ⊢
  generalize os.getD 0 0 = x at hyb hoi ⊢
  have W1 : IntKind.i64.wrap ((v0 : Int) + (V : Int)) = (v0 : Int) + (V : Int) := IntWalk.i64_in _ (by omega)
  have W2 : IntKind.i64.wrap ((v0 : Int) + (V : Int) + (x : Int)) = (v0 : Int) + (V : Int) + (x : Int) := IntWalk.i64_in _ (by omega)
  have W3 : IntKind.i64.wrap ((v0 : Int) + (V : Int) + (x : Int) + (zs.length : Int)) = (v0 : Int) + (V : Int) + (x : Int) + (zs.length : Int) := IntWalk.i64_in _ (by omega)
  clear hos e1 e2 htl hol hn hst hso h3 h4 h2 h1 hz hzz hm hr0
  intro w2 i r _ _ hi _
  have CN := CO i r w2 hi
  clear hi CO
  change Calls Tryd.prog 16 #[.pointer (some ⟨i, 0, none⟩)] w2 _
  go_enter Tryd.func16, Tryd.ntmps16
  go_wp2_with (first | (go_at_call 38; refine CN.mono ?_; rintro e w3 ⟨rfl, hi, hg⟩; have CF := CT w3 i r hi; have HG := Lib.hid hg; clear hi hg CN) | (go_at_call 39; refine CF.mono ?_; rintro e w4 ⟨A, c, rfl, _, hi, hg⟩; rw [HDD.out] at hi; have CY := CX w4 i r hi; have HG2 := Lib.hid (only_trans HG.out hg); clear hi hg CF) | (go_at_call 40; refine CY.mono ?_; rintro e w5 ⟨rfl, hi, hg⟩; rw [HDE.out] at hi; have CL := left_any i r zs w0 w5 hi; have HI5 := Lib.hid hi; have HG5 := Lib.hid (only_trans HG2.out hg); clear hi hg CY) | (go_at_call 35; refine CL.mono ?_; rintro e w' ⟨rfl, rfl⟩; clear CL))
  go_ret
  exact ⟨_, rfl, HI5.out, Kpt.of_grown HG5.out (Or.inl rfl), rfl⟩
end
end Go.Proofs.YtedlfafbehhkdaaDoor
