/- The walks of layer 3's Parts, Ref and Repo, and of the chapter's example. -/
import Derived.Test.YtnjhipecpdcaoaaDoorNm2
namespace Go.Proofs.YtnjhipecpdcaoaaDoor
open Go Go.RowKit
/-- The library's variable that Split reads: some number. -/
def MaxAt (w : World) : Prop := 0 < w.heap.size ∧ ∃ m : Int, w.cell? ⟨0, 0, none⟩ = some (.int .i64 m)
theorem MaxAt.below {B : Nat} {w w' : World} (h : MaxAt w) (hb : Below B w w') (hB : w.heap.size ≤ B) : MaxAt w' :=
  ⟨Nat.lt_of_lt_of_le h.1 hb.size, h.2.elim fun m hm => ⟨m, (hb.cell (p := ⟨0, 0, none⟩) (Nat.lt_of_lt_of_le h.1 hB)).trans hm⟩⟩
abbrev slashS : ByteArray := ⟨#[47]⟩
theorem parts_any (s : ByteArray) (w : World) (hm : MaxAt w) (hs : s.size < 4294967281) :
    Calls Tryd.prog 13 #[.string s] w fun e w' => e = .returned (.slice (some ⟨w.heap.size, 0, none⟩) (Nm.cut s).length (Nm.cut s).length) ∧ w.alloc (.cells ((Nm.cut s).map Value.string).toArray 9) = w' := by
  obtain ⟨_, m, hm⟩ := hm
  have C := Tryd.strings_Split s slashS m w hs hm (by decide)
  rw [show Lib.splitB slashS 0 (Lib.countB s slashS) s = Nm.cut s from rfl, show Lib.countB s slashS + 1 = (Nm.cut s).length from (Nm.cut_len s).symm] at C
  generalize Nm.cut s = l at C ⊢
  clear hm hs
  go_enter Tryd.func13, Tryd.ntmps13
  go_wp2_with (go_at_call 30; refine C.mono ?_; rintro e w' ⟨rfl, rfl⟩)
  go_ret
  exact ⟨rfl, rfl⟩
theorem row_new (w : World) (zs : List ByteArray) (t : TypeId) : Row (w.alloc (.cells (zs.map Value.string).toArray t)) w.heap.size 0 zs :=
  ⟨by simp, fun j x hx => by rw [(Blk.new w t _).cell]; simp [hx]⟩
theorem ref_long {s : ByteArray} (h : ¬ s.size ≤ 24) : Nm.ref s.data.toList = false := by
  have e : s.data.toList.length = s.size := by simp
  unfold Nm.ref; rw [e, decide_eq_false h]; rfl
theorem ref_few {s : ByteArray} (h : ¬ 2 ≤ (Nm.cut s).length) : Nm.ref s.data.toList = false := by
  have e : (Nm.parts s.data.toList).length = (Nm.cut s).length := by rw [Nm.parts_len, Nm.cut_len]
  unfold Nm.ref; rw [e, decide_eq_false h, Bool.and_false]; rfl
theorem ref_else {s : ByteArray} (h1 : s.size ≤ 24) (h2 : 2 ≤ (Nm.cut s).length) : Nm.ref s.data.toList = !((Nm.cut s).any fun x => Nm.bad x.data.toList) := by
  have e1 : s.data.toList.length = s.size := by simp
  have e2 : (Nm.parts s.data.toList).length = (Nm.cut s).length := by rw [Nm.parts_len, Nm.cut_len]
  unfold Nm.ref; rw [e1, e2, decide_eq_true h1, decide_eq_true h2, Nm.any_cut]; rfl
abbrev hyphDotS : ByteArray := ⟨#[45, 46]⟩
abbrev hyphS : ByteArray := ⟨#[45]⟩
/-- The test that Ref hands to the library, in a world that holds its blocks. -/
theorem wrong_tells (w : World) (B3 B2 B1 : Nat) (h3 : B3 < w.heap.size) (h2 : B2 < w.heap.size) (h1 : B1 < w.heap.size) (c3 : w.cell? ⟨B3, 0, none⟩ = some (.func (.func 37) #[] #[.pointer (some ⟨B2, 0, none⟩)]))
    (c2 : w.cell? ⟨B2, 0, none⟩ = some (.func (.func 48) #[] #[.pointer (some ⟨B1, 0, none⟩)])) (c1 : w.cell? ⟨B1, 0, none⟩ = some (.string hyphDotS)) :
    TellsText 41 #[.pointer (some ⟨B3, 0, none⟩)] (fun x => Nm.bad x.data.toList) w := fun W x hx hb => by
  have k3 := (hb.cell (p := ⟨B3, 0, none⟩) h3).trans c3
  have k2 := (hb.cell (p := ⟨B2, 0, none⟩) h2).trans c2
  have k1 := (hb.cell (p := ⟨B1, 0, none⟩) h1).trans c1
  have hz := hb.size
  exact wrongPart1_any x hx B3 37 _ _ eg37 W k3 (plainOr_tells hyphDotS B2 B1 W (by omega) (by omega) k2 k1)
set_option maxHeartbeats 400000 in
theorem ref_any (s : ByteArray) (w : World) (hm : MaxAt w) :
    Calls Tryd.prog 10 #[.string s] w fun e w' => e = .returned (.bool (Nm.ref s.data.toList)) ∧ Below w.heap.size w w' := by
  by_cases hs : s.size ≤ 24
  · have CP := parts_any s w hm (by omega)
    have HZ := Lib.hid (Nm.cut_size s)
    have hs' : 0 ≤ s.size := Nat.zero_le _
    by_cases h2 : 2 ≤ (Nm.cut s).length
    · have HR := Lib.hid (ref_else hs h2)
      have hR : Row (w.alloc (.cells ((Nm.cut s).map Value.string).toArray 9)) w.heap.size 0 (Nm.cut s) := row_new _ _ _
      have hl : (Nm.cut s).length ≤ 9223372036854775807 := by
        have := Lib.countB_le slashS (Nat.le_refl _) _ s (Nat.le_refl _)
        rw [Nm.cut_len]; show Lib.countB s slashS + 1 ≤ _; omega
      have hB0 : Below w.heap.size w (w.alloc (.cells ((Nm.cut s).map Value.string).toArray 9)) := (Below.refl _ _).alloc (Nat.le_refl _) _
      have HB0 := Lib.hid hB0
      clear hB0
      have HRow := Lib.hid hR
      clear hR
      generalize Nm.cut s = l at *
      generalize hr : (l.any fun x => Nm.bad x.data.toList) = r at HR
      have HRes := Lib.hid hr
      clear hr
      go_enter Tryd.func10, Tryd.ntmps10
      go_wp2_with fail
      refine CP.mono ?_
      rintro e w1 ⟨rfl, hw1⟩
      rw [hw1] at HB0 HRow
      clear hw1 CP
      go_wp2_with fail
      refine (plainOr_any hyphDotS _).mono ?_
      rintro e w2 ⟨rfl, rfl⟩
      go_wp2_with fail
      refine (wrongPart_any _ _ _ _ rfl).mono ?_
      rintro e w3 ⟨rfl, rfl⟩
      go_wp2_with fail
      have hT := wrong_tells (((w1.alloc (.cells #[.string hyphDotS] 9)).alloc (.cells #[.func (.func 48) #[] #[.pointer (some ⟨w1.heap.size, 0, none⟩)]] 34)).alloc (.cells #[.func (.func 37) #[] #[.pointer (some ⟨w1.heap.size + 1, 0, none⟩)]] 34)) (w1.heap.size + 1 + 1) (w1.heap.size + 1) w1.heap.size
        (by simp) (by simp <;> omega) (by simp <;> omega) ?k1 ?k2 ?k3
      case k1 => have h := (Blk.new ((w1.alloc (.cells #[.string hyphDotS] 9)).alloc (.cells #[.func (.func 48) #[] #[.pointer (some ⟨w1.heap.size, 0, none⟩)]] 34)) 34 #[.func (.func 37) #[] #[.pointer (some ⟨w1.heap.size + 1, 0, none⟩)]]).cell 0; simpa using h
      case k2 => have h := ((Blk.new (w1.alloc (.cells #[.string hyphDotS] 9)) 34 #[.func (.func 48) #[] #[.pointer (some ⟨w1.heap.size, 0, none⟩)]]).alloc (.cells #[.func (.func 37) #[] #[.pointer (some ⟨w1.heap.size + 1, 0, none⟩)]] 34)).cell 0; simpa using h
      case k3 => have h := (((Blk.new w1 9 #[.string hyphDotS]).alloc (.cells #[.func (.func 48) #[] #[.pointer (some ⟨w1.heap.size, 0, none⟩)]] 34)).alloc (.cells #[.func (.func 37) #[] #[.pointer (some ⟨w1.heap.size + 1, 0, none⟩)]] 34)).cell 0; simpa using h
      have hB3 : Below w1.heap.size w1 (((w1.alloc (.cells #[.string hyphDotS] 9)).alloc (.cells #[.func (.func 48) #[] #[.pointer (some ⟨w1.heap.size, 0, none⟩)]] 34)).alloc (.cells #[.func (.func 37) #[] #[.pointer (some ⟨w1.heap.size + 1, 0, none⟩)]] 34)) := by
        refine ((((Below.refl _ _).alloc (Nat.le_refl _) _).alloc ?_ _).alloc ?_ _) <;> simp <;> omega
      generalize ((w1.alloc (.cells #[.string hyphDotS] 9)).alloc (.cells #[.func (.func 48) #[] #[.pointer (some ⟨w1.heap.size, 0, none⟩)]] 34)).alloc (.cells #[.func (.func 37) #[] #[.pointer (some ⟨w1.heap.size + 1, 0, none⟩)]] 34) = w4 at hT hB3 ⊢
      have HB3 := Lib.hid hB3
      clear hB3
      refine (containsFunc_any _ _ _ eg41 w.heap.size 0 l.length l w4 hT hl (fun x hx => by have := HZ.out x hx; unfold maxLen; omega) (HRow.out.below HB3.out) r HRes.out).mono ?_
      rintro e w5 ⟨rfl, hb5⟩
      have HB5 := Lib.hid (HB0.out.trans ((HB3.out.trans (hb5.mono HB3.out.size)).mono HB0.out.size))
      clear hb5 hT
      go_wp2_with fail
      go_ret
      exact ⟨ret_bool HR.out.symm, HB5.out⟩
    · have HR := Lib.hid (ref_few h2)
      clear HZ
      generalize Nm.cut s = l at *
      go_enter Tryd.func10, Tryd.ntmps10
      go_wp2_with (go_at_call 13; refine CP.mono ?_; rintro e w1 ⟨rfl, rfl⟩)
      go_ret
      exact ⟨ret_bool HR.out.symm, (Below.refl _ _).alloc (Nat.le_refl _) _⟩
  · have HR := Lib.hid (ref_long hs)
    go_enter Tryd.func10, Tryd.ntmps10
    go_wp2
    go_ret
    exact ⟨ret_bool HR.out.symm, Below.refl _ _⟩
theorem suffix_one (l : List UInt8) (h : l ≠ []) : Lib.hasSuffix l [45] = (l.getLastD 0 == 45) := by
  obtain ⟨l', c, rfl⟩ : ∃ l' c, l = l' ++ [c] := ⟨l.dropLast, l.getLast h, (List.dropLast_concat_getLast h).symm⟩
  unfold Lib.hasSuffix List.isSuffixOf
  simp [List.isPrefixOf, Bool.beq_comm]
theorem len_list (s : ByteArray) : s.data.toList.length = s.size := by simp
theorem list_ne {s : ByteArray} (h : 0 < s.size) : s.data.toList ≠ [] := fun e => by have := len_list s; rw [e] at this; simp at this; omega
theorem head_of {s : ByteArray} (h : 0 < s.size) : s.data.toList.headD 0 = s[0] := by
  rw [show s[0] = s.data.toList[0]'(by rw [len_list]; exact h) from rfl]
  rw [List.headD_eq_head?_getD, List.head?_eq_getElem?, List.getElem?_eq_getElem (by rw [len_list]; exact h)]; rfl
theorem repo_short {s : ByteArray} (h : s.size < 1) : Nm.repo s.data.toList = false := by
  unfold Nm.repo; rw [len_list, decide_eq_false (by omega)]; rfl
theorem repo_long {s : ByteArray} (h : 12 < s.size) : Nm.repo s.data.toList = false := by
  unfold Nm.repo; rw [len_list, decide_eq_false (p := s.size ≤ 12) (by omega), Bool.and_false]; rfl
theorem repo_else {s : ByteArray} (h1 : 0 < s.size) (h2 : s.size ≤ 12) : Nm.repo s.data.toList = (Nm.lettr s[0] && Nm.allL (Nm.plain [45]) s.data.toList && !(s.data.toList.getLastD 0 == 45)) := by
  unfold Nm.repo; rw [len_list, decide_eq_true (p := 1 ≤ s.size) (by omega), decide_eq_true h2, head_of h1]; rfl
set_option maxHeartbeats 400000 in
theorem repo_any (s : ByteArray) (w : World) (hs : s.size ≤ maxLen) :
    Calls Tryd.prog 8 #[.string s] w fun e w' => e = .returned (.bool (Nm.repo s.data.toList)) ∧ Below w.heap.size w w' := by
  have hm := hs
  unfold maxLen at hm
  by_cases h1 : 0 < s.size
  · by_cases h2 : s.size ≤ 12
    · have HR := Lib.hid (repo_else h1 h2)
      have CL := letter_any s[0]
      cases hl : Nm.lettr s[0]
      · have H := Lib.hid (show Nm.repo s.data.toList = false by rw [HR.out, hl]; rfl)
        rw [hl] at CL
        clear hl HR
        go_enter Tryd.func8, Tryd.ntmps8
        go_wp2_with (go_at_call 22; refine (CL _).mono ?_; rintro e w' ⟨rfl, rfl⟩)
        go_ret
        exact ⟨ret_bool H.out.symm, Below.refl _ _⟩
      · rw [hl] at CL
        have hW : Below w.heap.size w ((w.alloc (.cells #[.string hyphS] 9)).alloc (.cells #[.func (.func 48) #[] #[.pointer (some ⟨w.heap.size, 0, none⟩)]] 34)) := by
          refine (((Below.refl _ _).alloc (Nat.le_refl _) _).alloc ?_ _) <;> simp
        have T := plainOr_tells hyphS (w.heap.size + 1) w.heap.size ((w.alloc (.cells #[.string hyphS] 9)).alloc (.cells #[.func (.func 48) #[] #[.pointer (some ⟨w.heap.size, 0, none⟩)]] 34)) (by simp) (by simp <;> omega)
          (by simp)
          (by simp)
        have CA := all_any s 37 _ _ eg37 _ hs T
        rw [show Nm.plain hyphS.data.toList = Nm.plain [45] from rfl] at CA
        clear T
        have HB := Lib.hid hW
        clear hW
        cases ha : Nm.allL (Nm.plain [45]) s.data.toList
        · have H := Lib.hid (show Nm.repo s.data.toList = false by rw [HR.out, hl, ha]; rfl)
          rw [ha] at CA
          clear hl HR ha
          go_enter Tryd.func8, Tryd.ntmps8
          go_wp2_with (first
            | (go_at_call 22; refine (CL _).mono ?_; rintro e w' ⟨rfl, rfl⟩)
            | (go_at_call 24; refine (plainOr_any hyphS _).mono ?_; rintro e w' ⟨rfl, rfl⟩)
            | (go_at_call 23; refine CA.mono ?_; rintro e w' ⟨rfl, rfl⟩))
          go_ret
          exact ⟨ret_bool H.out.symm, HB.out⟩
        · have H := Lib.hid (show Nm.repo s.data.toList = !Lib.hasSuffix s.data.toList [45] by rw [HR.out, hl, ha, suffix_one _ (list_ne h1)]; rfl)
          rw [ha] at CA
          clear hl HR ha
          have CS := fun w => Tryd.strings_HasSuffix s hyphS w hm
          rw [show hyphS.data.toList = [45] from rfl] at CS
          generalize Lib.hasSuffix s.data.toList [45] = r at CS H
          go_enter Tryd.func8, Tryd.ntmps8
          go_wp2_with (first
            | (go_at_call 22; refine (CL _).mono ?_; rintro e w' ⟨rfl, rfl⟩)
            | (go_at_call 24; refine (plainOr_any hyphS _).mono ?_; rintro e w' ⟨rfl, rfl⟩)
            | (go_at_call 23; refine CA.mono ?_; rintro e w' ⟨rfl, rfl⟩)
            | (go_at_call 25; refine (CS _).mono ?_; rintro e w' ⟨rfl, rfl⟩))
          go_ret
          exact ⟨ret_bool H.out.symm, HB.out⟩
    · have H := Lib.hid (repo_long (s := s) (by omega))
      go_enter Tryd.func8, Tryd.ntmps8
      go_wp2
      go_ret
      exact ⟨ret_bool H.out.symm, Below.refl _ _⟩
  · have H := Lib.hid (repo_short (s := s) (by omega))
    go_enter Tryd.func8, Tryd.ntmps8
    go_wp2
    go_ret
    exact ⟨ret_bool H.out.symm, Below.refl _ _⟩
end Go.Proofs.YtnjhipecpdcaoaaDoor
