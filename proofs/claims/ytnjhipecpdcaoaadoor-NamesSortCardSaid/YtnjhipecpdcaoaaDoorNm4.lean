/- The walks of layer 3's example, of Under and Shorten, and of the document's own answers to them. -/
import Derived.Test.YtnjhipecpdcaoaaDoorNm3
import Derived.Laws.Concat
namespace Go.Proofs.YtnjhipecpdcaoaaDoor
open Go Go.RowKit
abbrev refS : ByteArray := ⟨#[114, 101, 102, 115, 47, 104, 101, 97, 100, 115, 47, 120]⟩
abbrev xS : ByteArray := ⟨#[120]⟩
theorem ref_yes : Nm.ref refS.data.toList = true := by decide +kernel
theorem ref_no : Nm.ref xS.data.toList = false := by decide +kernel
theorem repo_yes : Nm.repo xS.data.toList = true := by decide +kernel
theorem alive_any (w : World) (hm : MaxAt w) :
    Calls Tryd.prog 7 #[] w fun e w' => e = .returned (.bool true) ∧ Below w.heap.size w w' := by
  have C1 := ref_any refS w hm
  rw [ref_yes] at C1
  go_enter Tryd.func7, Tryd.ntmps7
  go_wp2_with fail
  refine C1.mono ?_
  rintro e w1 ⟨rfl, hb1⟩
  have C2 := ref_any xS w1 (hm.below hb1 (Nat.le_refl _))
  rw [ref_no] at C2
  have HB1 := Lib.hid hb1
  clear hb1
  go_wp2_with fail
  refine C2.mono ?_
  rintro e w2 ⟨rfl, hb2⟩
  have C3 := repo_any xS w2 (by decide)
  rw [repo_yes] at C3
  have HB2 := Lib.hid (HB1.out.trans (hb2.mono HB1.out.size))
  clear hb2
  go_wp2_with fail
  refine C3.mono ?_
  rintro e w3 ⟨rfl, hb3⟩
  have HB3 := Lib.hid (HB2.out.trans (hb3.mono HB2.out.size))
  clear hb3
  go_wp2_with fail
  go_ret
  exact ⟨rfl, HB3.out⟩
/-! Under -/
theorem str_beq (a b : ByteArray) : (a.toList == b.toList) = (a.data.toList == b.data.toList) := by
  rw [ByteArray.toList_eq, ByteArray.toList_eq]
set_option maxHeartbeats 400000 in
theorem under_any (s p : ByteArray) (w : World) (hs : s.size ≤ maxLen) (hp : p.size ≤ maxLen) :
    Calls Tryd.prog 15 #[.string s, .string p] w fun e w' => e = .returned (.bool (Nm.under s.data.toList p.data.toList)) ∧ w = w' := by
  have C := Tryd.strings_CutPrefix s p w
  have CH := fun m w => Tryd.strings_HasPrefix m slashS w
  cases hh : Lib.hasPrefix s.data.toList p.data.toList
  · rw [hh] at C
    have H := Lib.hid (show Nm.under s.data.toList p.data.toList = false by unfold Nm.under; rw [show p.data.toList.isPrefixOf s.data.toList = false from hh]; rfl)
    clear hh
    go_enter Tryd.func15, Tryd.ntmps15
    go_wp2_with (go_at_call 31; refine C.mono ?_; rintro e w' ⟨rfl, rfl⟩)
    go_ret
    exact ⟨ret_bool H.out.symm, rfl⟩
  · rw [hh] at C
    have hm : ((⟨(Lib.trimPrefix s.data.toList p.data.toList).toArray⟩ : ByteArray)).toList = s.data.toList.drop p.data.toList.length := by
      rw [ByteArray.toList_eq]; show (Lib.trimPrefix _ _) = _; unfold Lib.trimPrefix; rw [if_pos hh]
    generalize (⟨(Lib.trimPrefix s.data.toList p.data.toList).toArray⟩ : ByteArray) = m at C hm
    have H := Lib.hid (Nm.under_parts _ _ _ hh hm)
    have HM := Lib.hid (ByteArray.toList_eq m)
    clear hm hh
    go_enter Tryd.func15, Tryd.ntmps15
    go_wp2_with (first
      | (go_at_call 31; refine C.mono ?_; rintro e w' ⟨rfl, rfl⟩)
      | (go_at_call 32; refine (CH m _).mono ?_; rintro e w' ⟨rfl, rfl⟩))
    · have h1 : m.toList.isEmpty = true := by assumption
      go_ret
      exact ⟨ret_bool (by rw [H.out, h1]; rfl), rfl⟩
    · have h1 : m.toList.isEmpty = false := by assumption
      have h2 : Lib.hasPrefix m.data.toList [47] = true := by assumption
      go_ret
      exact ⟨ret_bool (by rw [H.out, h1, show [47].isPrefixOf m.toList = true by rw [HM.out]; exact h2]; rfl), rfl⟩
    · have h1 : m.toList.isEmpty = false := by assumption
      have h2 : ¬ Lib.hasPrefix m.data.toList [47] = true := by assumption
      go_ret
      exact ⟨ret_bool (by rw [H.out, h1, show [47].isPrefixOf m.toList = false by rw [HM.out]; exact Bool.eq_false_iff.2 h2]; rfl), rfl⟩
theorem ret_str {a b : ByteArray} (h : a = b) : Ending.returned (.string a) = .returned (.string b) := by rw [h]
theorem bytes_ext {a : ByteArray} {l : List UInt8} (h : a.data.toList = l) : a = ⟨l.toArray⟩ := by
  apply ByteArray.ext; apply Array.ext'; simpa using h
theorem byte_eq (c d : UInt8) : ((c.toNat : Int) == (d.toNat : Int)) = (c == d) := by
  rw [Bool.eq_iff_iff]; simp only [beq_iff_eq, ← UInt8.toNat_inj]; omega
theorem pre_of {s p : ByteArray} {b : Bool} (h : p.size ≤ s.size) (hx : ((s.extract 0 p.size).toList == p.toList) = b) : p.data.toList.isPrefixOf s.data.toList = b := by
  have e := Lib.hasPrefix_raw s p
  rw [decide_eq_true h, hx] at e
  exact e.symm
theorem under_few {s p : ByteArray} (h : s.size < p.size) : Nm.under s.data.toList p.data.toList = false := by
  apply Nm.under_miss
  have e := Lib.hasPrefix_raw s p
  rw [decide_eq_false (by omega)] at e
  exact e.symm
theorem under_same {s p : ByteArray} (h : s.size = p.size) (hx : (!(s.extract 0 p.size).toList == p.toList) = false) : Nm.under s.data.toList p.data.toList = true := by
  unfold Nm.under; rw [pre_of (b := true) (by omega) (by simpa using hx), len_list, len_list, decide_eq_true h]; rfl
theorem under_more {s p : ByteArray} (h : p.size + 1 < s.size) (hx : (!(s.extract 0 p.size).toList == p.toList) = false) : Nm.under s.data.toList p.data.toList = (s[p.size]'(by omega) == 47) := by
  unfold Nm.under
  rw [pre_of (b := true) (by omega) (by simpa using hx), len_list, len_list, decide_eq_true h, decide_eq_false (by omega)]
  rw [List.getD_eq_getElem?_getD, List.getElem?_eq_getElem (by rw [len_list]; omega)]; rfl
theorem under_one {s p : ByteArray} (h0 : ¬ s.size < p.size) (h1 : ¬ s.size = p.size) (h : ¬ p.size + 1 < s.size) : Nm.under s.data.toList p.data.toList = false := by
  unfold Nm.under
  rw [len_list, len_list, decide_eq_false h, decide_eq_false h1]; simp
theorem under_not {s p : ByteArray} (h : p.size ≤ s.size) (hx : (!(s.extract 0 p.size).toList == p.toList) = true) : Nm.under s.data.toList p.data.toList = false :=
  Nm.under_miss _ _ (pre_of h (by simpa using hx))
set_option maxHeartbeats 400000 in
theorem runder_any (s p : ByteArray) (w : World) (hs : s.size ≤ maxLen) (hp : p.size ≤ 1000) :
    Calls Tryd.prog 16 #[.string s, .string p] w fun e w' => e = .returned (.bool (Nm.under s.data.toList p.data.toList)) ∧ w = w' := by
  unfold maxLen at hs
  by_cases h1 : s.size < p.size
  · have H := Lib.hid (under_few h1)
    go_enter Tryd.func16, Tryd.ntmps16
    go_wp2
    go_ret
    exact ⟨ret_bool H.out.symm, rfl⟩
  · by_cases h2 : s.size = p.size
    · go_enter Tryd.func16, Tryd.ntmps16
      go_wp2
      · have hx : (!(s.extract 0 p.size).toList == p.toList) = true := by assumption
        go_ret
        exact ⟨ret_bool (under_not (by omega) hx).symm, rfl⟩
      · have hx : (!(s.extract 0 p.size).toList == p.toList) = false := by assumption
        go_ret
        exact ⟨ret_bool (under_same h2 hx).symm, rfl⟩
    · by_cases h3 : p.size + 1 < s.size
      · go_enter Tryd.func16, Tryd.ntmps16
        go_wp2
        · have hx : (!(s.extract 0 p.size).toList == p.toList) = true := by assumption
          go_ret
          exact ⟨ret_bool (under_not (by omega) hx).symm, rfl⟩
        · have hx : (!(s.extract 0 p.size).toList == p.toList) = false := by assumption
          have hu := under_more h3 hx
          go_ret
          refine ⟨ret_bool ?_, rfl⟩
          rw [hu, ← byte_eq]
          simp; omega
      · go_enter Tryd.func16, Tryd.ntmps16
        go_wp2
        · have hx : (!(s.extract 0 p.size).toList == p.toList) = true := by assumption
          go_ret
          exact ⟨ret_bool (under_not (by omega) hx).symm, rfl⟩
        · have hu := under_one h1 h2 h3
          go_ret
          refine ⟨ret_bool ?_, rfl⟩
          rw [hu]
          simp; omega
theorem short_all {s : ByteArray} {most : Int} (h : (s.size : Int) ≤ most) : (⟨(Nm.short s.data.toList most).toArray⟩ : ByteArray) = s := by
  refine (bytes_ext ?_).symm
  unfold Nm.short; rw [len_list, if_pos h]
theorem short_dots {s : ByteArray} {most : Int} (h : ¬ (s.size : Int) ≤ most) (h2 : 2 < most) : (⟨(Nm.short s.data.toList most).toArray⟩ : ByteArray) = s.extract 0 (most - 2).toNat ++ ⟨#[46, 46]⟩ := by
  refine (bytes_ext ?_).symm
  unfold Nm.short; rw [len_list, if_neg h, if_neg (by omega), if_neg (by omega), ByteArray.data_append, Array.toList_append, Lib.extract_from_zero]
theorem short_none {s : ByteArray} {most : Int} (h : ¬ (s.size : Int) ≤ most) (h2 : most < 0) : (⟨(Nm.short s.data.toList most).toArray⟩ : ByteArray) = ⟨#[]⟩ := by
  unfold Nm.short; rw [len_list, if_neg h, if_pos h2]
theorem short_few {s : ByteArray} {most : Int} (h : ¬ (s.size : Int) ≤ most) (h2 : ¬ most < 0) (h3 : ¬ 2 < most) : (⟨(Nm.short s.data.toList most).toArray⟩ : ByteArray) = s.extract 0 most.toNat := by
  refine (bytes_ext ?_).symm
  unfold Nm.short; rw [len_list, if_neg h, if_neg h2, if_pos (by omega), Lib.extract_from_zero]
set_option maxHeartbeats 400000 in
theorem shorten_any (s : ByteArray) (most : Int) (w : World) (hs : s.size ≤ 1000) (h0 : -9223372036854775808 ≤ most) (h9 : most ≤ 9223372036854775807) :
    Calls Tryd.prog 17 #[.string s, .int .i64 most] w fun e w' => e = .returned (.string ⟨(Nm.short s.data.toList most).toArray⟩) ∧ w = w' := by
  by_cases h1 : (s.size : Int) ≤ most
  · have H := Lib.hid (short_all h1)
    go_enter Tryd.func17, Tryd.ntmps17
    go_wp2
    go_ret
    exact ⟨ret_str H.out.symm, rfl⟩
  · by_cases h2 : 2 < most
    · have H := Lib.hid (short_dots h1 h2)
      go_enter Tryd.func17, Tryd.ntmps17
      go_wp2
      go_ret
      exact ⟨ret_str H.out.symm, rfl⟩
    · by_cases h3 : most < 0
      · have H := Lib.hid (short_none h1 h3)
        have e : max most 0 = 0 := by omega
        have HE := Lib.hid e
        clear e
        go_enter Tryd.func17, Tryd.ntmps17
        go_wp2
        go_ret
        exact ⟨ret_str (by rw [H.out, HE.out]; exact bytes_ext (by rw [Lib.extract_from_zero]; rfl)), rfl⟩
      · have H := Lib.hid (short_few h1 h3 h2)
        have e : max most 0 = most := by omega
        have HE := Lib.hid e
        clear e
        go_enter Tryd.func17, Tryd.ntmps17
        go_wp2
        go_ret
        exact ⟨ret_str (by rw [H.out, HE.out]), rfl⟩
set_option maxHeartbeats 400000 in
theorem rshorten_any (s : ByteArray) (most : Int) (w : World) (hs : s.size ≤ 1000) (h0 : -9223372036854775808 ≤ most) (h9 : most ≤ 9223372036854775807) :
    Calls Tryd.prog 18 #[.string s, .int .i64 most] w fun e w' => e = .returned (.string ⟨(Nm.short s.data.toList most).toArray⟩) ∧ w = w' := by
  by_cases h1 : (s.size : Int) ≤ most
  · have H := Lib.hid (short_all h1)
    go_enter Tryd.func18, Tryd.ntmps18
    go_wp2
    go_ret
    exact ⟨ret_str H.out.symm, rfl⟩
  · by_cases h2 : 2 < most
    · have H := Lib.hid (short_dots h1 h2)
      go_enter Tryd.func18, Tryd.ntmps18
      go_wp2
      go_ret
      exact ⟨ret_str H.out.symm, rfl⟩
    · by_cases h3 : most < 0
      · have H := Lib.hid (short_none h1 h3)
        go_enter Tryd.func18, Tryd.ntmps18
        go_wp2
        go_ret
        exact ⟨ret_str H.out.symm, rfl⟩
      · have H := Lib.hid (short_few h1 h3 h2)
        go_enter Tryd.func18, Tryd.ntmps18
        go_wp2
        go_ret
        exact ⟨ret_str H.out.symm, rfl⟩
end Go.Proofs.YtnjhipecpdcaoaaDoor
