/- The walks of the document's own Repo and Ref. -/
import Derived.Test.YtnjhipecpdcaoaaDoorNm5
import Derived.Test.YtnjhipecpdcaoaaDoorNm4
namespace Go.Proofs.YtnjhipecpdcaoaaDoor
open Go Go.RowKit
theorem last_of {s : ByteArray} (h : 0 < s.size) : s.data.toList.getLastD 0 = s[s.size - 1]'(by omega) := by
  rw [List.getLastD_eq_getLast?, List.getLast?_eq_getElem?, len_list, List.getElem?_eq_getElem (by rw [len_list]; omega)]; rfl
theorem all_false {p : UInt8 → Bool} {s : ByteArray} {k : Nat} (h : k < s.size) (hp : p s[k] = false) : Nm.allL p s.data.toList = false := all_hit h hp
set_option maxHeartbeats 1000000 in
theorem rrepo_any (s : ByteArray) (w : World) (hs : s.size ≤ 1000) :
    Calls Tryd.prog 9 #[.string s] w fun e w' => e = .returned (.bool (Nm.repo s.data.toList)) ∧ w = w' := by
  by_cases h1 : 0 < s.size
  · by_cases h2 : s.size ≤ 12
    · have HR := Lib.hid (repo_else h1 h2)
      have CL := rletter_any s[0]
      cases hl : Nm.lettr s[0]
      · have H := Lib.hid (show Nm.repo s.data.toList = false by rw [HR.out, hl]; rfl)
        rw [hl] at CL
        clear hl HR
        go_enter Tryd.func9, Tryd.ntmps9
        go_wp2_with (go_at_call 26; refine (CL _).mono ?_; rintro e w' ⟨rfl, rfl⟩)
        go_ret
        exact ⟨ret_bool H.out.symm, rfl⟩
      · rw [hl] at CL
        have HL := Lib.hid (last_of h1)
        by_cases he : ((s[s.size - 1]'(by omega)).toNat : Int) = 45
        · have H := Lib.hid (show Nm.repo s.data.toList = false by
            rw [HR.out, HL.out, show s[s.size - 1]'(by omega) = 45 from UInt8.toNat_inj.1 (Int.ofNat_inj.1 he)]; simp)
          clear hl HR HL
          go_enter Tryd.func9, Tryd.ntmps9
          go_wp2_with (go_at_call 26; refine (CL _).mono ?_; rintro e w' ⟨rfl, rfl⟩)
          go_ret
          exact ⟨ret_bool H.out.symm, rfl⟩
        · have HR2 := Lib.hid (show Nm.repo s.data.toList = Nm.allL (Nm.plain [45]) s.data.toList by
            have hne : (s[s.size - 1]'(by omega) == 45) = false := by
              rw [beq_eq_false_iff_ne]; intro e; exact he (by rw [e]; rfl)
            rw [HR.out, HL.out, hl, hne]; simp)
          have heb : (((s[s.size - 1]'(by omega)).toNat : Int) == 45) = false := by simpa using he
          clear hl HR HL
          go_enter Tryd.func9, Tryd.ntmps9
          go_wp2_with (go_at_call 26; refine (CL _).mono ?_; rintro e w' ⟨rfl, rfl⟩)
          clear heb he CL
          go_loop [3] (fun i => ∃ k : Nat, k ≤ s.size ∧ i = .int .i64 k ∧ Hid ((s.data.toList.take k).all (Nm.plain [45]) = true)) (fun i => s.size - (intOf i).toNat)
          case atStart => exact ⟨0, Nat.zero_le _, rfl, Lib.hid rfl⟩
          case round =>
            obtain ⟨k, hk, rfl, HA⟩ := hrel
            by_cases hlt : k < s.size
            · have HT := Lib.hid (all_take (p := Nm.plain [45]) hlt)
              have C1 := rletter_any s[k]
              have C2 := rdigit_any s[k]
              have HF := Lib.hid (all_false (p := Nm.plain [45]) hlt)
              have HP := Lib.hid (Nm.plain1 s[k])
              cases hl : Nm.lettr s[k]
              · cases hf : Nm.figr s[k]
                · by_cases hc : ((s[k]).toNat : Int) = 45
                  · have HK := Lib.hid (show Hid ((s.data.toList.take (k + 1)).all (Nm.plain [45]) = true) from Lib.hid (by rw [HT.out, HA.out, HP.out, show s[k] = 45 from UInt8.toNat_inj.1 (Int.ofNat_inj.1 hc)]; rfl))
                    replace HK := HK.out
                    rw [hl] at C1
                    rw [hf] at C2
                    rw [hc] at C1 C2
                    clear hl hf
                    go_wp2_with (first | (go_at_call 26; refine (C1 _).mono ?_; rintro e w' ⟨rfl, rfl⟩) | (go_at_call 27; refine (C2 _).mono ?_; rintro e w' ⟨rfl, rfl⟩))
                    go_round
                    case rel => exact ⟨k + 1, by omega, by go_num, HK⟩
                    case measure => simp [intOf]; omega
                  · have H := Lib.hid (show Nm.allL (Nm.plain [45]) s.data.toList = false from HF.out (by
                      rw [HP.out, hl, hf, beq_eq_false_iff_ne.2 (fun e => hc (by rw [e]; rfl))]; rfl))
                    have hcb : (((s[k]).toNat : Int) == 45) = false := by simpa using hc
                    rw [hl] at C1
                    rw [hf] at C2
                    clear hl hf
                    go_wp2_with (first | (go_at_call 26; refine (C1 _).mono ?_; rintro e w' ⟨rfl, rfl⟩) | (go_at_call 27; refine (C2 _).mono ?_; rintro e w' ⟨rfl, rfl⟩))
                    go_ret
                    exact ⟨ret_bool (by rw [HR2.out, H.out]), rfl⟩
                · have HK : Hid ((s.data.toList.take (k + 1)).all (Nm.plain [45]) = true) := Lib.hid (by rw [HT.out, HA.out, HP.out, hl, hf]; rfl)
                  rw [hl] at C1
                  rw [hf] at C2
                  clear hl hf
                  go_wp2_with (first | (go_at_call 26; refine (C1 _).mono ?_; rintro e w' ⟨rfl, rfl⟩) | (go_at_call 27; refine (C2 _).mono ?_; rintro e w' ⟨rfl, rfl⟩))
                  go_round
                  case rel => exact ⟨k + 1, by omega, by go_num, HK⟩
                  case measure => simp [intOf]; omega
              · have HK : Hid ((s.data.toList.take (k + 1)).all (Nm.plain [45]) = true) := Lib.hid (by rw [HT.out, HA.out, HP.out, hl]; rfl)
                rw [hl] at C1
                clear hl
                go_wp2_with (first | (go_at_call 26; refine (C1 _).mono ?_; rintro e w' ⟨rfl, rfl⟩) | (go_at_call 27; refine (C2 _).mono ?_; rintro e w' ⟨rfl, rfl⟩))
                go_round
                case rel => exact ⟨k + 1, by omega, by go_num, HK⟩
                case measure => simp [intOf]; omega
            · have H := Lib.hid (show Nm.allL (Nm.plain [45]) s.data.toList = true by unfold Nm.allL; rw [← HA.out, List.take_of_length_le (by rw [len_list]; omega)])
              go_wp2
              go_ret
              exact ⟨ret_bool (by rw [HR2.out, H.out]), rfl⟩
    · have H := Lib.hid (repo_long (s := s) (by omega))
      go_enter Tryd.func9, Tryd.ntmps9
      go_wp2
      go_ret
      exact ⟨ret_bool H.out.symm, rfl⟩
  · have H := Lib.hid (repo_short (s := s) (by omega))
    go_enter Tryd.func9, Tryd.ntmps9
    go_wp2
    go_ret
    exact ⟨ret_bool H.out.symm, rfl⟩
/-! the reference of Ref -/
theorem bad_of {x : ByteArray} : Nm.bad x.data.toList = (!(Nm.allL (Nm.plain [45, 46]) x.data.toList) || decide (x.data.toList.count 46 = x.size)) := by
  unfold Nm.bad; rw [Nm.dots_all, len_list]
theorem count_take (x : ByteArray) (j : Nat) (h : j < x.size) : (x.data.toList.take (j + 1)).count 46 = (x.data.toList.take j).count 46 + (if x[j] = 46 then 1 else 0) := by
  rw [take_snoc x j h, List.count_append]
  by_cases e : x[j] = 46
  · rw [if_pos e, e]; rfl
  · rw [if_neg e, List.count_cons_of_ne e]; rfl
theorem count_le (l : List UInt8) (j : Nat) : (l.take j).count 46 ≤ j := Nat.le_trans List.count_le_length (List.length_take_le _ _)
def Dots (x : ByteArray) (d : Value) (j : Nat) : Prop := d = .int .i64 (((x.data.toList.take j).count 46 : Nat) : Int)
set_option maxHeartbeats 2000000 in
theorem rref_any (s : ByteArray) (w : World) (hs : s.size ≤ 1000) :
    Calls Tryd.prog 11 #[.string s] w fun e w' => e = .returned (.bool (Nm.ref s.data.toList)) ∧ Below w.heap.size w w' := by
  have CP := rparts_any s w hs
  have HZ := Lib.hid (Nm.cut_size s)
  have hl : (Nm.cut s).length ≤ s.size + 1 := by
    have := Lib.countB_le slashS (Nat.le_refl _) _ s (Nat.le_refl _)
    rw [Nm.cut_len]; show Lib.countB s slashS + 1 ≤ _; omega
  by_cases h1 : s.size ≤ 24
  · by_cases h2 : 2 ≤ (Nm.cut s).length
    · have HR := Lib.hid (ref_else h1 h2)
      generalize Nm.cut s = zs at *
      go_enter Tryd.func11, Tryd.ntmps11
      go_wp2_with fail
      refine CP.mono ?_
      rintro e w1 ⟨g, cap, rfl, hrow, hb⟩
      have HB := Lib.hid hb
      clear hb CP
      go_wp2_with fail
      go_loop [20] (fun i => ∃ k : Nat, k ≤ zs.length ∧ i = .int .i64 k ∧ Hid (NoneYet zs (fun x => Nm.bad x.data.toList) k)) (fun i => zs.length - (intOf i).toNat)
      case atStart => exact ⟨0, Nat.zero_le _, rfl, Lib.hid (fun j x hj => absurd hj (Nat.not_lt_zero _))⟩
      case round =>
        obtain ⟨k, hk, rfl, HN⟩ := hrel
        by_cases hlt : k < zs.length
        · have hcell := idx_row hrow hlt
          have hsz := HZ.out zs[k] (List.getElem_mem hlt)
          have HX := Lib.hid (show zs[k]? = some zs[k] by simp [hlt])
          generalize zs[k] = x at hcell hsz HX
          have HFail := Lib.hid (fun h : Nm.bad x.data.toList = true => (show Nm.ref s.data.toList = false by rw [HR.out, any_at HX.out h]; rfl))
          go_wp2_with fail
          go_loop [6, 7] (fun d i => ∃ j : Nat, j ≤ x.size ∧ Hid (Dots x d j) ∧ i = .int .i64 j ∧ Hid ((x.data.toList.take j).all (Nm.plain [45, 46]) = true)) (fun _ i => x.size - (intOf i).toNat)
          case atStart => exact ⟨0, Nat.zero_le _, Lib.hid rfl, rfl, Lib.hid rfl⟩
          case round =>
            obtain ⟨j, hj, HD, rfl, HA⟩ := hrel
            have hd := HD.out
            unfold Dots at hd
            subst hd
            have hcl := count_le x.data.toList j
            by_cases hjl : j < x.size
            · have HT := Lib.hid (all_take (p := Nm.plain [45, 46]) hjl)
              have HC := Lib.hid (count_take x j hjl)
              have HF := Lib.hid (all_false (p := Nm.plain [45, 46]) hjl)
              have HP := Lib.hid (Nm.plain2 x[j])
              by_cases hdot : (x[j].toNat : Int) = 46
              · have HE := Lib.hid (show x[j] = 46 from UInt8.toNat_inj.1 (Int.ofNat_inj.1 hdot))
                have HK : Hid ((x.data.toList.take (j + 1)).all (Nm.plain [45, 46]) = true) := Lib.hid (by rw [HT.out, HA.out, HP.out, HE.out]; rfl)
                have HD2 : Hid (Dots x (.int .i64 (((x.data.toList.take j).count 46 : Nat) + 1)) (j + 1)) := Lib.hid (by unfold Dots; rw [HC.out, if_pos HE.out]; rfl)
                clear HD
                generalize (x.data.toList.take j).count 46 = n at *
                go_wp2
                go_round
                case rel => exact ⟨j + 1, by omega, HD2, by go_num, HK⟩
                case measure => simp [intOf]; omega
              · have HD2 : Hid (Dots x (.int .i64 ((x.data.toList.take j).count 46 : Nat)) (j + 1)) := Lib.hid (by unfold Dots; rw [HC.out, if_neg (fun e => hdot (by rw [e]; rfl))]; rfl)
                have hdb : ((x[j].toNat : Int) == 46) = false := by simpa using hdot
                have HNE := Lib.hid (show (x[j] == 46) = false from beq_eq_false_iff_ne.2 (fun e => hdot (by rw [e]; rfl)))
                clear HD
                generalize (x.data.toList.take j).count 46 = n at *
                have C1 := rletter_any x[j]
                have C2 := rdigit_any x[j]
                cases hl1 : Nm.lettr x[j]
                · cases hf1 : Nm.figr x[j]
                  · by_cases hc : (x[j].toNat : Int) = 45
                    · have HK : Hid ((x.data.toList.take (j + 1)).all (Nm.plain [45, 46]) = true) := Lib.hid (by rw [HT.out, HA.out, HP.out, show x[j] = 45 from UInt8.toNat_inj.1 (Int.ofNat_inj.1 hc)]; rfl)
                      rw [hl1] at C1
                      rw [hf1] at C2
                      rw [hc] at C1 C2
                      clear hl1 hf1 hdot hdb
                      go_wp2_with (first | (go_at_call 26; refine (C1 _).mono ?_; rintro e w' ⟨rfl, rfl⟩) | (go_at_call 27; refine (C2 _).mono ?_; rintro e w' ⟨rfl, rfl⟩))
                      go_round
                      case rel => exact ⟨j + 1, by omega, HD2, by go_num, HK⟩
                      case measure => simp [intOf]; omega
                    · have H := Lib.hid (HFail.out (by
                        rw [bad_of, HF.out (by rw [HP.out, hl1, hf1, HNE.out, beq_eq_false_iff_ne.2 (fun e => hc (by rw [e]; rfl))]; rfl)]; rfl))
                      have hcb : ((x[j].toNat : Int) == 45) = false := by simpa using hc
                      rw [hl1] at C1
                      rw [hf1] at C2
                      clear hl1 hf1
                      go_wp2_with (first | (go_at_call 26; refine (C1 _).mono ?_; rintro e w' ⟨rfl, rfl⟩) | (go_at_call 27; refine (C2 _).mono ?_; rintro e w' ⟨rfl, rfl⟩))
                      go_ret
                      exact ⟨ret_bool H.out.symm, HB.out⟩
                  · have HK : Hid ((x.data.toList.take (j + 1)).all (Nm.plain [45, 46]) = true) := Lib.hid (by rw [HT.out, HA.out, HP.out, hl1, hf1]; rfl)
                    rw [hl1] at C1
                    rw [hf1] at C2
                    clear hl1 hf1
                    go_wp2_with (first | (go_at_call 26; refine (C1 _).mono ?_; rintro e w' ⟨rfl, rfl⟩) | (go_at_call 27; refine (C2 _).mono ?_; rintro e w' ⟨rfl, rfl⟩))
                    go_round
                    case rel => exact ⟨j + 1, by omega, HD2, by go_num, HK⟩
                    case measure => simp [intOf]; omega
                · have HK : Hid ((x.data.toList.take (j + 1)).all (Nm.plain [45, 46]) = true) := Lib.hid (by rw [HT.out, HA.out, HP.out, hl1]; rfl)
                  rw [hl1] at C1
                  clear hl1
                  go_wp2_with (first | (go_at_call 26; refine (C1 _).mono ?_; rintro e w' ⟨rfl, rfl⟩) | (go_at_call 27; refine (C2 _).mono ?_; rintro e w' ⟨rfl, rfl⟩))
                  go_round
                  case rel => exact ⟨j + 1, by omega, HD2, by go_num, HK⟩
                  case measure => simp [intOf]; omega
            · have e : x.data.toList.take j = x.data.toList := List.take_of_length_le (by rw [len_list]; omega)
              rw [e] at HA hcl ⊢
              clear e HD
              have HAll := Lib.hid (show Nm.allL (Nm.plain [45, 46]) x.data.toList = true from HA.out)
              by_cases hq : x.data.toList.count 46 = x.size
              · have H := Lib.hid (HFail.out (by rw [bad_of, decide_eq_true hq, Bool.or_true]))
                generalize x.data.toList.count 46 = n at *
                subst hq
                go_wp2
                go_ret
                exact ⟨ret_bool H.out.symm, HB.out⟩
              · have HK : Hid (NoneYet zs (fun x => Nm.bad x.data.toList) (k + 1)) := Lib.hid (fun i y hi hy => by
                  rcases Nat.lt_succ_iff_lt_or_eq.1 hi with h | rfl
                  · exact HN.out i y h hy
                  · rw [HX.out] at hy; obtain rfl := Option.some.inj hy
                    show Nm.bad _ = false
                    rw [bad_of, HAll.out, decide_eq_false hq]; rfl)
                generalize x.data.toList.count 46 = n at *
                go_wp2
                go_round
                case rel => exact ⟨k + 1, by omega, by go_num, HK⟩
                case measure => simp [intOf]; omega
        · have H := Lib.hid (show Nm.ref s.data.toList = true by rw [HR.out, any_none HN.out (by omega)]; rfl)
          go_wp2
          go_ret
          exact ⟨ret_bool H.out.symm, HB.out⟩
    · have H := Lib.hid (ref_few h2)
      generalize Nm.cut s = zs at *
      go_enter Tryd.func11, Tryd.ntmps11
      go_wp2_with fail
      refine CP.mono ?_
      rintro e w1 ⟨g, cap, rfl, hrow, hb⟩
      have HB := Lib.hid hb
      clear hb CP
      go_wp2_with fail
      go_ret
      exact ⟨ret_bool H.out.symm, HB.out⟩
  · have H := Lib.hid (ref_long h1)
    generalize Nm.cut s = zs at *
    go_enter Tryd.func11, Tryd.ntmps11
    go_wp2_with fail
    refine CP.mono ?_
    rintro e w1 ⟨g, cap, rfl, hrow, hb⟩
    have HB := Lib.hid hb
    clear hb CP
    go_wp2_with fail
    go_ret
    exact ⟨ret_bool H.out.symm, HB.out⟩
end Go.Proofs.YtnjhipecpdcaoaaDoor
