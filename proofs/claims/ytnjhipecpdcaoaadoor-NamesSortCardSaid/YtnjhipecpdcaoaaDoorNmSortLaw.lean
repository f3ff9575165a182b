/- Proved here: for every list of texts: Sort tells them rising, each once, all that are there and no other, and leaves the list that it was given as it was: NamesSort answers true. No condition. -/
import Derived.Test.YtnjhipecpdcaoaaDoorNmKit
import Derived.Test.YtnjhipecpdcaoaaDoorNmSort2
namespace Go.Proofs.YtnjhipecpdcaoaaDoor.lawSort
open Go Go.RowKit Go.WideShapes Go.ChangeShapes Go.ChangeAt
theorem mk_list (l : List UInt8) : (⟨l.toArray⟩ : ByteArray).toList = l := by rw [ByteArray.toList_eq]
theorem once_len (zs : List ByteArray) : ((Nm.once (lists zs)).map fun l => (⟨l.toArray⟩ : ByteArray)).length ≤ zs.length := by
  rw [List.length_map, ← lists_len zs]; exact Nm.once_len _
theorem has_of {zs : List ByteArray} {s z : ByteArray} (hz : z ∈ zs) (h : z.toList = s.toList) : hasB zs s = true :=
  List.any_eq_true.2 ⟨z, hz, by rw [h]; simp⟩
theorem once_in (zs : List ByteArray) : ∀ x ∈ (Nm.once (lists zs)).map (fun l => (⟨l.toArray⟩ : ByteArray)), hasB zs x = true := by
  intro x hx
  obtain ⟨l, hl, rfl⟩ := List.mem_map.1 hx
  have := (Nm.once_mem _ _).1 hl
  obtain ⟨z, hz, rfl⟩ := List.mem_map.1 this
  exact has_of hz (by rw [mk_list])
theorem once_out (zs : List ByteArray) : ∀ x ∈ zs, hasB ((Nm.once (lists zs)).map fun l => (⟨l.toArray⟩ : ByteArray)) x = true := by
  intro x hx
  have h : x.data.toList ∈ Nm.once (lists zs) := (Nm.once_mem _ _).2 (List.mem_map.2 ⟨x, hx, rfl⟩)
  exact has_of (List.mem_map.2 ⟨_, h, rfl⟩) (by rw [mk_list])
theorem once_rise (zs : List ByteArray) : ∀ i x y, ((Nm.once (lists zs)).map fun l => (⟨l.toArray⟩ : ByteArray))[i]? = some x → ((Nm.once (lists zs)).map fun l => (⟨l.toArray⟩ : ByteArray))[i + 1]? = some y → Op.bytesLess x.toList y.toList = true := by
  intro i x y hx hy
  rw [List.getElem?_map] at hx hy
  cases h1 : (Nm.once (lists zs))[i]? with
  | none => rw [h1] at hx; cases hx
  | some a =>
    cases h2 : (Nm.once (lists zs))[i + 1]? with
    | none => rw [h2] at hy; cases hy
    | some b =>
      rw [h1] at hx
      rw [h2] at hy
      cases hx
      cases hy
      rw [mk_list, mk_list, bytesLess_eq]
      obtain ⟨p1, rfl⟩ := List.getElem?_eq_some_iff.1 h1
      obtain ⟨p2, rfl⟩ := List.getElem?_eq_some_iff.1 h2
      exact decide_eq_true (Nm.once_rise _ p2)
theorem owns_reads {base : Nat} {w : World} {v : Value} {zs : List ByteArray} (h : w.ownsRow base 9 1 v zs.length (zs.map Value.string)) : Reads w.heap.size w v zs := by
  rcases h.2 with ⟨rfl, h0⟩ | ⟨g, cap, cur, rfl, hb, hg, r1, r2, r3, r4⟩
  · exact .inl ⟨none, 0, by rw [← h0], List.eq_nil_of_length_eq_zero h0⟩
  · refine .inr ⟨g, 0, cap, rfl, (Array.getElem?_eq_some_iff.1 hg).1, fun j x hx => ?_⟩
    have hj := (List.getElem?_eq_some_iff.1 hx).1
    rw [Nat.zero_add, h.cellAt j (by omega), List.getElem?_map, hx]; rfl
theorem form_cells {n₀ : Nat} {W : World} {A : Option Addr} {c : Nat} {zs : List ByteArray} (h : Reads n₀ W (.slice A zs.length c) zs) (h0 : 0 < zs.length) :
    ∃ b off, A = some ⟨b, off, none⟩ ∧ ∀ j x, zs[j]? = some x → W.cell? ⟨b, off + j, none⟩ = some (.string x) := by
  obtain ⟨A', c', e, hA⟩ := reads_form h
  cases e
  exact hA h0
set_option maxHeartbeats 2000000 in
theorem law_some (a : Addr) (c : Nat) (zs : List ByteArray) (w : World) (hM : MaxAt w) (hI : Reads w.heap.size w (.slice (some a) zs.length c) zs) (hsz : ∀ x ∈ zs, x.size ≤ 9223372036854775807) (hlen : zs.length ≤ 9223372036854775807)
    (hcs : ∀ j x, zs[j]? = some x → w.cell? (a.add j) = some (.string x)) :
    Calls Tryd.prog 5 #[.slice (some a) zs.length c] w fun e w' => e = .returned (.bool true) ∧ Below w.heap.size w w' := by
  have CA := alive_any w hM
  have HV := Lib.hid hI
  have HCs := Lib.hid hcs
  have HSz := Lib.hid hsz
  clear hI hcs hsz
  obtain ⟨i0, hi0, hiz, his, hib⟩ := info_parts str_info
  go_enter Tryd.func5, Tryd.ntmps5
  go_wp2_with fail
  refine CA.mono ?_
  rintro e w1 ⟨rfl, hb1⟩
  have HB1 := Lib.hid hb1
  clear hb1 CA
  go_wp2_with fail
  refine (long_any _ zs w.heap.size w1 (HV.out.below HB1.out) hlen HSz.out).mono ?_
  rintro e w' ⟨b, rfl, rfl⟩
  cases b
  · by_cases h40 : zs.length ≤ 40
    · have hB2 : Below w.heap.size w (w1.alloc (.cells #[] 9)) := HB1.out.alloc HB1.out.size _
      have HB2 := Lib.hid hB2
      clear hB2
      have hown : (w1.alloc (.cells #[] 9)).ownsRow w.heap.size 9 1 (.slice (some ⟨w1.heap.size, 0, none⟩) 0 0) 0 [] :=
        ⟨rfl, Or.inr ⟨w1.heap.size, 0, #[], rfl, HB1.out.size, heap_alloc_new w1 _, Nat.le_refl _, by decide, rfl, rfl⟩⟩
      have HOwn := Lib.hid hown
      clear hown
      have HCc := Lib.hid (fun j x hx => cell_later HB2.out (HCs.out j x hx))
      go_wp2_with (at_builtin; go_loud (refine wpList_append_own _ rfl (.tmp 18) (.tmp 19) 25 rfl w.heap.size 9 i0 (.string ⟨#[]⟩) 1 16 Tryd.underlying25 hi0 hiz his hib rfl (by decide) _ 0 _ rfl HOwn.out a zs.length c (zs.map Value.string) rfl (by simp) ?c1 ?c2 ?c3 ?c4 ?c5 ?_))
      case c1 =>
        intro j u hj
        rw [List.getElem?_map] at hj
        cases hx : zs[j]? with
        | none => rw [hx] at hj; cases hj
        | some x => rw [hx] at hj; cases hj; exact HCc.out j x hx
      case c2 => intro u hu; obtain ⟨x, _, rfl⟩ := List.mem_map.1 hu; rfl
      case c3 => unfold maxLen; omega
      case c4 => omega
      case c5 => exact HB2.out.size
      intro v1 w3 hown1 hgrow1 _
      have HB3 := Lib.hid (HB2.out.grown hgrow1 HB2.out.size (fun j e => by cases e; exact HB1.out.size))
      have HR3 := Lib.hid (owns_reads hown1)
      clear hown1 hgrow1 HOwn HCc
      obtain ⟨A1, c1, rfl, hA1⟩ := reads_form HR3.out
      have HA1 := Lib.hid hA1
      clear hA1
      go_wp2_with fail
      refine (nsort_any zs (by omega) _ w3 HR3.out).mono ?_
      rintro e w4 ⟨v2, rfl, hr2, hb4⟩
      have HB34 := Lib.hid hb4
      have HB4 := Lib.hid (HB3.out.trans (hb4.mono HB3.out.size))
      clear hb4
      have HL2 := Lib.hid (once_len zs)
      have HIn := Lib.hid (once_in zs)
      have HOut := Lib.hid (once_out zs)
      have HRise := Lib.hid (once_rise zs)
      generalize ((Nm.once (lists zs)).map fun l => (⟨l.toArray⟩ : ByteArray)) = ls at *
      have HR4 := Lib.hid hr2
      obtain ⟨A2, c2, rfl, hA2⟩ := reads_form hr2
      have HA2 := Lib.hid hA2
      clear hA2 hr2
      have HV4 := Lib.hid (HV.out.below HB4.out)
      have HVc := Lib.hid (fun (h : 0 < zs.length) => form_cells HV4.out h)
      have hls : ls.length ≤ 1000000 := Nat.le_trans HL2.out (by omega)
      go_wp2_with fail
      go_loop [25] (fun i => ∃ k : Nat, k ≤ ls.length ∧ i = .int .i64 k) (fun i => ls.length - (intOf i).toNat)
      case atStart => exact ⟨0, Nat.zero_le _, rfl⟩
      case round =>
        obtain ⟨k, hk, rfl⟩ := hrel
        by_cases hlt : k < ls.length
        · obtain ⟨b2, o2, rfl, hc2⟩ := HA2.out (by omega)
          have hcell := hc2 k ls[k] (by simp [hlt])
          have CH := has_any _ zs ls[k] w.heap.size w4 HV4.out (by omega) true (HIn.out ls[k] (List.getElem_mem hlt))
          by_cases h0 : k = 0
          · subst h0
            rw [Nat.add_zero] at hcell
            generalize ls[0] = x at hcell CH
            clear hc2
            go_wp2_with (go_at_call 21; refine CH.mono ?_; rintro e w' ⟨rfl, rfl⟩)
            go_round
            case rel => exact ⟨1, by omega, rfl⟩
            case measure => simp [intOf]; omega
          · have hk1 : k - 1 < ls.length := by omega
            have hcell1 := hc2 (k - 1) ls[k - 1] (by simp [hk1])
            have hlss := HRise.out (k - 1) ls[k - 1] ls[k] (by simp [hk1]) (by rw [show k - 1 + 1 = k by omega]; simp [hlt])
            generalize ls[k] = x at hcell CH hlss
            generalize ls[k - 1] = y at hcell1 hlss
            clear hc2
            have e1 : 1 ≤ ((k : Nat) : Int) := by omega
            have h0' : 0 < k := by omega
            go_wp2_with (go_at_call 21; refine CH.mono ?_; rintro e w' ⟨rfl, rfl⟩)
            go_round
            case rel => exact ⟨k + 1, by omega, by go_num⟩
            case measure => simp [intOf]; omega
        · clear HRise HIn
          go_wp2_with fail
          go_loop [50] (fun i => ∃ k : Nat, k ≤ zs.length ∧ i = .int .i64 k) (fun i => zs.length - (intOf i).toNat)
          case atStart => exact ⟨0, Nat.zero_le _, rfl⟩
          case round =>
            obtain ⟨j, hj, rfl⟩ := hrel
            by_cases hjl : j < zs.length
            · obtain ⟨b0, o0, e0, hc0⟩ := HVc.out (by omega)
              obtain ⟨b1, o1, rfl, hc1⟩ := HA1.out (by omega)
              have hx : zs[j]? = some zs[j] := by simp [hjl]
              have q0 := hc0 j _ hx
              have q1 := hc1 j _ hx
              have CH := has_any _ ls zs[j] w4.heap.size w4 HR4.out (by omega) true (HOut.out zs[j] (List.getElem_mem hjl))
              have q1' := (HB34.out.cell (p := ⟨b1, o1 + j, none⟩) (block_lt_of_cell q1)).trans q1
              clear hc0 hc1 hx q1
              generalize zs[j] = x at q0 q1' CH
              cases e0
              go_wp2_with (go_at_call 21; refine CH.mono ?_; rintro e w' ⟨rfl, rfl⟩)
              go_round
              case rel => exact ⟨j + 1, by omega, by go_num⟩
              case measure => simp [intOf]; omega
            · go_wp2_with fail
              go_ret
              exact ⟨rfl, HB4.out⟩
    · go_wp2_with fail
      go_ret
      exact ⟨rfl, HB1.out⟩
  · go_wp2_with fail
    go_ret
    exact ⟨rfl, HB1.out⟩
theorem once_nil : ((Nm.once (lists [])).map fun l => (⟨l.toArray⟩ : ByteArray)) = [] := List.eq_nil_of_length_eq_zero (Nat.le_zero.1 (once_len []))
set_option maxHeartbeats 1000000 in
theorem law_nil (w : World) (hM : MaxAt w) :
    Calls Tryd.prog 5 #[.slice none 0 0] w fun e w' => e = .returned (.bool true) ∧ Below w.heap.size w w' := by
  have CA := alive_any w hM
  obtain ⟨i0, hi0, hiz, his, hib⟩ := info_parts str_info
  go_enter Tryd.func5, Tryd.ntmps5
  go_wp2_with fail
  refine CA.mono ?_
  rintro e w1 ⟨rfl, hb1⟩
  have HB1 := Lib.hid hb1
  clear hb1 CA
  go_wp2_with fail
  refine (long_any (.slice none 0 0) [] w.heap.size w1 (.inl ⟨none, 0, rfl, rfl⟩) (by decide) (fun x hx => by cases hx)).mono ?_
  rintro e w' ⟨b, rfl, rfl⟩
  cases b
  · have hB2 : Below w.heap.size w (w1.alloc (.cells #[] 9)) := HB1.out.alloc HB1.out.size _
    have HB2 := Lib.hid hB2
    clear hB2
    have hown : (w1.alloc (.cells #[] 9)).ownsRow w.heap.size 9 1 (.slice (some ⟨w1.heap.size, 0, none⟩) 0 0) 0 [] :=
      ⟨rfl, Or.inr ⟨w1.heap.size, 0, #[], rfl, HB1.out.size, heap_alloc_new w1 _, Nat.le_refl _, by decide, rfl, rfl⟩⟩
    have HOwn := Lib.hid hown
    clear hown
    go_wp2_with (at_builtin; go_loud (refine wpList_append_own_none rfl (.tmp 18) (.tmp 19) 25 rfl w.heap.size 9 i0 1 Tryd.underlying25 hi0 _ 0 _ rfl HOwn.out rfl ?_))
    have CS := nsort_any [] (by decide) (.slice (some ⟨w1.heap.size, 0, none⟩) 0 0) (w1.alloc (.cells #[] 9)) (.inl ⟨_, 0, rfl, rfl⟩)
    go_wp2_with fail
    refine CS.mono ?_
    rintro e w4 ⟨v2, rfl, hr2, hb4⟩
    have HB4 := Lib.hid (HB2.out.trans (hb4.mono HB2.out.size))
    clear hb4
    rw [once_nil] at hr2
    obtain ⟨A2, c2, rfl, _⟩ := reads_form hr2
    clear hr2
    go_wp2_with fail
    go_loop [25] (fun i => i = .int .i64 0) (fun _ => 0)
    case atStart => rfl
    case round =>
      obtain rfl := hrel
      go_wp2_with fail
      go_loop [50] (fun i => i = .int .i64 0) (fun _ => 0)
      case atStart => rfl
      case round =>
        obtain rfl := hrel
        go_wp2_with fail
        go_ret
        exact ⟨rfl, HB4.out⟩
  · go_wp2_with fail
    go_ret
    exact ⟨rfl, HB1.out⟩
end Go.Proofs.YtnjhipecpdcaoaaDoor.lawSort
