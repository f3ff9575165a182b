/- Proved here: for every text: its parts with / between are the text, a ref is below each of its beginnings of whole parts, no ref is a repository's name, and a text shortened to 9 bytes has no more: NamesJoin answers true. No condition. -/
import Derived.Test.YtnjhipecpdcaoaaDoorNmKit
import Derived.Test.YtnjhipecpdcaoaaDoorNm6
import Derived.Test.YtnjhipecpdcaoaaDoorNmJoinM
namespace Go.Proofs.YtnjhipecpdcaoaaDoor.lawJoin
open Go Go.RowKit Go.WideShapes Go.ChangeShapes Go.ChangeAt
theorem cut_le (s : ByteArray) : (Nm.cut s).length ≤ s.size + 1 := by
  have := Lib.countB_le slashS (Nat.le_refl _) _ s (Nat.le_refl _)
  rw [Nm.cut_len]; show Lib.countB s slashS + 1 ≤ _; omega
theorem cut_get {s : ByteArray} {k : Nat} (h : k < (Nm.cut s).length) : (Nm.parts s.data.toList)[k]? = some ((Nm.cut s)[k]).data.toList := by
  rw [← Nm.cut_parts, List.getElem?_map, List.getElem?_eq_getElem h]; rfl
/-- What has been joined so far. -/
def Joined (ps : List (List UInt8)) (k : Nat) (v : Value) : Prop := ∃ o : ByteArray, v = .string o ∧ o.data.toList = Nm.jn (ps.take k)
theorem joined_size {l : List UInt8} {o : ByteArray} {k : Nat} (h : o.data.toList = Nm.jn ((Nm.parts l).take k)) : o.size ≤ l.length := by
  have e := Nm.jn_len (ps := Nm.parts l) k
  rw [Nm.jn_parts, ← h, len_list] at e
  exact e
theorem app_list (a b : ByteArray) : (a ++ b).data.toList = a.data.toList ++ b.data.toList := by rw [ByteArray.data_append, Array.toList_append]
set_option maxHeartbeats 1000000 in
theorem law_any (s : ByteArray) (w : World) (hM : MaxAt w) (hs : s.size ≤ 9223372036854775807) :
    Calls Tryd.prog 6 #[.string s] w fun e w' => e = .returned (.bool true) ∧ Below w.heap.size w w' := by
  have CA := alive_any w hM
  by_cases h1 : s.size ≤ 200
  · go_enter Tryd.func6, Tryd.ntmps6
    go_wp2_with fail
    refine CA.mono ?_
    rintro e w1 ⟨rfl, hb1⟩
    have HB1 := Lib.hid hb1
    clear hb1 CA
    have HR1 := Lib.hid (row_new w1 (Nm.cut s) 9)
    have HA1 := Lib.hid ((Below.refl w1.heap.size w1).alloc (Nat.le_refl _) (.cells ((Nm.cut s).map Value.string).toArray 9))
    have hcl := cut_le s
    go_wp2_with fail
    refine (parts_any s w1 (hM.below HB1.out (Nat.le_refl _)) (by omega)).mono ?_
    rintro e w2 ⟨rfl, hw2⟩
    rw [hw2] at HR1 HA1
    clear hw2
    have HB2 := Lib.hid (HB1.out.trans (HA1.out.mono HB1.out.size))
    clear HA1 HB1
    have HGet := Lib.hid (fun k (h : k < (Nm.cut s).length) => cut_get h)
    have HLen := Lib.hid (show (Nm.parts s.data.toList).length = (Nm.cut s).length by rw [Nm.parts_len, Nm.cut_len])
    have HSz := Lib.hid (Nm.cut_size s)
    have HJn := Lib.hid (Nm.jn_parts s.data.toList)
    have HJl := Lib.hid (fun (o : ByteArray) k (h : o.data.toList = Nm.jn ((Nm.parts s.data.toList).take k)) => joined_size h)
    generalize Nm.cut s = zs at *
    go_wp2_with fail
    go_loopw [3, 14] (fun v i wr => ∃ k : Nat, k ≤ zs.length ∧ i = .int .i64 k ∧ Hid (Joined (Nm.parts s.data.toList) k v) ∧ Hid (Below w.heap.size w wr) ∧ Hid (Below w2.heap.size w2 wr)) (fun _ i _ => zs.length - (intOf i).toNat)
    case atStart => exact ⟨0, Nat.zero_le _, rfl, Lib.hid ⟨⟨#[]⟩, rfl, rfl⟩, HB2, Lib.hid (Below.refl _ _)⟩
    case round =>
      obtain ⟨k, hk, rfl, HO, HB, HW⟩ := hrel
      obtain ⟨o, ho1, ho⟩ := HO.out
      subst ho1
      have hol := HJl.out o k ho
      rw [len_list] at hol
      clear HO
      have HOo := Lib.hid ho
      clear ho
      by_cases hlt : k < zs.length
      · have hcell := idx_row (HR1.out.below HW.out) hlt
        have hx := HSz.out zs[k] (List.getElem_mem hlt)
        have HX := Lib.hid (Nm.jn_take_succ (HGet.out k hlt))
        have HU := Lib.hid (fun h : Nm.ref s.data.toList = true => Nm.under_jn h (k := k) (by rw [HLen.out]; exact hlt))
        generalize zs[k] = x at hcell hx HX
        have CR := ref_any s wr (hM.below HB.out (Nat.le_refl _))
        by_cases h0 : k = 0
        · have HO1 : Hid ((o ++ x).data.toList = Nm.jn ((Nm.parts s.data.toList).take (k + 1))) := Lib.hid (by
            rw [HX.out, if_pos h0, app_list, HOo.out, h0]; rfl)
          have hol1 := HJl.out _ _ HO1.out
          rw [len_list] at hol1
          have hol2 : o.size + x.size ≤ s.size := by rw [ByteArray.size_append] at hol1; exact hol1
          have W1 : ∀ w', (Op.stringOp .add o x).run Tryd.prog w' = .ok (.string (o ++ x)) w' := fun w' => run_string_add_sum w' _ _ (by omega)
          obtain rfl := h0
          generalize o ++ x = o1 at HO1 hol1 W1
          have CU := fun w => under_any s o1 w (by unfold maxLen; omega) (by unfold maxLen; omega)
          rw [HO1.out] at CU
          cases hr : Nm.ref s.data.toList
          · rw [hr] at CR
            clear hr HU
            go_wp2_with (go_at_call 10; refine CR.mono ?_; rintro e w' ⟨rfl, hb⟩; have HB' := Lib.hid (HB.out.trans (hb.mono HB.out.size)); have HW' := Lib.hid (HW.out.trans (hb.mono HW.out.size)); clear hb)
            go_roundw
            case rel => exact ⟨1, by omega, rfl, Lib.hid ⟨o1, rfl, HO1.out⟩, HB', HW'⟩
            case measure => simp [intOf]; omega
          · rw [hr] at CR
            rw [HU.out hr] at CU
            clear hr HU
            go_wp2_with (first
              | (go_at_call 10; refine CR.mono ?_; rintro e w' ⟨rfl, hb⟩; have HB' := Lib.hid (HB.out.trans (hb.mono HB.out.size)); have HW' := Lib.hid (HW.out.trans (hb.mono HW.out.size)); clear hb)
              | (go_at_call 15; refine (CU _).mono ?_; rintro e w'' ⟨rfl, rfl⟩))
            go_roundw
            case rel => exact ⟨1, by omega, rfl, Lib.hid ⟨o1, rfl, HO1.out⟩, HB', HW'⟩
            case measure => simp [intOf]; omega
        · have HO1 : Hid ((o ++ slashS ++ x).data.toList = Nm.jn ((Nm.parts s.data.toList).take (k + 1))) := Lib.hid (by
            rw [HX.out, if_neg h0, app_list, app_list, HOo.out])
          have hol1 := HJl.out _ _ HO1.out
          rw [len_list] at hol1
          have hs1 : slashS.size = 1 := rfl
          have hol2 : o.size + 1 + x.size ≤ s.size := by rw [ByteArray.size_append, ByteArray.size_append] at hol1; omega
          have W1 : ∀ w', (Op.stringOp .add o slashS).run Tryd.prog w' = .ok (.string (o ++ slashS)) w' := fun w' => run_string_add_sum w' _ _ (by omega)
          have W2 : ∀ w', (Op.stringOp .add (o ++ slashS) x).run Tryd.prog w' = .ok (.string (o ++ slashS ++ x)) w' := fun w' => run_string_add_sum w' _ _ (by rw [ByteArray.size_append]; omega)
          clear hs1
          generalize o ++ slashS ++ x = o1 at HO1 hol1 W2
          generalize o ++ slashS = o2 at W1 W2
          have hk1 : 0 < k := by omega
          have CU := fun w => under_any s o1 w (by unfold maxLen; omega) (by unfold maxLen; omega)
          rw [HO1.out] at CU
          cases hr : Nm.ref s.data.toList
          · rw [hr] at CR
            clear hr HU
            go_wp2_with (go_at_call 10; refine CR.mono ?_; rintro e w' ⟨rfl, hb⟩; have HB' := Lib.hid (HB.out.trans (hb.mono HB.out.size)); have HW' := Lib.hid (HW.out.trans (hb.mono HW.out.size)); clear hb)
            go_roundw
            case rel => exact ⟨k + 1, by omega, by go_num, Lib.hid ⟨o1, rfl, HO1.out⟩, HB', HW'⟩
            case measure => simp [intOf]; omega
          · rw [hr] at CR
            rw [HU.out hr] at CU
            clear hr HU
            go_wp2_with (first
              | (go_at_call 10; refine CR.mono ?_; rintro e w' ⟨rfl, hb⟩; have HB' := Lib.hid (HB.out.trans (hb.mono HB.out.size)); have HW' := Lib.hid (HW.out.trans (hb.mono HW.out.size)); clear hb)
              | (go_at_call 15; refine (CU _).mono ?_; rintro e w'' ⟨rfl, rfl⟩))
            go_roundw
            case rel => exact ⟨k + 1, by omega, by go_num, Lib.hid ⟨o1, rfl, HO1.out⟩, HB', HW'⟩
            case measure => simp [intOf]; omega
      · have e : o = s := by
          have h := HOo.out
          rw [List.take_of_length_le (by rw [HLen.out]; omega), HJn.out] at h
          exact ByteArray.ext (Array.ext' h)
        subst e
        have CR := ref_any o wr (hM.below HB.out (Nat.le_refl _))
        have HS9 := Lib.hid (Nm.short_nine o.data.toList)
        have CS := fun w => shorten_any o 9 w (by omega) (by omega) (by omega)
        have h9 : (⟨(Nm.short o.data.toList 9).toArray⟩ : ByteArray).size ≤ 9 := by
          have := HS9.out; simpa [ByteArray.size] using this
        generalize (⟨(Nm.short o.data.toList 9).toArray⟩ : ByteArray) = t9 at CS h9
        cases hr : Nm.ref o.data.toList
        · rw [hr] at CR
          clear hr
          go_wp2_with (first
            | (go_at_call 10; refine CR.mono ?_; rintro e w' ⟨rfl, hb⟩; have HB' := Lib.hid (HB.out.trans (hb.mono HB.out.size)); clear hb)
            | (go_at_call 17; refine (CS _).mono ?_; rintro e w'' ⟨rfl, rfl⟩))
          go_ret
          exact ⟨ret_bool (decide_eq_true (by omega)), HB'.out⟩
        · rw [hr] at CR
          have CP := fun w => repo_any o w (by unfold maxLen; omega)
          rw [Nm.not_both hr] at CP
          clear hr
          go_wp2_with (first
            | (go_at_call 10; refine CR.mono ?_; rintro e w' ⟨rfl, hb⟩; have HB' := Lib.hid (HB.out.trans (hb.mono HB.out.size)); clear hb)
            | (go_at_call 8; refine (CP _).mono ?_; rintro e w3 ⟨rfl, hb3⟩; have HB3 := Lib.hid (HB'.out.trans (hb3.mono HB'.out.size)); clear hb3)
            | (go_at_call 17; refine (CS _).mono ?_; rintro e w'' ⟨rfl, rfl⟩))
          go_ret
          exact ⟨ret_bool (decide_eq_true (by omega)), HB3.out⟩
  · go_enter Tryd.func6, Tryd.ntmps6
    go_wp2_with fail
    refine CA.mono ?_
    rintro e w1 ⟨rfl, hb1⟩
    have HB := Lib.hid hb1
    clear hb1 CA
    go_wp2_with fail
    go_ret
    exact ⟨rfl, HB.out⟩
set_option maxRecDepth 100000 in
theorem contract (H : Type) (enc : TypeId × Value → H) (W : World) (base : Nat) (args : Array Value) (ds gs : List (DataW H)) (before : List MemPlace)
    (hval : ∀ (j : Nat) t v, Tryd.f6.params[j]? = some t → args[j]? = some v → Value.okWide Tryd.prog W .any base t v)
    (hW : DataW.Whole enc Tryd.prog Tryd.f6.params.toList Rows.namesJoinSpec.vars false W args.toList ds gs before) (hsh : W.ShapedOpen Tryd.prog) :
    Calls Tryd.prog 6 args W fun e W' => ∃ v, e = .returned v ∧ Rows.namesJoinSpec.post enc Tryd.prog Tryd.f6 false true false false W args v W' := by
  have hW0 := hW
  obtain ⟨p, q, hA, hV, _, _, _⟩ := hW
  obtain ⟨rfl, rfl⟩ := trodVars_none hV
  rw [Tryd.params6] at hA hval
  have hM := maxAt_of_shape hsh
  clear hsh
  obtain ⟨v1, d1, rfl, rfl, h1⟩ := trodAll_one hA
  obtain ⟨s, rfl, rfl, rfl, hm1⟩ := Go.ChangeMaps.open_string Tryd.underlying9 (hval 0 9 v1 rfl rfl) h1
  unfold maxLen at hm1
  refine (law_any s W hM hm1).mono fun e W' ⟨he, hb⟩ => ?_
  exact ⟨_, he, law_post (P := Tryd.prog) laidOut mapsRowed_ slicesFull rfl (by kernel_rfl) Tryd.underlying4 (by rw [Tryd.params6]; decide +kernel) ⟨rfl, rfl, rfl⟩ hW0 hb⟩
set_option maxRecDepth 100000 in
theorem laid_met (os : Os) : laidMet Tryd.prog Rows.namesJoinRow.laid ((laidWorldN os).forCall (fun _ _ => 0) ⟨#[], #[.string ⟨#[]⟩], []⟩).memory :=
  laidMet_of_run3 8 (by kernel_rfl) (by kernel_rfl) (by kernel_rfl)
set_option maxRecDepth 100000 in
theorem reads (os : Os) {H : Type} (enc : TypeId × Value → H) : ∃ places, DataW.whole enc Tryd.prog ((laidWorldN os).forCall (fun _ _ => 0) ⟨#[], #[.string ⟨#[]⟩], []⟩).memory Tryd.f6.params.toList Rows.namesJoinSpec.vars false (#[.string ⟨#[]⟩] : Array Value).toList 8 = some ([.lit (.string [])], [], places) :=
  ⟨[], by kernel_rfl⟩
set_option maxRecDepth 100000 in
theorem lifted (os : Os) (started : os.Started) (H : Type) (enc : TypeId × Value → H) (F : Stop.Interp) :
    ReturnsInHanded {} Tryd.checked os 6 .any ((OpenSpec.ofChange Rows.namesJoinSpec).preRow enc Tryd.prog Tryd.f6 Rows.namesJoinRow.domain false Rows.namesJoinRow.laid) (((OpenSpec.ofChange Rows.namesJoinSpec).at F).post enc Tryd.prog Tryd.f6 false true false false) := by
  obtain ⟨places, hx⟩ := reads os enc
  refine returnsInHanded_of_row (C := Tryd.checked) (s := OpenSpec.ofChange Rows.namesJoinSpec) own started (by kernel_rfl) Tryd.func6
    (witness_row_at (enc := enc) (C := Tryd.checked) false (laidWorldN os) #[.string ⟨#[]⟩] rfl (by kernel_rfl) (by kernel_rfl) (by kernel_rfl)
      (OpenSpec.preRow_of_cond 8 hx (by kernel_rfl) (fun k hk => by cases hk) (by kernel_rfl) (laid_met os))) ?_
  intro W base args ds gs before hval hW _ _ _ _ hsh _
  exact contract H enc W base args ds gs before hval hW hsh
theorem said : Rows.NamesJoinSaid :=
  OpenClaim.holds_of_cond 6 Tryd.f6 rfl rfl rfl rfl rfl rfl rfl ⟨rfl, rfl, rfl, rfl, rfl⟩ rfl rfl rfl rfl rfl (by kernel_rfl) Tryd.func6 (by kernel_rfl)
    (of_decide_eq_true (by kernel_rfl)) (by unfold Func.isWrapper; first | (rw [if_pos (by decide +kernel)]; kernel_rfl) | (rw [if_neg (by decide +kernel)]; exact ⟨rfl, rfl⟩))
    (fun os started H enc _ F => by rw [OpenClaim.pre_eq_preRow]; exact lifted os started H enc F)
theorem plain (f : FuncId) (fn : Func) (hf : Tryd.pinned.checked.prog.funcNamed "cartage/cartagelaw03.NamesJoin" = some f) (hfn : Tryd.pinned.checked.prog.funcs[f]? = some fn) :
    false = Tryd.pinned.checked.prog.looks [] ∧ ∀ (j : Nat) t, fn.params[j]? = some t → Tryd.pinned.checked.prog.wantsStandIn t = false := by
  obtain rfl : f = 6 := Option.some.inj ((show Tryd.prog.funcNamed "cartage/cartagelaw03.NamesJoin" = some 6 by kernel_rfl).symm.trans hf) |>.symm
  obtain rfl : fn = Tryd.f6 := (Option.some.inj (Tryd.func6.symm.trans hfn)).symm
  refine ⟨by kernel_rfl, fun j t ht => ?_⟩
  rw [Tryd.params6] at ht
  rcases j with _ | j
  · obtain rfl := Option.some.inj ht; kernel_rfl
  · simp at ht
theorem card : Rows.NamesJoinCardSaid :=
  Claim7.holds_tied_plain_at .later [] _ _ _ _ said (fun _ h => by cases h) (by kernel_rfl) (fun _ h => by cases h) namesJoin_row_tie rfl ⟨rfl, rfl⟩ (by kernel_rfl) rfl plain (by kernel_rfl)
end Go.Proofs.YtnjhipecpdcaoaaDoor.lawJoin
