/- Proved here: for every two digests and every text: the figures of a digest read back as it, a text is a digest just if the document's own answer has one (and then that one; else the error is ErrForm), the order of digests is that of their bytes, and Short is their first bytes as a number: ShaTexts answers true. No condition. -/
import Derived.Test.YtmfdahigfnhidaaDoorLawErr
import Derived.Test.YtmfdahigfnhidaaDoorTextsLaw
namespace Go.Proofs.YtmfdahigfnhidaaDoor.lawTexts
open Go Go.RowKit Go.WideShapes Go.ChangeShapes Go.ChangeAt
set_option maxRecDepth 100000 in
theorem law_long (xs ys : List Nat) (s : ByteArray) (w : World) (ht : Tabs w) (hz : 200 < s.size) (hm : s.size ≤ 9223372036854775807) :
    Calls Tryd.prog 5 #[.agg (u8s xs), .agg (u8s ys), .string s] w fun e w' => e = .returned (.bool true) ∧ Below w.heap.size w w' := by
  have hb0 : Below w.heap.size w ((w.alloc (.cells (u8s xs) 27)).alloc (.cells (u8s ys) 27)) := by
    refine (((Below.refl _ _).alloc (Nat.le_refl _) _).alloc ?_ _); simp
  have HB0 := Lib.hid hb0
  clear hb0
  go_enter Tryd.func5, Tryd.ntmps5
  go_wp2_with fail
  generalize ((w.alloc (.cells (u8s xs) 27)).alloc (.cells (u8s ys) 27)) = w0 at HB0 ⊢
  refine (alive_any w0 (ht.below HB0.out (Nat.le_refl _))).mono ?_
  rintro e w1 ⟨rfl, hb1⟩
  have HB1 := Lib.hid (HB0.out.trans (hb1.mono HB0.out.size))
  clear hb1
  go_wp2_with fail
  go_ret
  exact ⟨rfl, HB1.out⟩
set_option maxRecDepth 100000 in
theorem contract (H : Type) (enc : TypeId × Value → H) (W : World) (base : Nat) (args : Array Value) (ds gs : List (DataW H)) (before : List MemPlace)
    (hval : ∀ (j : Nat) t v, Tryd.f5.params[j]? = some t → args[j]? = some v → Value.okWide Tryd.prog W .any base t v)
    (hW : DataW.Whole enc Tryd.prog Tryd.f5.params.toList Rows.shaTextsSpec.vars false W args.toList ds gs before) (hL : laidMetH Tryd.prog Rows.shaTextsRow.laid W) :
    Calls Tryd.prog 5 args W fun e W' => ∃ v, e = .returned v ∧ Rows.shaTextsSpec.post enc Tryd.prog Tryd.f5 false true false false W args v W' := by
  have hW0 := hW
  obtain ⟨p, q, hA, hV, _, _, _⟩ := hW
  obtain ⟨rfl, rfl⟩ := trodVars_none hV
  rw [Tryd.params5] at hA hval
  have hM : laidMet Tryd.prog Rows.shaTextsRow.laid W := hL
  have s0 := sent_of W _ hM 0 "cartage/api.ErrRange" (stexts.getD 0 []) 2 rfl (by kernel_rfl) (by kernel_rfl)
  have s1 := sent_of W _ hM 1 "cartage/api.ErrShort" (stexts.getD 1 []) 3 rfl (by kernel_rfl) (by kernel_rfl)
  have s2 := sent_of W _ hM 2 "cartage/api.ErrLong" (stexts.getD 2 []) 4 rfl (by kernel_rfl) (by kernel_rfl)
  have s3 := sent_of W _ hM 3 "cartage/api.ErrForm" (stexts.getD 3 []) 1 rfl (by kernel_rfl) (by kernel_rfl)
  have s4 := sent_of W _ hM 4 "cartage/api.ErrSum" (stexts.getD 4 []) 5 rfl (by kernel_rfl) (by kernel_rfl)
  have s5 := sent_of W _ hM 5 "cartage/api.ErrName" (stexts.getD 5 []) 6 rfl (by kernel_rfl) (by kernel_rfl)
  have s6 := sent_of W _ hM 6 "cartage/api.ErrKind" (stexts.getD 6 []) 7 rfl (by kernel_rfl) (by kernel_rfl)
  have s7 := sent_of W _ hM 7 "cartage/api.ErrDepth" (stexts.getD 7 []) 8 rfl (by kernel_rfl) (by kernel_rfl)
  have s8 := sent_of W _ hM 8 "cartage/api.ErrMissing" (stexts.getD 8 []) 9 rfl (by kernel_rfl) (by kernel_rfl)
  have s9 := sent_of W _ hM 9 "cartage/api.ErrCas" (stexts.getD 9 []) 10 rfl (by kernel_rfl) (by kernel_rfl)
  have s10 := sent_of W _ hM 10 "cartage/api.ErrQuota" (stexts.getD 10 []) 11 rfl (by kernel_rfl) (by kernel_rfl)
  have s11 := sent_of W _ hM 11 "cartage/api.ErrQueue" (stexts.getD 11 []) 12 rfl (by kernel_rfl) (by kernel_rfl)
  have s12 := sent_of W _ hM 12 "cartage/api.ErrLarge" (stexts.getD 12 []) 13 rfl (by kernel_rfl) (by kernel_rfl)
  have s13 := sent_of W _ hM 13 "cartage/api.ErrNoRepo" (stexts.getD 13 []) 14 rfl (by kernel_rfl) (by kernel_rfl)
  have s14 := sent_of W _ hM 14 "cartage/api.ErrExists" (stexts.getD 14 []) 15 rfl (by kernel_rfl) (by kernel_rfl)
  have s15 := sent_of W _ hM 15 "cartage/api.ErrDown" (stexts.getD 15 []) 16 rfl (by kernel_rfl) (by kernel_rfl)
  have s16 := sent_of W _ hM 16 "cartage/api.ErrTimeout" (stexts.getD 16 []) 17 rfl (by kernel_rfl) (by kernel_rfl)
  have s17 := sent_of W _ hM 17 "cartage/api.ErrStale" (stexts.getD 17 []) 18 rfl (by kernel_rfl) (by kernel_rfl)
  have s18 := sent_of W _ hM 18 "cartage/api.ErrState" (stexts.getD 18 []) 19 rfl (by kernel_rfl) (by kernel_rfl)
  have s19 := sent_of W _ hM 19 "cartage/api.ErrDup" (stexts.getD 19 []) 20 rfl (by kernel_rfl) (by kernel_rfl)
  have s20 := sent_of W _ hM 20 "cartage/api.ErrNone" (stexts.getD 20 []) 21 rfl (by kernel_rfl) (by kernel_rfl)
  have s21 := sent_of W _ hM 21 "cartage/api.ErrFull" (stexts.getD 21 []) 22 rfl (by kernel_rfl) (by kernel_rfl)
  obtain ⟨sa, hsa⟩ := sents_of W (fun k hk => by
    match k, hk with
    | 0, _ => exact s0
    | 1, _ => exact s1
    | 2, _ => exact s2
    | 3, _ => exact s3
    | 4, _ => exact s4
    | 5, _ => exact s5
    | 6, _ => exact s6
    | 7, _ => exact s7
    | 8, _ => exact s8
    | 9, _ => exact s9
    | 10, _ => exact s10
    | 11, _ => exact s11
    | 12, _ => exact s12
    | 13, _ => exact s13
    | 14, _ => exact s14
    | 15, _ => exact s15
    | 16, _ => exact s16
    | 17, _ => exact s17
    | 18, _ => exact s18
    | 19, _ => exact s19
    | 20, _ => exact s20
    | 21, _ => exact s21
    | k + 22, hk => omega)
  have hT := tabs_of_laid (laidMet_drop 22 hM)
  clear hM hL
  obtain ⟨v1, v2, v3, d1, d2, d3, p1, p2, p3, rfl, rfl, rfl, h1, h2, h3⟩ := trodAll_three hA
  obtain ⟨xs, rfl, hx, hbx⟩ := open_u8arr Tryd.underlying27 Tryd.underlying5 (by kernel_rfl) (by kernel_rfl) (hval 0 27 v1 rfl rfl) h1
  obtain ⟨ys, rfl, hy, hby⟩ := open_u8arr Tryd.underlying27 Tryd.underlying5 (by kernel_rfl) (by kernel_rfl) (hval 1 27 v2 rfl rfl) h2
  obtain ⟨s, rfl, rfl, rfl, hm⟩ := Go.ChangeMaps.open_string Tryd.underlying9 (hval 2 9 v3 rfl rfl) h3
  unfold maxLen at hm
  rcases Nat.lt_or_ge 200 s.size with hz | hz
  · refine (law_long xs ys s W hT hz hm).mono fun e W' ⟨he, hb⟩ => ?_
    exact ⟨_, he, law_post (P := Tryd.prog) laidOut mapsRowed_ slicesFull rfl (by kernel_rfl) Tryd.underlying4 (by rw [Tryd.params5]; decide +kernel) ⟨rfl, rfl, rfl⟩ hW0 hb⟩
  · refine (law_any xs ys s W hx hy hbx hby hT sa hsa hz).mono fun e W' ⟨he, hb⟩ => ?_
    exact ⟨_, he, law_post (P := Tryd.prog) laidOut mapsRowed_ slicesFull rfl (by kernel_rfl) Tryd.underlying4 (by rw [Tryd.params5]; decide +kernel) ⟨rfl, rfl, rfl⟩ hW0 hb⟩
set_option maxRecDepth 100000 in
theorem laid_met (os : Os) : laidMet Tryd.prog Rows.shaTextsRow.laid ((laidWorldE os).forCall (fun _ _ => 0) ⟨#[], #[.agg (u8s (List.replicate 32 0)), .agg (u8s (List.replicate 32 0)), .string ⟨#[]⟩], []⟩).memory :=
  laidMet_of_run3 8 (by kernel_rfl) (by kernel_rfl) (by kernel_rfl)
set_option maxRecDepth 100000 in
theorem reads (os : Os) {H : Type} (enc : TypeId × Value → H) : ∃ places, DataW.whole enc Tryd.prog ((laidWorldE os).forCall (fun _ _ => 0) ⟨#[], #[.agg (u8s (List.replicate 32 0)), .agg (u8s (List.replicate 32 0)), .string ⟨#[]⟩], []⟩).memory Tryd.f5.params.toList Rows.shaTextsSpec.vars false (#[.agg (u8s (List.replicate 32 0)), .agg (u8s (List.replicate 32 0)), .string ⟨#[]⟩] : Array Value).toList 8 = some ([.agg (List.replicate 32 (.lit (.int .u8 0))), .agg (List.replicate 32 (.lit (.int .u8 0))), .lit (.string [])], [], places) :=
  ⟨[], by kernel_rfl⟩
set_option maxRecDepth 100000 in
theorem lifted (os : Os) (started : os.Started) (H : Type) (enc : TypeId × Value → H) (F : Stop.Interp) :
    ReturnsInHanded {} Tryd.checked os 5 .any ((OpenSpec.ofChange Rows.shaTextsSpec).preRow enc Tryd.prog Tryd.f5 Rows.shaTextsRow.domain false Rows.shaTextsRow.laid) (((OpenSpec.ofChange Rows.shaTextsSpec).at F).post enc Tryd.prog Tryd.f5 false true false false) := by
  obtain ⟨places, hx⟩ := reads os enc
  refine returnsInHanded_of_row (C := Tryd.checked) (s := OpenSpec.ofChange Rows.shaTextsSpec) own started (by kernel_rfl) Tryd.func5
    (witness_row_at (enc := enc) (C := Tryd.checked) false (laidWorldE os) #[.agg (u8s (List.replicate 32 0)), .agg (u8s (List.replicate 32 0)), .string ⟨#[]⟩] rfl (by kernel_rfl) (by kernel_rfl) (by kernel_rfl)
      (OpenSpec.preRow_of_cond 8 hx (by kernel_rfl) (fun k hk => by cases hk) (by kernel_rfl) (laid_met os))) ?_
  intro W base args ds gs before hval hW _ _ _ hL _ _
  exact contract H enc W base args ds gs before hval hW hL
theorem said : Rows.ShaTextsSaid :=
  OpenClaim.holds_of_cond 5 Tryd.f5 rfl rfl rfl rfl rfl rfl rfl ⟨rfl, rfl, rfl, rfl, rfl⟩ rfl rfl rfl rfl rfl (by kernel_rfl) Tryd.func5 (by kernel_rfl)
    (of_decide_eq_true (by kernel_rfl)) (by unfold Func.isWrapper; first | (rw [if_pos (by decide +kernel)]; kernel_rfl) | (rw [if_neg (by decide +kernel)]; exact ⟨rfl, rfl⟩))
    (fun os started H enc _ F => by rw [OpenClaim.pre_eq_preRow]; exact lifted os started H enc F)
theorem plain (f : FuncId) (fn : Func) (hf : Tryd.pinned.checked.prog.funcNamed "cartage/cartagelaw01.ShaTexts" = some f) (hfn : Tryd.pinned.checked.prog.funcs[f]? = some fn) :
    true = Tryd.pinned.checked.prog.looks [] ∧ ∀ (j : Nat) t, fn.params[j]? = some t → Tryd.pinned.checked.prog.wantsStandIn t = false := by
  obtain rfl : f = 5 := Option.some.inj ((show Tryd.prog.funcNamed "cartage/cartagelaw01.ShaTexts" = some 5 by kernel_rfl).symm.trans hf) |>.symm
  obtain rfl : fn = Tryd.f5 := (Option.some.inj (Tryd.func5.symm.trans hfn)).symm
  refine ⟨by kernel_rfl, fun j t ht => ?_⟩
  rw [Tryd.params5] at ht
  rcases j with _ | _ | _ | j
  · obtain rfl := Option.some.inj ht; kernel_rfl
  · obtain rfl := Option.some.inj ht; kernel_rfl
  · obtain rfl := Option.some.inj ht; kernel_rfl
  · simp at ht
theorem card : Rows.ShaTextsCardSaid :=
  Claim7.holds_tied_plain_at .later [] _ _ _ _ said (fun _ h => by cases h) (by kernel_rfl) (fun _ h => by cases h) shaTexts_row_tie rfl ⟨rfl, rfl⟩ (by kernel_rfl) rfl plain (by kernel_rfl)
end Go.Proofs.YtmfdahigfnhidaaDoor.lawTexts
