/- Proved here: for every two digests: their figures stand in the order of the digests, not both are ahead of the other, figures are 64, first bytes that differ stand in that order too, and Sort tells the two of them rising, each once: ShaOrder answers true. No condition. -/
import Derived.Test.YtmfdahigfnhidaaDoorLawKit
import Derived.Test.YtmfdahigfnhidaaDoorLawOpen
import Derived.Test.YtmfdahigfnhidaaDoorOrderLaw
import Derived.Deep.DeepLaidRun
namespace Go.Proofs.YtmfdahigfnhidaaDoor.lawOrder
open Go Go.RowKit Go.WideShapes Go.ChangeShapes Go.ChangeAt
theorem law_any (xs ys : List Nat) (w : World) (hx : xs.length = 32) (hy : ys.length = 32) (hb : Sha.Byte xs) (hb' : Sha.Byte ys) (ht : Tabs w) :
    Calls Tryd.prog 7 #[.agg (u8s xs), .agg (u8s ys)] w fun e w' => e = .returned (.bool true) ∧ Below w.heap.size w w' := by
  refine law_part (Sha.lexLt xs ys) (Sha.lexLt ys xs) _ _ _ _ xs ys w hx hy hb hb' ht rfl rfl rfl rfl rfl rfl ?_ ?_
  · rintro ⟨h1, h2⟩
    have h1 : Sha.cmpN xs ys < 0 := of_decide_eq_true h1
    have h2 : Sha.cmpN ys xs < 0 := of_decide_eq_true h2
    have := Sha.cmpN_anti xs ys
    omega
  · intro hne
    rcases Sha.short_less hb hb' 8 (by omega) (by omega) with ⟨_, h⟩ | ⟨_, h⟩
    · exact absurd h hne
    · exact h
set_option maxRecDepth 100000 in
theorem contract (H : Type) (enc : TypeId × Value → H) (W : World) (base : Nat) (args : Array Value) (ds gs : List (DataW H)) (before : List MemPlace)
    (hval : ∀ (j : Nat) t v, Tryd.f7.params[j]? = some t → args[j]? = some v → Value.okWide Tryd.prog W .any base t v)
    (hW : DataW.Whole enc Tryd.prog Tryd.f7.params.toList Rows.shaOrderSpec.vars false W args.toList ds gs before) (hL : laidMetH Tryd.prog Rows.shaOrderRow.laid W) :
    Calls Tryd.prog 7 args W fun e W' => ∃ v, e = .returned v ∧ Rows.shaOrderSpec.post enc Tryd.prog Tryd.f7 false true false false W args v W' := by
  have hW0 := hW
  obtain ⟨p, q, hA, hV, _, _, _⟩ := hW
  obtain ⟨rfl, rfl⟩ := trodVars_none hV
  rw [Tryd.params7] at hA hval
  have hT := tabs_of_laid hL
  obtain ⟨v1, v2, d1, d2, p1, p2, rfl, rfl, rfl, h1, h2⟩ := trodAll_two hA
  obtain ⟨xs, rfl, hx, hbx⟩ := open_u8arr Tryd.underlying27 Tryd.underlying5 (by kernel_rfl) (by kernel_rfl) (hval 0 27 v1 rfl rfl) h1
  obtain ⟨ys, rfl, hy, hby⟩ := open_u8arr Tryd.underlying27 Tryd.underlying5 (by kernel_rfl) (by kernel_rfl) (hval 1 27 v2 rfl rfl) h2
  refine (law_any xs ys W hx hy hbx hby hT).mono fun e W' ⟨he, hb⟩ => ?_
  exact ⟨_, he, law_post (P := Tryd.prog) laidOut mapsRowed_ slicesFull rfl (by kernel_rfl) Tryd.underlying4 (by rw [Tryd.params7]; decide +kernel) ⟨rfl, rfl, rfl⟩ hW0 hb⟩
set_option maxRecDepth 100000 in
theorem laid_met (os : Os) : laidMet Tryd.prog Rows.shaOrderRow.laid ((laidWorld os).forCall (fun _ _ => 0) ⟨#[], #[.agg (u8s (List.replicate 32 0)), .agg (u8s (List.replicate 32 0))], []⟩).memory :=
  laidMet_of_run3 8 (by kernel_rfl) (by kernel_rfl) (by kernel_rfl)
set_option maxRecDepth 100000 in
theorem reads (os : Os) {H : Type} (enc : TypeId × Value → H) : ∃ places, DataW.whole enc Tryd.prog ((laidWorld os).forCall (fun _ _ => 0) ⟨#[], #[.agg (u8s (List.replicate 32 0)), .agg (u8s (List.replicate 32 0))], []⟩).memory Tryd.f7.params.toList Rows.shaOrderSpec.vars false (#[.agg (u8s (List.replicate 32 0)), .agg (u8s (List.replicate 32 0))] : Array Value).toList 8 = some ([.agg (List.replicate 32 (.lit (.int .u8 0))), .agg (List.replicate 32 (.lit (.int .u8 0)))], [], places) :=
  ⟨[], by kernel_rfl⟩
set_option maxRecDepth 100000 in
theorem lifted (os : Os) (started : os.Started) (H : Type) (enc : TypeId × Value → H) (F : Stop.Interp) :
    ReturnsInHanded {} Tryd.checked os 7 .any ((OpenSpec.ofChange Rows.shaOrderSpec).preRow enc Tryd.prog Tryd.f7 Rows.shaOrderRow.domain false Rows.shaOrderRow.laid) (((OpenSpec.ofChange Rows.shaOrderSpec).at F).post enc Tryd.prog Tryd.f7 false true false false) := by
  obtain ⟨places, hx⟩ := reads os enc
  refine returnsInHanded_of_row (C := Tryd.checked) (s := OpenSpec.ofChange Rows.shaOrderSpec) own started (by kernel_rfl) Tryd.func7
    (witness_row_at (enc := enc) (C := Tryd.checked) false (laidWorld os) #[.agg (u8s (List.replicate 32 0)), .agg (u8s (List.replicate 32 0))] rfl (by kernel_rfl) (by kernel_rfl) (by kernel_rfl)
      (OpenSpec.preRow_of_cond 8 hx (by kernel_rfl) (fun k hk => by cases hk) (by kernel_rfl) (laid_met os))) ?_
  intro W base args ds gs before hval hW _ _ _ hL _ _
  exact contract H enc W base args ds gs before hval hW hL
theorem said : Rows.ShaOrderSaid :=
  OpenClaim.holds_of_cond 7 Tryd.f7 rfl rfl rfl rfl rfl rfl rfl ⟨rfl, rfl, rfl, rfl, rfl⟩ rfl rfl rfl rfl rfl (by kernel_rfl) Tryd.func7 (by kernel_rfl)
    (of_decide_eq_true (by kernel_rfl)) (by unfold Func.isWrapper; first | (rw [if_pos (by decide +kernel)]; kernel_rfl) | (rw [if_neg (by decide +kernel)]; exact ⟨rfl, rfl⟩))
    (fun os started H enc _ F => by rw [OpenClaim.pre_eq_preRow]; exact lifted os started H enc F)
theorem plain (f : FuncId) (fn : Func) (hf : Tryd.pinned.checked.prog.funcNamed "cartage/cartagelaw01.ShaOrder" = some f) (hfn : Tryd.pinned.checked.prog.funcs[f]? = some fn) :
    true = Tryd.pinned.checked.prog.looks [] ∧ ∀ (j : Nat) t, fn.params[j]? = some t → Tryd.pinned.checked.prog.wantsStandIn t = false := by
  obtain rfl : f = 7 := Option.some.inj ((show Tryd.prog.funcNamed "cartage/cartagelaw01.ShaOrder" = some 7 by kernel_rfl).symm.trans hf) |>.symm
  obtain rfl : fn = Tryd.f7 := (Option.some.inj (Tryd.func7.symm.trans hfn)).symm
  refine ⟨by kernel_rfl, fun j t ht => ?_⟩
  rw [Tryd.params7] at ht
  rcases j with _ | _ | j
  · obtain rfl := Option.some.inj ht; kernel_rfl
  · obtain rfl := Option.some.inj ht; kernel_rfl
  · simp at ht
theorem card : Rows.ShaOrderCardSaid :=
  Claim7.holds_tied_plain_at .later [] _ _ _ _ said (fun _ h => by cases h) (by kernel_rfl) (fun _ h => by cases h) shaOrder_row_tie rfl ⟨rfl, rfl⟩ (by kernel_rfl) rfl plain (by kernel_rfl)
end Go.Proofs.YtmfdahigfnhidaaDoor.lawOrder
