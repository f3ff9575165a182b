/- Proved here: for every object that is not larger than the law asks: its bytes, if it is right, are parsed as an object that names the same ids in the same order; it names no more ids than its bytes have room for; bytes that are too long are refused; the id of equal bytes is equal; a blob names nothing: ObjectLinks answers true. No condition but the program's own: the listed variables are as their initialisers lay them. -/
import Derived.Test.YtlgljdefileeoaaDoorMErrs
import Derived.Test.YtlgljdefileeoaaDoorMLawOpenObs
import Derived.Test.YtlgljdefileeoaaDoorMOb33
namespace Go.Proofs.YtlgljdefileeoaaDoor.lawOLinks
open Go Go.RowKit Go.WideShapes Go.ChangeShapes Go.ChangeAt
set_option maxRecDepth 100000 in
theorem contract (H : Type) (enc : TypeId × Value → H) (W : World) (_base : Nat) (args : Array Value) (ds gs : List (DataW H)) (before : List MemPlace)
    (hW : DataW.Whole enc Tryd.prog Tryd.f4.params.toList Rows.objectLinksSpec.vars false W args.toList ds gs before) (hL : laidMetH Tryd.prog Rows.objectLinksRow.laid W) :
    Calls Tryd.prog 4 args W fun e W' => ∃ v, e = .returned v ∧ Rows.objectLinksSpec.post enc Tryd.prog Tryd.f4 false true false false W args v W' := by
  have hW0 := hW
  obtain ⟨p, q, hA, hV, _, _, _⟩ := hW
  obtain ⟨rfl, rfl⟩ := trodVars_none hV
  rw [Tryd.params4] at hA
  have hM : laidMet Tryd.prog Rows.objectLinksRow.laid W := hL
  obtain ⟨aF, haF⟩ := sent_of W _ hM 3 "cartage/api.ErrForm" (stexts.getD 3 []) 4 rfl (by kernel_rfl) (by kernel_rfl)
  obtain ⟨aG, haG⟩ := sent_of W _ hM 5 "cartage/api.ErrLarge" (stexts.getD 12 []) 0 rfl (by kernel_rfl) (by kernel_rfl)
  obtain ⟨aK, haK⟩ := sent_of W _ hM 4 "cartage/api.ErrKind" (stexts.getD 6 []) 7 rfl (by kernel_rfl) (by kernel_rfl)
  obtain ⟨aS, haS⟩ := sent_of W _ hM 1 "cartage/api.ErrShort" (stexts.getD 1 []) 2 rfl (by kernel_rfl) (by kernel_rfl)
  have hT := tabs_of_laid (laidMet_drop 6 hM)
  clear hM hL
  obtain ⟨v1, d1, rfl, rfl, h1⟩ := trodAll_one hA
  obtain ⟨o, cs, T, tc, E, ec, P, pc, rfl, oo, fo⟩ := open_ob h1
  refine (links_law o cs T E P tc ec pc (fun k => if k = 1 then aS else if k = 3 then aF else if k = 6 then aK else aG) W oo fo ⟨haS.var, haF.var, haK.var⟩ haG.var hT).mono fun e W' ⟨he, hb⟩ => ?_
  exact ⟨_, he, law_post (P := Tryd.prog) laidOut mapsRowed_ slicesFull rfl (by kernel_rfl) Tryd.underlying4 (by rw [Tryd.params4]; decide +kernel) ⟨rfl, rfl, rfl⟩ hW0 hb⟩
set_option maxRecDepth 100000 in
theorem laid_met (os : Os) : laidMet Tryd.prog Rows.objectLinksRow.laid ((laidWorldE os).forCall (fun _ _ => 0) ⟨#[], #[.agg zc0], []⟩).memory :=
  laidMet_of_run3 8 (by kernel_rfl) (by kernel_rfl) (by kernel_rfl)
set_option maxRecDepth 100000 in
theorem reads (os : Os) {H : Type} (enc : TypeId × Value → H) : ∃ places, DataW.whole enc Tryd.prog ((laidWorldE os).forCall (fun _ _ => 0) ⟨#[], #[.agg zc0], []⟩).memory Tryd.f4.params.toList Rows.objectLinksSpec.vars false (#[.agg zc0] : Array Value).toList 8 = some ([.agg [.lit (.int .i64 0), .nil, .nil, .agg (List.replicate 32 (.lit (.int .u8 0))), .nil]], [], places) :=
  ⟨[], by kernel_rfl⟩
set_option maxRecDepth 100000 in
theorem lifted (os : Os) (started : os.Started) (H : Type) (enc : TypeId × Value → H) (F : Stop.Interp) :
    ReturnsInHanded {} Tryd.checked os 4 .any ((OpenSpec.ofChange Rows.objectLinksSpec).preRow enc Tryd.prog Tryd.f4 Rows.objectLinksRow.domain false Rows.objectLinksRow.laid) (((OpenSpec.ofChange Rows.objectLinksSpec).at F).post enc Tryd.prog Tryd.f4 false true false false) := by
  obtain ⟨places, hx⟩ := reads os enc
  refine returnsInHanded_of_row (C := Tryd.checked) (s := OpenSpec.ofChange Rows.objectLinksSpec) own started (by kernel_rfl) Tryd.func4
    (witness_row_at (enc := enc) (C := Tryd.checked) false (laidWorldE os) #[.agg zc0] rfl (by kernel_rfl) (by kernel_rfl) (by kernel_rfl)
      (OpenSpec.preRow_of_cond 8 hx (by kernel_rfl) (fun k hk => by cases hk) (by kernel_rfl) (laid_met os))) ?_
  intro W base args ds gs before hval hW _ _ _ hL _ _
  exact contract H enc W base args ds gs before hW hL
theorem said : Rows.ObjectLinksSaid :=
  OpenClaim.holds_of_cond 4 Tryd.f4 rfl rfl rfl rfl rfl rfl rfl ⟨rfl, rfl, rfl, rfl, rfl⟩ rfl rfl rfl rfl rfl (by kernel_rfl) Tryd.func4 (by kernel_rfl)
    (of_decide_eq_true (by kernel_rfl)) (by unfold Func.isWrapper; first | (rw [if_pos (by decide +kernel)]; kernel_rfl) | (rw [if_neg (by decide +kernel)]; exact ⟨rfl, rfl⟩))
    (fun os started H enc _ F => by rw [OpenClaim.pre_eq_preRow]; exact lifted os started H enc F)
theorem plain (f : FuncId) (fn : Func) (hf : Tryd.pinned.checked.prog.funcNamed "cartage/cartagelaw06.ObjectLinks" = some f) (hfn : Tryd.pinned.checked.prog.funcs[f]? = some fn) :
    true = Tryd.pinned.checked.prog.looks [] ∧ ∀ (j : Nat) t, fn.params[j]? = some t → Tryd.pinned.checked.prog.wantsStandIn t = false := by
  obtain rfl : f = 4 := Option.some.inj ((show Tryd.prog.funcNamed "cartage/cartagelaw06.ObjectLinks" = some 4 by kernel_rfl).symm.trans hf) |>.symm
  obtain rfl : fn = Tryd.f4 := (Option.some.inj (Tryd.func4.symm.trans hfn)).symm
  refine ⟨by kernel_rfl, fun j t ht => ?_⟩
  rw [Tryd.params4] at ht
  rcases j with _ | j
  · obtain rfl := Option.some.inj ht; kernel_rfl
  · simp at ht
theorem card : Rows.ObjectLinksCardSaid :=
  Claim7.holds_tied_plain_at .later [] _ _ _ _ said (fun _ h => by cases h) (by kernel_rfl) (fun _ h => by cases h) objectLinks_row_tie rfl ⟨rfl, rfl⟩ (by kernel_rfl) rfl plain (by kernel_rfl)
end Go.Proofs.YtlgljdefileeoaaDoor.lawOLinks
