/- Proved here: for all phases and all stamps: whether the stamp is admitted, or with which error not, is what the document says: PhaseAdmits answers true. No condition but the program's own: the listed variables are as their initialisers lay them. -/
import Derived.Test.YtagplmlhpocbjaaDoorLawSent
import Derived.Test.YtagplmlhpocbjaaDoorLawOpenPh
import Derived.Test.YtagplmlhpocbjaaDoorPh11
namespace Go.Proofs.YtagplmlhpocbjaaDoor.lawPhaseAdmits
open Go Go.RowKit Go.WideShapes Go.ChangeShapes Go.ChangeAt
set_option maxRecDepth 100000 in
theorem contract (H : Type) (enc : TypeId × Value → H) (W : World) (base : Nat) (args : Array Value) (ds gs : List (DataW H)) (before : List MemPlace)
    (hval : ∀ (j : Nat) t v, Tryd.f4.params[j]? = some t → args[j]? = some v → Value.okWide Tryd.prog W .any base t v)
    (hW : DataW.Whole enc Tryd.prog Tryd.f4.params.toList Rows.phaseAdmitsSpec.vars false W args.toList ds gs before) (hL : laidMetH Tryd.prog Rows.phaseAdmitsRow.laid W) :
    Calls Tryd.prog 4 args W fun e W' => ∃ v, e = .returned v ∧ Rows.phaseAdmitsSpec.post enc Tryd.prog Tryd.f4 false true false false W args v W' := by
  have hW0 := hW
  obtain ⟨p, q, hA, hV, _, _, _⟩ := hW
  obtain ⟨rfl, rfl⟩ := trodVars_none hV
  rw [Tryd.params4] at hA hval
  have hM : laidMet Tryd.prog Rows.phaseAdmitsRow.laid W := hL
  have s0 := sent_of W _ hM 0 "cartage/api.ErrRange" (stexts.getD 0 []) 0 rfl (by kernel_rfl) (by kernel_rfl)
  have s1 := sent_of W _ hM 1 "cartage/api.ErrShort" (stexts.getD 1 []) 1 rfl (by kernel_rfl) (by kernel_rfl)
  have s2 := sent_of W _ hM 2 "cartage/api.ErrLong" (stexts.getD 2 []) 2 rfl (by kernel_rfl) (by kernel_rfl)
  have s3 := sent_of W _ hM 3 "cartage/api.ErrForm" (stexts.getD 3 []) 3 rfl (by kernel_rfl) (by kernel_rfl)
  have s4 := sent_of W _ hM 4 "cartage/api.ErrSum" (stexts.getD 4 []) 4 rfl (by kernel_rfl) (by kernel_rfl)
  have s5 := sent_of W _ hM 5 "cartage/api.ErrName" (stexts.getD 5 []) 5 rfl (by kernel_rfl) (by kernel_rfl)
  have s6 := sent_of W _ hM 6 "cartage/api.ErrKind" (stexts.getD 6 []) 6 rfl (by kernel_rfl) (by kernel_rfl)
  have s7 := sent_of W _ hM 7 "cartage/api.ErrDepth" (stexts.getD 7 []) 7 rfl (by kernel_rfl) (by kernel_rfl)
  have s8 := sent_of W _ hM 8 "cartage/api.ErrMissing" (stexts.getD 8 []) 8 rfl (by kernel_rfl) (by kernel_rfl)
  have s9 := sent_of W _ hM 9 "cartage/api.ErrCas" (stexts.getD 9 []) 9 rfl (by kernel_rfl) (by kernel_rfl)
  have s10 := sent_of W _ hM 10 "cartage/api.ErrQuota" (stexts.getD 10 []) 10 rfl (by kernel_rfl) (by kernel_rfl)
  have s11 := sent_of W _ hM 11 "cartage/api.ErrQueue" (stexts.getD 11 []) 11 rfl (by kernel_rfl) (by kernel_rfl)
  have s12 := sent_of W _ hM 12 "cartage/api.ErrLarge" (stexts.getD 12 []) 12 rfl (by kernel_rfl) (by kernel_rfl)
  have s13 := sent_of W _ hM 13 "cartage/api.ErrNoRepo" (stexts.getD 13 []) 13 rfl (by kernel_rfl) (by kernel_rfl)
  have s14 := sent_of W _ hM 14 "cartage/api.ErrExists" (stexts.getD 14 []) 14 rfl (by kernel_rfl) (by kernel_rfl)
  have s15 := sent_of W _ hM 15 "cartage/api.ErrDown" (stexts.getD 15 []) 15 rfl (by kernel_rfl) (by kernel_rfl)
  have s16 := sent_of W _ hM 16 "cartage/api.ErrTimeout" (stexts.getD 16 []) 16 rfl (by kernel_rfl) (by kernel_rfl)
  have s17 := sent_of W _ hM 17 "cartage/api.ErrStale" (stexts.getD 17 []) 17 rfl (by kernel_rfl) (by kernel_rfl)
  have s18 := sent_of W _ hM 18 "cartage/api.ErrState" (stexts.getD 18 []) 18 rfl (by kernel_rfl) (by kernel_rfl)
  have s19 := sent_of W _ hM 19 "cartage/api.ErrDup" (stexts.getD 19 []) 19 rfl (by kernel_rfl) (by kernel_rfl)
  have s20 := sent_of W _ hM 20 "cartage/api.ErrNone" (stexts.getD 20 []) 20 rfl (by kernel_rfl) (by kernel_rfl)
  have s21 := sent_of W _ hM 21 "cartage/api.ErrFull" (stexts.getD 21 []) 21 rfl (by kernel_rfl) (by kernel_rfl)
  obtain ⟨sa, hsa⟩ := sents_of W (fun k hk => by
    match k, hk with
    | 0, _ => exact s0
    | 1, _ => exact s1
    | 2, _ => exact s2
    | 3, _ => exact s3
    | 4, _ => exact s4
    | 5, _ => exact s5
    | 6, _ => exact s6
    | 7, _ => exact s7
    | 8, _ => exact s8
    | 9, _ => exact s9
    | 10, _ => exact s10
    | 11, _ => exact s11
    | 12, _ => exact s12
    | 13, _ => exact s13
    | 14, _ => exact s14
    | 15, _ => exact s15
    | 16, _ => exact s16
    | 17, _ => exact s17
    | 18, _ => exact s18
    | 19, _ => exact s19
    | 20, _ => exact s20
    | 21, _ => exact s21
    | k + 22, hk => omega)
  clear hM hL
  obtain ⟨v1, v2, d1, d2, p1, p2, rfl, rfl, rfl, h1, h2⟩ := trodAll_two hA
  obtain ⟨s, e, rfl⟩ := open_ph h1
  obtain ⟨x, rfl, rfl, rfl, hx⟩ := open_int Tryd.underlying3 (hval 1 3 v2 rfl rfl) h2
  refine (padmits_law s e x sa W hsa).mono fun e W' ⟨he, hb⟩ => ?_
  exact ⟨_, he, law_post (P := Tryd.prog) laidOut mapsRowed_ slicesFull rfl (by kernel_rfl) Tryd.underlying4 (by rw [Tryd.params4]; decide +kernel) ⟨rfl, rfl, rfl⟩ hW0 hb⟩
set_option maxRecDepth 100000 in
theorem laid_met (os : Os) : laidMet Tryd.prog Rows.phaseAdmitsRow.laid ((laidWorldS os).forCall (fun _ _ => 0) ⟨#[], #[phV 0 0, .int .i64 0], []⟩).memory :=
  laidMet_of_run3 8 (by kernel_rfl) (by kernel_rfl) (by kernel_rfl)
set_option maxRecDepth 100000 in
theorem reads (os : Os) {H : Type} (enc : TypeId × Value → H) : ∃ places, DataW.whole enc Tryd.prog ((laidWorldS os).forCall (fun _ _ => 0) ⟨#[], #[phV 0 0, .int .i64 0], []⟩).memory Tryd.f4.params.toList Rows.phaseAdmitsSpec.vars false (#[phV 0 0, .int .i64 0] : Array Value).toList 8 = some ([.agg [.lit (.int .i64 0), .lit (.int .i64 0)], .lit (.int .i64 0)], [], places) :=
  ⟨[], by kernel_rfl⟩
set_option maxRecDepth 100000 in
theorem lifted (os : Os) (started : os.Started) (H : Type) (enc : TypeId × Value → H) (F : Stop.Interp) :
    ReturnsInHanded {} Tryd.checked os 4 .any ((OpenSpec.ofChange Rows.phaseAdmitsSpec).preRow enc Tryd.prog Tryd.f4 Rows.phaseAdmitsRow.domain false Rows.phaseAdmitsRow.laid) (((OpenSpec.ofChange Rows.phaseAdmitsSpec).at F).post enc Tryd.prog Tryd.f4 false true false false) := by
  obtain ⟨places, hx⟩ := reads os enc
  refine returnsInHanded_of_row (C := Tryd.checked) (s := OpenSpec.ofChange Rows.phaseAdmitsSpec) own started (by kernel_rfl) Tryd.func4
    (witness_row_at (enc := enc) (C := Tryd.checked) false (laidWorldS os) #[phV 0 0, .int .i64 0] rfl (by kernel_rfl) (by kernel_rfl) (by kernel_rfl)
      (OpenSpec.preRow_of_cond 8 hx (by kernel_rfl) (fun k hk => by cases hk) (by kernel_rfl) (laid_met os))) ?_
  intro W base args ds gs before hval hW _ _ _ hL _ _
  exact contract H enc W base args ds gs before hval hW hL
theorem said : Rows.PhaseAdmitsSaid :=
  OpenClaim.holds_of_cond 4 Tryd.f4 rfl rfl rfl rfl rfl rfl rfl ⟨rfl, rfl, rfl, rfl, rfl⟩ rfl rfl rfl rfl rfl (by kernel_rfl) Tryd.func4 (by kernel_rfl)
    (of_decide_eq_true (by kernel_rfl)) (by unfold Func.isWrapper; first | (rw [if_pos (by decide +kernel)]; kernel_rfl) | (rw [if_neg (by decide +kernel)]; exact ⟨rfl, rfl⟩))
    (fun os started H enc _ F => by rw [OpenClaim.pre_eq_preRow]; exact lifted os started H enc F)
theorem plain (f : FuncId) (fn : Func) (hf : Tryd.pinned.checked.prog.funcNamed "cartage/cartagelaw13.PhaseAdmits" = some f) (hfn : Tryd.pinned.checked.prog.funcs[f]? = some fn) :
    true = Tryd.pinned.checked.prog.looks [] ∧ ∀ (j : Nat) t, fn.params[j]? = some t → Tryd.pinned.checked.prog.wantsStandIn t = false := by
  obtain rfl : f = 4 := Option.some.inj ((show Tryd.prog.funcNamed "cartage/cartagelaw13.PhaseAdmits" = some 4 by kernel_rfl).symm.trans hf) |>.symm
  obtain rfl : fn = Tryd.f4 := (Option.some.inj (Tryd.func4.symm.trans hfn)).symm
  refine ⟨by kernel_rfl, fun j t ht => ?_⟩
  rw [Tryd.params4] at ht
  rcases j with _ | _ | j
  · obtain rfl := Option.some.inj ht; kernel_rfl
  · obtain rfl := Option.some.inj ht; kernel_rfl
  · simp at ht
theorem card : Rows.PhaseAdmitsCardSaid :=
  Claim7.holds_tied_plain_at .later [] _ _ _ _ said (fun _ h => by cases h) (by kernel_rfl) (fun _ h => by cases h) phaseAdmits_row_tie rfl ⟨rfl, rfl⟩ (by kernel_rfl) rfl plain (by kernel_rfl)
end Go.Proofs.YtagplmlhpocbjaaDoor.lawPhaseAdmits
