/- Proved here: for all rows of links that are not longer than the law asks: with more roots no less is reached, what is reached is what is reached from it, and without an object that is reached it is missing: ClosureMore answers true. No condition but the program's own: the listed variables are as their initialisers lay them. -/
import Derived.Test.YtlodalppnglclaaDoorMShaSums
import Derived.Test.YtlodalppnglclaaDoorMLawOpenBs
import Derived.Test.YtlodalppnglclaaDoorMCl26
import Derived.Test.YtlodalppnglclaaDoorMLawOpenObs
import Derived.Test.YtlodalppnglclaaDoorMCl12s
namespace Go.Proofs.YtlodalppnglclaaDoor.lawClosureMore
open Go Go.RowKit Go.WideShapes Go.ChangeShapes Go.ChangeAt
/-- A world for the witness: the settled one, with the listed error values and the two tables as their initialisers lay them. -/
noncomputable def laidWorldP (os : Os) : World :=
  let w0 := World.holding Tryd.prog os ⟨(stexts.map fun t => Obj.cells #[.string ⟨t.toArray⟩] 175).toArray, #[], []⟩
  { w0 with heap := ((([0, 1, 2, 3, 6, 12] : List Nat).foldl (fun h k => h.modify (sgs.getD k 0) (putCells #[ev ⟨lowE + k, 0, none⟩])) w0.heap).modify 1 (putCells (u32s Sha.H0))).modify 3 (putCells (u32s Sha.K)) }
theorem some_of (W : World) (h : ∀ k, (k = 0 ∨ k = 1 ∨ k = 2 ∨ k = 3 ∨ k = 6 ∨ k = 12) → ∃ a, SentAt W (sgs.getD k 0) (stexts.getD k []) a) : ∃ a, CSents W a := by
  have hs : ∀ k, ∃ a, (k = 0 ∨ k = 1 ∨ k = 2 ∨ k = 3 ∨ k = 6 ∨ k = 12) → SentAt W (sgs.getD k 0) (stexts.getD k []) a := fun k => by
    by_cases hk : k = 0 ∨ k = 1 ∨ k = 2 ∨ k = 3 ∨ k = 6 ∨ k = 12
    · obtain ⟨a, ha⟩ := h k hk
      exact ⟨a, fun _ => ha⟩
    · exact ⟨⟨0, 0, none⟩, fun h => absurd h hk⟩
  refine ⟨fun k => Classical.choose (hs k), ⟨⟨?_, ?_, ?_⟩, ?_⟩⟩
  · exact (Classical.choose_spec (hs 1) (by omega)).var
  · exact (Classical.choose_spec (hs 3) (by omega)).var
  · exact (Classical.choose_spec (hs 6) (by omega)).var
  · exact (Classical.choose_spec (hs 12) (by omega)).var
set_option maxRecDepth 100000 in
theorem contract (H : Type) (enc : TypeId × Value → H) (W : World) (base : Nat) (args : Array Value) (ds gs : List (DataW H)) (before : List MemPlace)
    (hval : ∀ (j : Nat) t v, Tryd.f4.params[j]? = some t → args[j]? = some v → Value.okWide Tryd.prog W .any base t v)
    (hW : DataW.Whole enc Tryd.prog Tryd.f4.params.toList Rows.closureMoreSpec.vars false W args.toList ds gs before) (hL : laidMetH Tryd.prog Rows.closureMoreRow.laid W) :
    Calls Tryd.prog 4 args W fun e W' => ∃ v, e = .returned v ∧ Rows.closureMoreSpec.post enc Tryd.prog Tryd.f4 false true false false W args v W' := by
  have hW0 := hW
  obtain ⟨p, q, hA, hV, _, _, _⟩ := hW
  obtain ⟨rfl, rfl⟩ := trodVars_none hV
  rw [Tryd.params4] at hA hval
  have hM : laidMet Tryd.prog Rows.closureMoreRow.laid W := hL
  have s0 := sent_of W _ hM 0 "cartage/api.ErrRange" (stexts.getD 0 []) 6 rfl (by kernel_rfl) (by kernel_rfl)
  have s1 := sent_of W _ hM 1 "cartage/api.ErrShort" (stexts.getD 1 []) 8 rfl (by kernel_rfl) (by kernel_rfl)
  have s2 := sent_of W _ hM 2 "cartage/api.ErrLong" (stexts.getD 2 []) 4 rfl (by kernel_rfl) (by kernel_rfl)
  have s3 := sent_of W _ hM 3 "cartage/api.ErrForm" (stexts.getD 3 []) 0 rfl (by kernel_rfl) (by kernel_rfl)
  have s6 := sent_of W _ hM 4 "cartage/api.ErrKind" (stexts.getD 6 []) 5 rfl (by kernel_rfl) (by kernel_rfl)
  have s12 := sent_of W _ hM 5 "cartage/api.ErrLarge" (stexts.getD 12 []) 2 rfl (by kernel_rfl) (by kernel_rfl)
  obtain ⟨sa, hsa⟩ := some_of W (fun k hk => by
    rcases hk with rfl | rfl | rfl | rfl | rfl | rfl
    · exact s0
    · exact s1
    · exact s2
    · exact s3
    · exact s6
    · exact s12)
  have hTab := tabs_of_laid (laidMet_drop 6 hM)
  clear hM hL
  obtain ⟨v1, v2, v3, d1, d2, d3, p1, p2, p3, rfl, rfl, rfl, h1, h2, h3⟩ := trodAll_three hA
  obtain ⟨A, n, c, ls, rfl, hT⟩ := open_lks (hval 0 33 v1 rfl rfl) h1
  obtain ⟨z1, rfl, rfl, rfl, _⟩ := open_int Tryd.underlying3 (hval 1 3 v2 rfl rfl) h2
  obtain ⟨z2, rfl, rfl, rfl, _⟩ := open_int Tryd.underlying3 (hval 2 3 v3 rfl rfl) h3
  refine (cmore_law A n c ls z1 z2 sa W hT hTab hsa).mono fun e W' ⟨he, hb⟩ => ?_
  exact ⟨_, he, law_post (P := Tryd.prog) laidOut mapsRowed_ slicesFull rfl (by kernel_rfl) Tryd.underlying4 (by rw [Tryd.params4]; decide +kernel) ⟨rfl, rfl, rfl⟩ hW0 hb⟩
set_option maxRecDepth 100000 in
theorem laid_met (os : Os) : laidMet Tryd.prog Rows.closureMoreRow.laid ((laidWorldP os).forCall (fun _ _ => 0) ⟨#[], #[.slice none 0 0, .int .i64 0, .int .i64 0], []⟩).memory :=
  laidMet_of_run3 8 (by kernel_rfl) (by kernel_rfl) (by kernel_rfl)
set_option maxRecDepth 100000 in
theorem reads (os : Os) {H : Type} (enc : TypeId × Value → H) : ∃ places, DataW.whole enc Tryd.prog ((laidWorldP os).forCall (fun _ _ => 0) ⟨#[], #[.slice none 0 0, .int .i64 0, .int .i64 0], []⟩).memory Tryd.f4.params.toList Rows.closureMoreSpec.vars false (#[.slice none 0 0, .int .i64 0, .int .i64 0] : Array Value).toList 8 = some ([.nil, .lit (.int .i64 0), .lit (.int .i64 0)], [], places) :=
  ⟨[], by kernel_rfl⟩
set_option maxRecDepth 100000 in
theorem lifted (os : Os) (started : os.Started) (H : Type) (enc : TypeId × Value → H) (F : Stop.Interp) :
    ReturnsInHanded {} Tryd.checked os 4 .any ((OpenSpec.ofChange Rows.closureMoreSpec).preRow enc Tryd.prog Tryd.f4 Rows.closureMoreRow.domain false Rows.closureMoreRow.laid) (((OpenSpec.ofChange Rows.closureMoreSpec).at F).post enc Tryd.prog Tryd.f4 false true false false) := by
  obtain ⟨places, hx⟩ := reads os enc
  refine returnsInHanded_of_row (C := Tryd.checked) (s := OpenSpec.ofChange Rows.closureMoreSpec) own started (by kernel_rfl) Tryd.func4
    (witness_row_at (enc := enc) (C := Tryd.checked) false (laidWorldP os) #[.slice none 0 0, .int .i64 0, .int .i64 0] rfl (by kernel_rfl) (by kernel_rfl) (by kernel_rfl)
      (OpenSpec.preRow_of_cond 8 hx (by kernel_rfl) (fun k hk => by cases hk) (by kernel_rfl) (laid_met os))) ?_
  intro W base args ds gs before hval hW _ _ _ hL _ _
  exact contract H enc W base args ds gs before hval hW hL
theorem said : Rows.ClosureMoreSaid :=
  OpenClaim.holds_of_cond 4 Tryd.f4 rfl rfl rfl rfl rfl rfl rfl ⟨rfl, rfl, rfl, rfl, rfl⟩ rfl rfl rfl rfl rfl (by kernel_rfl) Tryd.func4 (by kernel_rfl)
    (of_decide_eq_true (by kernel_rfl)) (by unfold Func.isWrapper; first | (rw [if_pos (by decide +kernel)]; kernel_rfl) | (rw [if_neg (by decide +kernel)]; exact ⟨rfl, rfl⟩))
    (fun os started H enc _ F => by rw [OpenClaim.pre_eq_preRow]; exact lifted os started H enc F)
theorem plain (f : FuncId) (fn : Func) (hf : Tryd.pinned.checked.prog.funcNamed "cartage/cartagelaw09.ClosureMore" = some f) (hfn : Tryd.pinned.checked.prog.funcs[f]? = some fn) :
    true = Tryd.pinned.checked.prog.looks [] ∧ ∀ (j : Nat) t, fn.params[j]? = some t → Tryd.pinned.checked.prog.wantsStandIn t = false := by
  obtain rfl : f = 4 := Option.some.inj ((show Tryd.prog.funcNamed "cartage/cartagelaw09.ClosureMore" = some 4 by kernel_rfl).symm.trans hf) |>.symm
  obtain rfl : fn = Tryd.f4 := (Option.some.inj (Tryd.func4.symm.trans hfn)).symm
  refine ⟨by kernel_rfl, fun j t ht => ?_⟩
  rw [Tryd.params4] at ht
  rcases j with _ | _ | _ | j
  · obtain rfl := Option.some.inj ht; kernel_rfl
  · obtain rfl := Option.some.inj ht; kernel_rfl
  · obtain rfl := Option.some.inj ht; kernel_rfl
  · simp at ht
theorem card : Rows.ClosureMoreCardSaid :=
  Claim7.holds_tied_plain_at .later [] _ _ _ _ said (fun _ h => by cases h) (by kernel_rfl) (fun _ h => by cases h) closureMore_row_tie rfl ⟨rfl, rfl⟩ (by kernel_rfl) rfl plain (by kernel_rfl)
end Go.Proofs.YtlodalppnglclaaDoor.lawClosureMore
