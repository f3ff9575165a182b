/- Proved here: for every list of at most twelve texts of at most 300 bytes: deltas from text to text, one upon another, lead from the first one to the last one: DeltaChain answers true. No condition but the program's own: the listed error values are as their initialisers lay them. -/
import Derived.Test.YthagldpgibpbdaaDoorLawSent
import Derived.Test.YthagldpgibpbdaaDoorLawOpenB
import Derived.Test.YthagldpgibpbdaaDoorLawOpen3
import Derived.Test.YthagldpgibpbdaaDoorDlChain
namespace Go.Proofs.YthagldpgibpbdaaDoor.lawDeltaChain
open Go Go.RowKit Go.WideShapes Go.ChangeShapes Go.ChangeAt
theorem some_of (W : World) (h : ∀ k, (k = 0 ∨ k = 1 ∨ k = 2 ∨ k = 3 ∨ k = 12 ∨ k = 18) → ∃ a, SentAt W (sgs.getD k 0) (stexts.getD k []) a) : ∃ a, ASents W a := by
  refine ⟨fun k => if hk : k = 0 ∨ k = 1 ∨ k = 2 ∨ k = 3 ∨ k = 12 ∨ k = 18 then Classical.choose (h k hk) else ⟨0, 0, none⟩, fun k hk => ?_⟩
  simp only [hk, dif_pos]
  exact Classical.choose_spec (h k hk)
set_option maxRecDepth 100000 in
theorem contract (H : Type) (enc : TypeId × Value → H) (W : World) (base : Nat) (args : Array Value) (ds gs : List (DataW H)) (before : List MemPlace)
    (hval : ∀ (j : Nat) t v, Tryd.f6.params[j]? = some t → args[j]? = some v → Value.okWide Tryd.prog W .any base t v)
    (hW : DataW.Whole enc Tryd.prog Tryd.f6.params.toList Rows.deltaChainSpec.vars false W args.toList ds gs before) (hL : laidMetH Tryd.prog Rows.deltaChainRow.laid W) (hsh : W.ShapedOpen Tryd.prog) :
    Calls Tryd.prog 6 args W fun e W' => ∃ v, e = .returned v ∧ Rows.deltaChainSpec.post enc Tryd.prog Tryd.f6 false true false false W args v W' := by
  have hW0 := hW
  obtain ⟨p, q, hA, hV, _, _, _⟩ := hW
  obtain ⟨rfl, rfl⟩ := trodVars_none hV
  rw [Tryd.params6] at hA hval
  have hmx := MX.of_shape hsh
  clear hsh
  have hM : laidMet Tryd.prog Rows.deltaChainRow.laid W := hL
  have s0 := sent_of W _ hM 0 "cartage/api.ErrRange" (stexts.getD 0 []) 2 rfl (by kernel_rfl) (by kernel_rfl)
  have s1 := sent_of W _ hM 1 "cartage/api.ErrShort" (stexts.getD 1 []) 4 rfl (by kernel_rfl) (by kernel_rfl)
  have s2 := sent_of W _ hM 2 "cartage/api.ErrLong" (stexts.getD 2 []) 3 rfl (by kernel_rfl) (by kernel_rfl)
  have s3 := sent_of W _ hM 3 "cartage/api.ErrForm" (stexts.getD 3 []) 5 rfl (by kernel_rfl) (by kernel_rfl)
  have s12 := sent_of W _ hM 4 "cartage/api.ErrLarge" (stexts.getD 12 []) 1 rfl (by kernel_rfl) (by kernel_rfl)
  have s18 := sent_of W _ hM 5 "cartage/api.ErrState" (stexts.getD 18 []) 0 rfl (by kernel_rfl) (by kernel_rfl)
  obtain ⟨sa, hsa⟩ := some_of W (fun k hk => by
    rcases hk with rfl | rfl | rfl | rfl | rfl | rfl
    · exact s0
    · exact s1
    · exact s2
    · exact s3
    · exact s12
    · exact s18)
  clear hM hL
  obtain ⟨v1, d1, rfl, rfl, h1⟩ := trodAll_one hA
  obtain ⟨vs, ps, hx, hl, hr, hb, _, _⟩ := open_parts Tryd.underlying38 Tryd.underlying22 Tryd.underlying5 (by kernel_rfl) (by kernel_rfl) (hval 0 38 v1 rfl rfl) h1
  refine (dchain_law v1 vs ps sa W hx hl hr hb hsa hmx).mono fun e W' ⟨he, hb⟩ => ?_
  exact ⟨_, he, law_post (P := Tryd.prog) laidOut mapsRowed_ slicesFull rfl (by kernel_rfl) Tryd.underlying4 (by rw [Tryd.params6]; decide +kernel) ⟨rfl, rfl, rfl⟩ hW0 hb⟩
set_option maxRecDepth 100000 in
theorem laid_met (os : Os) : laidMet Tryd.prog Rows.deltaChainRow.laid ((laidWorldS os).forCall (fun _ _ => 0) ⟨#[], #[.slice none 0 0], []⟩).memory :=
  laidMet_of_run3 8 (by kernel_rfl) (by kernel_rfl) (by kernel_rfl)
set_option maxRecDepth 100000 in
theorem reads (os : Os) {H : Type} (enc : TypeId × Value → H) : ∃ places, DataW.whole enc Tryd.prog ((laidWorldS os).forCall (fun _ _ => 0) ⟨#[], #[.slice none 0 0], []⟩).memory Tryd.f6.params.toList Rows.deltaChainSpec.vars false (#[.slice none 0 0] : Array Value).toList 8 = some ([.nil], [], places) :=
  ⟨[], by kernel_rfl⟩
set_option maxRecDepth 100000 in
theorem lifted (os : Os) (started : os.Started) (H : Type) (enc : TypeId × Value → H) (F : Stop.Interp) :
    ReturnsInHanded {} Tryd.checked os 6 .any ((OpenSpec.ofChange Rows.deltaChainSpec).preRow enc Tryd.prog Tryd.f6 Rows.deltaChainRow.domain false Rows.deltaChainRow.laid) (((OpenSpec.ofChange Rows.deltaChainSpec).at F).post enc Tryd.prog Tryd.f6 false true false false) := by
  obtain ⟨places, hx⟩ := reads os enc
  refine returnsInHanded_of_row (C := Tryd.checked) (s := OpenSpec.ofChange Rows.deltaChainSpec) own started (by kernel_rfl) Tryd.func6
    (witness_row_at (enc := enc) (C := Tryd.checked) false (laidWorldS os) #[.slice none 0 0] rfl (by kernel_rfl) (by kernel_rfl) (by kernel_rfl)
      (OpenSpec.preRow_of_cond 8 hx (by kernel_rfl) (fun k hk => by cases hk) (by kernel_rfl) (laid_met os))) ?_
  intro W base args ds gs before hval hW _ _ _ hL hsh _
  exact contract H enc W base args ds gs before hval hW hL hsh
theorem said : Rows.DeltaChainSaid :=
  OpenClaim.holds_of_cond 6 Tryd.f6 rfl rfl rfl rfl rfl rfl rfl ⟨rfl, rfl, rfl, rfl, rfl⟩ rfl rfl rfl rfl rfl (by kernel_rfl) Tryd.func6 (by kernel_rfl)
    (of_decide_eq_true (by kernel_rfl)) (by unfold Func.isWrapper; first | (rw [if_pos (by decide +kernel)]; kernel_rfl) | (rw [if_neg (by decide +kernel)]; exact ⟨rfl, rfl⟩))
    (fun os started H enc _ F => by rw [OpenClaim.pre_eq_preRow]; exact lifted os started H enc F)
theorem plain (f : FuncId) (fn : Func) (hf : Tryd.pinned.checked.prog.funcNamed "cartage/cartagelaw07.DeltaChain" = some f) (hfn : Tryd.pinned.checked.prog.funcs[f]? = some fn) :
    true = Tryd.pinned.checked.prog.looks [] ∧ ∀ (j : Nat) t, fn.params[j]? = some t → Tryd.pinned.checked.prog.wantsStandIn t = false := by
  obtain rfl : f = 6 := Option.some.inj ((show Tryd.prog.funcNamed "cartage/cartagelaw07.DeltaChain" = some 6 by kernel_rfl).symm.trans hf) |>.symm
  obtain rfl : fn = Tryd.f6 := (Option.some.inj (Tryd.func6.symm.trans hfn)).symm
  refine ⟨by kernel_rfl, fun j t ht => ?_⟩
  rw [Tryd.params6] at ht
  rcases j with _ | j
  · obtain rfl := Option.some.inj ht; kernel_rfl
  · simp at ht
theorem card : Rows.DeltaChainCardSaid :=
  Claim7.holds_tied_plain_at .later [] _ _ _ _ said (fun _ h => by cases h) (by kernel_rfl) (fun _ h => by cases h) deltaChain_row_tie rfl ⟨rfl, rfl⟩ (by kernel_rfl) rfl plain (by kernel_rfl)
end Go.Proofs.YthagldpgibpbdaaDoor.lawDeltaChain
