/- Proved here: for every entry that is not more than the law asks: a right entry has right objects, each once, and no more bytes than may be; without its objects it is right, too, and has no more bytes: EntryParts answers true. No condition but the program's own: the listed variables are as their initialisers lay them. -/
import Derived.Test.YtldfjpafpfakcaaDoorMBases
import Derived.Test.YtldfjpafpfakcaaDoorMEn4s
import Derived.Test.YtldfjpafpfakcaaDoorMEn23
namespace Go.Proofs.YtldfjpafpfakcaaDoor.lawEntryParts
open Go Go.RowKit Go.WideShapes Go.ChangeShapes Go.ChangeAt
/-- A world for the witness: the settled one, with the listed variables as their initialisers lay them. -/
noncomputable def laidWorldP (os : Os) : World :=
  let w0 := World.holding Tryd.prog os ⟨(stexts.map fun t => Obj.cells #[.string ⟨t.toArray⟩] 163).toArray, #[], []⟩
  { w0 with heap := (([0, 1, 2, 3, 6, 12] : List Nat).foldl (fun h k => h.modify (sgs.getD k 0) (putCells #[ev ⟨lowE + k, 0, none⟩])) w0.heap).modify 7 (putCells (u8s Go.Pinned.utf8FirstZ)) |>.modify 8 (putCells (u8s ([128, 191, 160, 191, 128, 159, 144, 191, 128, 143] ++ List.replicate 22 0))) }
theorem some_of (W : World) (h : ∀ k, (k = 0 ∨ k = 1 ∨ k = 3 ∨ k = 6 ∨ k = 12) → ∃ a, SentAt W (sgs.getD k 0) (stexts.getD k []) a) : ∃ a, ESents W a := by
  have hs : ∀ k, ∃ a, (k = 0 ∨ k = 1 ∨ k = 3 ∨ k = 6 ∨ k = 12) → SentAt W (sgs.getD k 0) (stexts.getD k []) a := fun k => by
    by_cases hk : k = 0 ∨ k = 1 ∨ k = 3 ∨ k = 6 ∨ k = 12
    · obtain ⟨a, ha⟩ := h k hk
      exact ⟨a, fun _ => ha⟩
    · exact ⟨⟨0, 0, none⟩, fun h => absurd h hk⟩
  refine ⟨fun k => Classical.choose (hs k), ⟨⟨?_, ?_, ?_⟩, ?_, ?_⟩⟩
  · exact (Classical.choose_spec (hs 1) (by omega)).var
  · exact (Classical.choose_spec (hs 3) (by omega)).var
  · exact (Classical.choose_spec (hs 6) (by omega)).var
  · exact (Classical.choose_spec (hs 12) (by omega)).var
  · exact (Classical.choose_spec (hs 0) (by omega)).var
theorem max_of {W : World} (h : W.ShapedOpen Tryd.prog) : MaxAt W := by
  obtain ⟨m, hm⟩ := Tryd.laysM219.s1_3 W h
  exact ⟨block_lt_of_cell hm, m, hm⟩
set_option maxRecDepth 100000 in
theorem contract (H : Type) (enc : TypeId × Value → H) (W : World) (_base : Nat) (args : Array Value) (ds gs : List (DataW H)) (before : List MemPlace)
    (hW : DataW.Whole enc Tryd.prog Tryd.f4.params.toList Rows.entryPartsSpec.vars false W args.toList ds gs before) (hL : laidMetH Tryd.prog Rows.entryPartsRow.laid W) (hsh : W.ShapedOpen Tryd.prog) :
    Calls Tryd.prog 4 args W fun e W' => ∃ v, e = .returned v ∧ Rows.entryPartsSpec.post enc Tryd.prog Tryd.f4 false true false false W args v W' := by
  have hW0 := hW
  obtain ⟨p, q, hA, hV, _, _, _⟩ := hW
  obtain ⟨rfl, rfl⟩ := trodVars_none hV
  rw [Tryd.params4] at hA
  have hmx := max_of hsh
  clear hsh
  have hM : laidMet Tryd.prog Rows.entryPartsRow.laid W := hL
  have s0 := sent_of W _ hM 1 "cartage/api.ErrRange" (stexts.getD 0 []) 4 rfl (by kernel_rfl) (by kernel_rfl)
  have s1 := sent_of W _ hM 2 "cartage/api.ErrShort" (stexts.getD 1 []) 5 rfl (by kernel_rfl) (by kernel_rfl)
  have s3 := sent_of W _ hM 4 "cartage/api.ErrForm" (stexts.getD 3 []) 0 rfl (by kernel_rfl) (by kernel_rfl)
  have s6 := sent_of W _ hM 5 "cartage/api.ErrKind" (stexts.getD 6 []) 3 rfl (by kernel_rfl) (by kernel_rfl)
  have s12 := sent_of W _ hM 6 "cartage/api.ErrLarge" (stexts.getD 12 []) 1 rfl (by kernel_rfl) (by kernel_rfl)
  obtain ⟨sa, hsa⟩ := some_of W (fun k hk => by
    rcases hk with rfl | rfl | rfl | rfl | rfl
    · exact s0
    · exact s1
    · exact s3
    · exact s6
    · exact s12)
  clear hM hL
  obtain ⟨v1, d1, rfl, rfl, h1⟩ := trodAll_one hA
  obtain ⟨a, ca, U1, cu1, O1, co1, ts, rfl, ha⟩ := open_ent h1
  refine (eparts_law a ca U1 O1 cu1 co1 ts sa W ha hsa hmx).mono fun e W' ⟨he, hb⟩ => ?_
  exact ⟨_, he, law_post (P := Tryd.prog) laidOut mapsRowed_ slicesFull rfl (by kernel_rfl) Tryd.underlying4 (by rw [Tryd.params4]; decide +kernel) ⟨rfl, rfl, rfl⟩ hW0 hb⟩
set_option maxRecDepth 100000 in
theorem laid_met (os : Os) : laidMet Tryd.prog Rows.entryPartsRow.laid ((laidWorldP os).forCall (fun _ _ => 0) ⟨#[], #[.agg #[.int .i64 0, .int .i64 0, .int .i64 0, .slice none 0 0, .slice none 0 0]], []⟩).memory :=
  laidMet_of_run3 8 (by kernel_rfl) (by kernel_rfl) (by kernel_rfl)
set_option maxRecDepth 100000 in
theorem reads (os : Os) {H : Type} (enc : TypeId × Value → H) : ∃ places, DataW.whole enc Tryd.prog ((laidWorldP os).forCall (fun _ _ => 0) ⟨#[], #[.agg #[.int .i64 0, .int .i64 0, .int .i64 0, .slice none 0 0, .slice none 0 0]], []⟩).memory Tryd.f4.params.toList Rows.entryPartsSpec.vars false (#[.agg #[.int .i64 0, .int .i64 0, .int .i64 0, .slice none 0 0, .slice none 0 0]] : Array Value).toList 8 = some ([.agg [.lit (.int .i64 0), .lit (.int .i64 0), .lit (.int .i64 0), .nil, .nil]], [], places) :=
  ⟨[], by kernel_rfl⟩
set_option maxRecDepth 100000 in
theorem lifted (os : Os) (started : os.Started) (H : Type) (enc : TypeId × Value → H) (F : Stop.Interp) :
    ReturnsInHanded {} Tryd.checked os 4 .any ((OpenSpec.ofChange Rows.entryPartsSpec).preRow enc Tryd.prog Tryd.f4 Rows.entryPartsRow.domain false Rows.entryPartsRow.laid) (((OpenSpec.ofChange Rows.entryPartsSpec).at F).post enc Tryd.prog Tryd.f4 false true false false) := by
  obtain ⟨places, hx⟩ := reads os enc
  refine returnsInHanded_of_row (C := Tryd.checked) (s := OpenSpec.ofChange Rows.entryPartsSpec) own started (by kernel_rfl) Tryd.func4
    (witness_row_at (enc := enc) (C := Tryd.checked) false (laidWorldP os) #[.agg #[.int .i64 0, .int .i64 0, .int .i64 0, .slice none 0 0, .slice none 0 0]] rfl (by kernel_rfl) (by kernel_rfl) (by kernel_rfl)
      (OpenSpec.preRow_of_cond 8 hx (by kernel_rfl) (fun k hk => by cases hk) (by kernel_rfl) (laid_met os))) ?_
  intro W base args ds gs before hval hW _ _ _ hL hsh _
  exact contract H enc W base args ds gs before hW hL hsh
theorem said : Rows.EntryPartsSaid :=
  OpenClaim.holds_of_cond 4 Tryd.f4 rfl rfl rfl rfl rfl rfl rfl ⟨rfl, rfl, rfl, rfl, rfl⟩ rfl rfl rfl rfl rfl (by kernel_rfl) Tryd.func4 (by kernel_rfl)
    (of_decide_eq_true (by kernel_rfl)) (by unfold Func.isWrapper; first | (rw [if_pos (by decide +kernel)]; kernel_rfl) | (rw [if_neg (by decide +kernel)]; exact ⟨rfl, rfl⟩))
    (fun os started H enc _ F => by rw [OpenClaim.pre_eq_preRow]; exact lifted os started H enc F)
theorem plain (f : FuncId) (fn : Func) (hf : Tryd.pinned.checked.prog.funcNamed "cartage/cartagelaw10.EntryParts" = some f) (hfn : Tryd.pinned.checked.prog.funcs[f]? = some fn) :
    true = Tryd.pinned.checked.prog.looks [] ∧ ∀ (j : Nat) t, fn.params[j]? = some t → Tryd.pinned.checked.prog.wantsStandIn t = false := by
  obtain rfl : f = 4 := Option.some.inj ((show Tryd.prog.funcNamed "cartage/cartagelaw10.EntryParts" = some 4 by kernel_rfl).symm.trans hf) |>.symm
  obtain rfl : fn = Tryd.f4 := (Option.some.inj (Tryd.func4.symm.trans hfn)).symm
  refine ⟨by kernel_rfl, fun j t ht => ?_⟩
  rw [Tryd.params4] at ht
  rcases j with _ | j
  · obtain rfl := Option.some.inj ht; kernel_rfl
  · simp at ht
theorem card : Rows.EntryPartsCardSaid :=
  Claim7.holds_tied_plain_at .later [] _ _ _ _ said (fun _ h => by cases h) (by kernel_rfl) (fun _ h => by cases h) entryParts_row_tie rfl ⟨rfl, rfl⟩ (by kernel_rfl) rfl plain (by kernel_rfl)
end Go.Proofs.YtldfjpafpfakcaaDoor.lawEntryParts
