/- Proved here: for every entry that is not more than the law asks: entry.Right and entry.Updates say what the document says; entry.Bytes answers the error that the document names, or the bytes that it lays, which are parsed as the entry: EntryBytes answers true. No condition but the program's own: the listed variables are as their initialisers lay them. -/
import Derived.Test.YtjkneidoochfjaaGreatDoorMBases
import Derived.Test.YtjkneidoochfjaaGreatDoorMEn4s
import Derived.Test.YtjkneidoochfjaaGreatDoorMEn40
namespace Go.Proofs.YtjkneidoochfjaaGreatDoor.lawEntryBytes
open Go Go.RowKit Go.WideShapes Go.ChangeShapes Go.ChangeAt
/-- A world for the witness: the settled one, with the listed variables as their initialisers lay them. -/
noncomputable def laidWorldP (os : Os) : World :=
  let w0 := World.holding Tryz.prog os ⟨(stexts.map fun t => Obj.cells #[.string ⟨t.toArray⟩] 215).toArray, #[], []⟩
  { w0 with heap := (([0, 1, 2, 3, 4, 5, 6, 7, 8, 9, 10, 11, 12, 13, 14, 15, 16, 17, 18, 19, 20, 21] : List Nat).foldl (fun h k => h.modify (sgs.getD k 0) (putCells #[ev ⟨lowE + k, 0, none⟩])) w0.heap).modify 23 (putCells (u8s Go.Pinned.utf8FirstZ)) |>.modify 24 (putCells (u8s ([128, 191, 160, 191, 128, 159, 144, 191, 128, 143] ++ List.replicate 22 0))) }
theorem max_of {W : World} (h : W.ShapedOpen Tryz.prog) : MaxAt W := by
  obtain ⟨m, hm⟩ := Tryz.laysM219.s1_3 W h
  exact ⟨block_lt_of_cell hm, m, hm⟩
set_option maxRecDepth 100000 in
theorem contract (H : Type) (enc : TypeId × Value → H) (W : World) (_base : Nat) (args : Array Value) (ds gs : List (DataW H)) (before : List MemPlace)
    (hW : DataW.Whole enc Tryz.prog Tryz.f3.params.toList Rows.entryBytesSpec.vars false W args.toList ds gs before) (hL : laidMetH Tryz.prog Rows.entryBytesRow.laid W) (hsh : W.ShapedOpen Tryz.prog) :
    Calls Tryz.prog 3 args W fun e W' => ∃ v, e = .returned v ∧ Rows.entryBytesSpec.post enc Tryz.prog Tryz.f3 false true false false W args v W' := by
  have hW0 := hW
  obtain ⟨p, q, hA, hV, _, _, _⟩ := hW
  obtain ⟨rfl, rfl⟩ := trodVars_none hV
  rw [Tryz.params3] at hA
  have hmx := max_of hsh
  clear hsh
  have hM : laidMet Tryz.prog Rows.entryBytesRow.laid W := hL
  have s0 := sent_of W _ hM 1 "cartage/api.ErrRange" (stexts.getD 0 []) 2 rfl (by kernel_rfl) (by kernel_rfl)
  have s1 := sent_of W _ hM 2 "cartage/api.ErrShort" (stexts.getD 1 []) 3 rfl (by kernel_rfl) (by kernel_rfl)
  have s2 := sent_of W _ hM 3 "cartage/api.ErrLong" (stexts.getD 2 []) 4 rfl (by kernel_rfl) (by kernel_rfl)
  have s3 := sent_of W _ hM 4 "cartage/api.ErrForm" (stexts.getD 3 []) 0 rfl (by kernel_rfl) (by kernel_rfl)
  have s4 := sent_of W _ hM 5 "cartage/api.ErrSum" (stexts.getD 4 []) 5 rfl (by kernel_rfl) (by kernel_rfl)
  have s5 := sent_of W _ hM 6 "cartage/api.ErrName" (stexts.getD 5 []) 6 rfl (by kernel_rfl) (by kernel_rfl)
  have s6 := sent_of W _ hM 7 "cartage/api.ErrKind" (stexts.getD 6 []) 7 rfl (by kernel_rfl) (by kernel_rfl)
  have s7 := sent_of W _ hM 8 "cartage/api.ErrDepth" (stexts.getD 7 []) 8 rfl (by kernel_rfl) (by kernel_rfl)
  have s8 := sent_of W _ hM 9 "cartage/api.ErrMissing" (stexts.getD 8 []) 9 rfl (by kernel_rfl) (by kernel_rfl)
  have s9 := sent_of W _ hM 10 "cartage/api.ErrCas" (stexts.getD 9 []) 10 rfl (by kernel_rfl) (by kernel_rfl)
  have s10 := sent_of W _ hM 11 "cartage/api.ErrQuota" (stexts.getD 10 []) 11 rfl (by kernel_rfl) (by kernel_rfl)
  have s11 := sent_of W _ hM 12 "cartage/api.ErrQueue" (stexts.getD 11 []) 12 rfl (by kernel_rfl) (by kernel_rfl)
  have s12 := sent_of W _ hM 13 "cartage/api.ErrLarge" (stexts.getD 12 []) 1 rfl (by kernel_rfl) (by kernel_rfl)
  have s13 := sent_of W _ hM 14 "cartage/api.ErrNoRepo" (stexts.getD 13 []) 13 rfl (by kernel_rfl) (by kernel_rfl)
  have s14 := sent_of W _ hM 15 "cartage/api.ErrExists" (stexts.getD 14 []) 14 rfl (by kernel_rfl) (by kernel_rfl)
  have s15 := sent_of W _ hM 16 "cartage/api.ErrDown" (stexts.getD 15 []) 15 rfl (by kernel_rfl) (by kernel_rfl)
  have s16 := sent_of W _ hM 17 "cartage/api.ErrTimeout" (stexts.getD 16 []) 16 rfl (by kernel_rfl) (by kernel_rfl)
  have s17 := sent_of W _ hM 18 "cartage/api.ErrStale" (stexts.getD 17 []) 17 rfl (by kernel_rfl) (by kernel_rfl)
  have s18 := sent_of W _ hM 19 "cartage/api.ErrState" (stexts.getD 18 []) 18 rfl (by kernel_rfl) (by kernel_rfl)
  have s19 := sent_of W _ hM 20 "cartage/api.ErrDup" (stexts.getD 19 []) 19 rfl (by kernel_rfl) (by kernel_rfl)
  have s20 := sent_of W _ hM 21 "cartage/api.ErrNone" (stexts.getD 20 []) 20 rfl (by kernel_rfl) (by kernel_rfl)
  have s21 := sent_of W _ hM 22 "cartage/api.ErrFull" (stexts.getD 21 []) 21 rfl (by kernel_rfl) (by kernel_rfl)
  obtain ⟨sa, hsa⟩ := sents_of W (fun k hk => by
    match k, hk with
    | 0, _ => exact s0
    | 1, _ => exact s1
    | 2, _ => exact s2
    | 3, _ => exact s3
    | 4, _ => exact s4
    | 5, _ => exact s5
    | 6, _ => exact s6
    | 7, _ => exact s7
    | 8, _ => exact s8
    | 9, _ => exact s9
    | 10, _ => exact s10
    | 11, _ => exact s11
    | 12, _ => exact s12
    | 13, _ => exact s13
    | 14, _ => exact s14
    | 15, _ => exact s15
    | 16, _ => exact s16
    | 17, _ => exact s17
    | 18, _ => exact s18
    | 19, _ => exact s19
    | 20, _ => exact s20
    | 21, _ => exact s21
    | k + 22, hk => omega)
  clear hM hL
  obtain ⟨v1, d1, rfl, rfl, h1⟩ := trodAll_one hA
  obtain ⟨a, ca, U1, cu1, O1, co1, ts, rfl, ha, hoa⟩ := open_ent h1
  refine (ebytes_law a ca U1 O1 cu1 co1 ts sa W ha hoa hsa hmx).mono fun e W' ⟨he, hb⟩ => ?_
  exact ⟨_, he, law_post (P := Tryz.prog) laidOut mapsRowed_ slicesFull rfl (by kernel_rfl) Tryz.underlying4 (by rw [Tryz.params3]; decide +kernel) ⟨rfl, rfl, rfl⟩ hW0 hb⟩
set_option maxRecDepth 100000 in
theorem laid_met (os : Os) : laidMet Tryz.prog Rows.entryBytesRow.laid ((laidWorldP os).forCall (fun _ _ => 0) ⟨#[], #[.agg #[.int .i64 0, .int .i64 0, .int .i64 0, .slice none 0 0, .slice none 0 0]], []⟩).memory :=
  laidMet_of_run3 8 (by kernel_rfl) (by kernel_rfl) (by kernel_rfl)
set_option maxRecDepth 100000 in
theorem reads (os : Os) {H : Type} (enc : TypeId × Value → H) : ∃ places, DataW.whole enc Tryz.prog ((laidWorldP os).forCall (fun _ _ => 0) ⟨#[], #[.agg #[.int .i64 0, .int .i64 0, .int .i64 0, .slice none 0 0, .slice none 0 0]], []⟩).memory Tryz.f3.params.toList Rows.entryBytesSpec.vars false (#[.agg #[.int .i64 0, .int .i64 0, .int .i64 0, .slice none 0 0, .slice none 0 0]] : Array Value).toList 8 = some ([.agg [.lit (.int .i64 0), .lit (.int .i64 0), .lit (.int .i64 0), .nil, .nil]], [], places) :=
  ⟨[], by kernel_rfl⟩
set_option maxRecDepth 100000 in
theorem lifted (os : Os) (started : os.Started) (H : Type) (enc : TypeId × Value → H) (F : Stop.Interp) :
    ReturnsInHanded {} Tryz.checked os 3 .any ((OpenSpec.ofChange Rows.entryBytesSpec).preRow enc Tryz.prog Tryz.f3 Rows.entryBytesRow.domain false Rows.entryBytesRow.laid) (((OpenSpec.ofChange Rows.entryBytesSpec).at F).post enc Tryz.prog Tryz.f3 false true false false) := by
  obtain ⟨places, hx⟩ := reads os enc
  refine returnsInHanded_of_row (C := Tryz.checked) (s := OpenSpec.ofChange Rows.entryBytesSpec) own started (by kernel_rfl) Tryz.func3
    (witness_row_at (enc := enc) (C := Tryz.checked) false (laidWorldP os) #[.agg #[.int .i64 0, .int .i64 0, .int .i64 0, .slice none 0 0, .slice none 0 0]] rfl (by kernel_rfl) (by kernel_rfl) (by kernel_rfl)
      (OpenSpec.preRow_of_cond 8 hx (by kernel_rfl) (fun k hk => by cases hk) (by kernel_rfl) (laid_met os))) ?_
  intro W base args ds gs before hval hW _ _ _ hL hsh _
  exact contract H enc W base args ds gs before hW hL hsh
theorem said : Rows.EntryBytesSaid :=
  OpenClaim.holds_of_cond 3 Tryz.f3 rfl rfl rfl rfl rfl rfl rfl ⟨rfl, rfl, rfl, rfl, rfl⟩ rfl rfl rfl rfl rfl (by kernel_rfl) Tryz.func3 (by kernel_rfl)
    (of_decide_eq_true (by kernel_rfl)) (by unfold Func.isWrapper; first | (rw [if_pos (by decide +kernel)]; kernel_rfl) | (rw [if_neg (by decide +kernel)]; exact ⟨rfl, rfl⟩))
    (fun os started H enc _ F => by rw [OpenClaim.pre_eq_preRow]; exact lifted os started H enc F)
theorem plain (f : FuncId) (fn : Func) (hf : Tryz.pinned.checked.prog.funcNamed "cartage/cartagelaw10.EntryBytes" = some f) (hfn : Tryz.pinned.checked.prog.funcs[f]? = some fn) :
    true = Tryz.pinned.checked.prog.looks [] ∧ ∀ (j : Nat) t, fn.params[j]? = some t → Tryz.pinned.checked.prog.wantsStandIn t = false := by
  obtain rfl : f = 3 := Option.some.inj ((show Tryz.prog.funcNamed "cartage/cartagelaw10.EntryBytes" = some 3 by kernel_rfl).symm.trans hf) |>.symm
  obtain rfl : fn = Tryz.f3 := (Option.some.inj (Tryz.func3.symm.trans hfn)).symm
  refine ⟨by kernel_rfl, fun j t ht => ?_⟩
  rw [Tryz.params3] at ht
  rcases j with _ | j
  · obtain rfl := Option.some.inj ht; kernel_rfl
  · simp at ht
theorem card : Rows.EntryBytesCardSaid :=
  Claim7.holds_tied_plain_at .later [] _ _ _ _ said (fun _ h => by cases h) (by kernel_rfl) (fun _ h => by cases h) entryBytes_row_tie rfl ⟨rfl, rfl⟩ (by kernel_rfl) rfl plain (by kernel_rfl)
end Go.Proofs.YtjkneidoochfjaaGreatDoor.lawEntryBytes
