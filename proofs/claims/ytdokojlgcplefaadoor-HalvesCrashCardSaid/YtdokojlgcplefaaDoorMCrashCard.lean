/- Proved here: for every number of sectors and every row of acts (records appended, a log laid anew, the power armed, crashes): wherever the power fails and whatever is kept, the log opened anew tells the records that it had, or those with the call that was on, but where a torn record begins as the whole one does: HalvesCrash answers true. No condition but the program's own: the listed variables are as their initialisers lay them. -/
import Derived.Test.YtdokojlgcplefaaDoorMLawKits
import Derived.Test.YtdokojlgcplefaaDoorMHk22
namespace Go.Proofs.YtdokojlgcplefaaDoor.lawCrash
open Go Go.RowKit Go.WideShapes Go.ChangeShapes Go.ChangeAt
noncomputable def laidWorldC (os : Os) : World :=
 let w0 := World.holding Tryd.prog os ⟨(stexts.map fun t => Obj.cells #[.string ⟨t.toArray⟩] 161).toArray, #[], []⟩
 { w0 with heap := ((([0, 1, 2, 3, 6, 10, 15, 20] : List Nat).foldl (fun h k => h.modify (sgs.getD k 0) (putCells #[ev ⟨lowE + k, 0, none⟩])) w0.heap).modify 7 (putCells (u32s Sha.H0))).modify 10 (putCells (u32s Sha.K)) }
theorem hsents_of (W : World) (h : ∀ k, (k = 0 ∨ k = 1 ∨ k = 2 ∨ k = 3 ∨ k = 6 ∨ k = 10 ∨ k = 15 ∨ k = 20) → ∃ a, SentAt W (sgs.getD k 0) (stexts.getD k []) a) : ∃ a, HSents W a := by
 classical
 refine ⟨fun k => if hk : (k = 0 ∨ k = 1 ∨ k = 2 ∨ k = 3 ∨ k = 6 ∨ k = 10 ∨ k = 15 ∨ k = 20) then Classical.choose (h k hk) else ⟨0, 0, none⟩, fun k hk => ?_⟩
 simp only [hk, dif_pos]
 exact Classical.choose_spec (h k hk)
set_option maxRecDepth 100000 in
theorem contract (H : Type) (enc : TypeId × Value → H) (W : World) (base : Nat) (args : Array Value) (ds gs : List (DataW H)) (before : List MemPlace)
  (hval : ∀ (j : Nat) t v, Tryd.f3.params[j]? = some t → args[j]? = some v → Value.okWide Tryd.prog W .any base t v)
  (hW : DataW.Whole enc Tryd.prog Tryd.f3.params.toList Rows.halvesCrashSpec.vars false W args.toList ds gs before) (hL : laidMetH Tryd.prog Rows.halvesCrashRow.laid W) :
  Calls Tryd.prog 3 args W fun e W' => ∃ v, e = .returned v ∧ Rows.halvesCrashSpec.post enc Tryd.prog Tryd.f3 false true false false W args v W' := by
 have hW0 := hW
 obtain ⟨p, q, hA, hV, _, _, _⟩ := hW
 obtain ⟨rfl, rfl⟩ := trodVars_none hV
 rw [Tryd.params3] at hA hval
 have hM : laidMet Tryd.prog Rows.halvesCrashRow.laid W := hL
 have s0 := sent_of W _ hM 0 "cartage/api.ErrRange" (stexts.getD 0 []) 0 rfl (by kernel_rfl) (by kernel_rfl)
 have s1 := sent_of W _ hM 1 "cartage/api.ErrShort" (stexts.getD 1 []) 6 rfl (by kernel_rfl) (by kernel_rfl)
 have s2 := sent_of W _ hM 2 "cartage/api.ErrLong" (stexts.getD 2 []) 5 rfl (by kernel_rfl) (by kernel_rfl)
 have s3 := sent_of W _ hM 3 "cartage/api.ErrForm" (stexts.getD 3 []) 8 rfl (by kernel_rfl) (by kernel_rfl)
 have s6 := sent_of W _ hM 4 "cartage/api.ErrKind" (stexts.getD 6 []) 4 rfl (by kernel_rfl) (by kernel_rfl)
 have s10 := sent_of W _ hM 5 "cartage/api.ErrQuota" (stexts.getD 10 []) 3 rfl (by kernel_rfl) (by kernel_rfl)
 have s15 := sent_of W _ hM 6 "cartage/api.ErrDown" (stexts.getD 15 []) 2 rfl (by kernel_rfl) (by kernel_rfl)
 have s20 := sent_of W _ hM 7 "cartage/api.ErrNone" (stexts.getD 20 []) 1 rfl (by kernel_rfl) (by kernel_rfl)
 have hT : Tabs W := tabs_of_laid (laidMet_drop 8 hM)
 obtain ⟨sa, hsa⟩ := hsents_of W (fun k hk => by
  rcases hk with rfl | rfl | rfl | rfl | rfl | rfl | rfl | rfl
  ·exact s0
  ·exact s1
  ·exact s2
  ·exact s3
  ·exact s6
  ·exact s10
  ·exact s15
  ·exact s20)
 clear hM hL
 obtain ⟨v1, v2, d1, d2, p1, p2, rfl, rfl, rfl, h1, h2⟩ := trodAll_two hA
 obtain ⟨x, rfl, rfl, rfl, hx0⟩ := open_int Tryd.underlying3 (hval 0 3 v1 rfl rfl) h1
 obtain ⟨A, b, o, cap, xs, rfl, hA1, hx⟩ := open_actsH (tI := 3) (tS := 33) (tE := 39) (q := 5) (tK := 34) (qb := 4) Tryd.underlying22 Tryd.underlying36 ⟨by kernel_rfl, by kernel_rfl⟩ ⟨by kernel_rfl, by kernel_rfl⟩ ⟨by kernel_rfl, by kernel_rfl⟩ ⟨by kernel_rfl, by kernel_rfl⟩ Tryd.underlying3 Tryd.underlying33 Tryd.underlying39 Tryd.underlying5 Tryd.underlying34 Tryd.underlying4 (by kernel_rfl) (by kernel_rfl) (by kernel_rfl) (by kernel_rfl) (by kernel_rfl) (by kernel_rfl) (by kernel_rfl) (Nat.lt_of_le_of_lt (Nat.zero_le _) (hsa 0 (by omega)).lt) (hval 1 22 v2 rfl rfl) h2
 refine (crash_law x A b o cap xs sa W hA1 hx hsa hT).mono fun e W' ⟨he, hb⟩ => ?_
 exact ⟨_, he, law_post (P := Tryd.prog) laidOut mapsRowed_ slicesFull rfl (by kernel_rfl) Tryd.underlying4 (by rw [Tryd.params3]; decide +kernel) ⟨rfl, rfl, rfl⟩ hW0 hb⟩
set_option maxRecDepth 100000 in
theorem laid_met (os : Os) : laidMet Tryd.prog Rows.halvesCrashRow.laid ((laidWorldC os).forCall (fun _ _ => 0) ⟨#[], #[.int .i64 0, .slice none 0 0], []⟩).memory :=
 laidMet_of_run3 8 (by kernel_rfl) (by kernel_rfl) (by kernel_rfl)
set_option maxRecDepth 100000 in
theorem reads (os : Os) {H : Type} (enc : TypeId × Value → H) : ∃ places, DataW.whole enc Tryd.prog ((laidWorldC os).forCall (fun _ _ => 0) ⟨#[], #[.int .i64 0, .slice none 0 0], []⟩).memory Tryd.f3.params.toList Rows.halvesCrashSpec.vars false (#[.int .i64 0, .slice none 0 0] : Array Value).toList 8 = some ([.lit (.int .i64 0), .nil], [], places) :=
 ⟨[], by kernel_rfl⟩
set_option maxRecDepth 100000 in
theorem lifted (os : Os) (started : os.Started) (H : Type) (enc : TypeId × Value → H) (F : Stop.Interp) :
  ReturnsInHanded {} Tryd.checked os 3 .any ((OpenSpec.ofChange Rows.halvesCrashSpec).preRow enc Tryd.prog Tryd.f3 Rows.halvesCrashRow.domain false Rows.halvesCrashRow.laid) (((OpenSpec.ofChange Rows.halvesCrashSpec).at F).post enc Tryd.prog Tryd.f3 false true false false) := by
 obtain ⟨places, hx⟩ := reads os enc
 refine returnsInHanded_of_row (C := Tryd.checked) (s := OpenSpec.ofChange Rows.halvesCrashSpec) own started (by kernel_rfl) Tryd.func3
  (witness_row_at (enc := enc) (C := Tryd.checked) false (laidWorldC os) #[.int .i64 0, .slice none 0 0] rfl (by kernel_rfl) (by kernel_rfl) (by kernel_rfl)
   (OpenSpec.preRow_of_cond 8 hx (by kernel_rfl) (fun k hk => by cases hk) (by kernel_rfl) (laid_met os))) ?_
 intro W base args ds gs before hval hW _ _ _ hL _ _
 exact contract H enc W base args ds gs before hval hW hL
theorem said : Rows.HalvesCrashSaid :=
 OpenClaim.holds_of_cond 3 Tryd.f3 rfl rfl rfl rfl rfl rfl rfl ⟨rfl, rfl, rfl, rfl, rfl⟩ rfl rfl rfl rfl rfl (by kernel_rfl) Tryd.func3 (by kernel_rfl)
  (of_decide_eq_true (by kernel_rfl)) (by unfold Func.isWrapper; first | (rw [if_pos (by decide +kernel)]; kernel_rfl) | (rw [if_neg (by decide +kernel)]; exact ⟨rfl, rfl⟩))
  (fun os started H enc _ F => by rw [OpenClaim.pre_eq_preRow]; exact lifted os started H enc F)
theorem plain (f : FuncId) (fn : Func) (hf : Tryd.pinned.checked.prog.funcNamed "cartage/cartagelaw05.HalvesCrash" = some f) (hfn : Tryd.pinned.checked.prog.funcs[f]? = some fn) :
  true = Tryd.pinned.checked.prog.looks [] ∧ ∀ (j : Nat) t, fn.params[j]? = some t → Tryd.pinned.checked.prog.wantsStandIn t = false := by
 obtain rfl : f = 3 := Option.some.inj ((show Tryd.prog.funcNamed "cartage/cartagelaw05.HalvesCrash" = some 3 by kernel_rfl).symm.trans hf) |>.symm
 obtain rfl : fn = Tryd.f3 := (Option.some.inj (Tryd.func3.symm.trans hfn)).symm
 refine ⟨by kernel_rfl, fun j t ht => ?_⟩
 rw [Tryd.params3] at ht
 rcases j with _ | _ | j
 ·obtain rfl := Option.some.inj ht; kernel_rfl
 ·obtain rfl := Option.some.inj ht; kernel_rfl
 ·simp at ht
theorem card : Rows.HalvesCrashCardSaid :=
 Claim7.holds_tied_plain_at .later [] _ _ _ _ said (fun _ h => by cases h) (by kernel_rfl) (fun _ h => by cases h) halvesCrash_row_tie rfl ⟨rfl, rfl⟩ (by kernel_rfl) rfl plain (by kernel_rfl)
end Go.Proofs.YtdokojlgcplefaaDoor.lawCrash
