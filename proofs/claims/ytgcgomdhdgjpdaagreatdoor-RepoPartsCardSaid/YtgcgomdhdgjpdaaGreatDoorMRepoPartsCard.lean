/- texts joined -/
import Derived.Test.YtgcgomdhdgjpdaaGreatDoorMEn11s
import Derived.SizedLaws
import Derived.Test.YtgcgomdhdgjpdaaGreatDoorMShelfs
import Derived.Test.YtgcgomdhdgjpdaaGreatDoorMRp40
namespace Go.Proofs.YtgcgomdhdgjpdaaGreatDoor.lawRepoParts
open Go Go.RowKit Go.WideShapes Go.ChangeShapes Go.ChangeAt
noncomputable def laidWorldP (os : Os) : World :=
 let w0 := World.holding Tryz.prog os ⟨(stexts.map fun t => Obj.cells #[.string ⟨t.toArray⟩] 297).toArray, #[], []⟩
 { w0 with heap := (((([0, 1, 2, 3, 4, 5, 6, 7, 8, 9, 10, 11, 12, 13, 14, 15, 16, 17, 18, 19, 20, 21] : List Nat).foldl (fun h k => h.modify (sgs.getD k 0) (putCells #[ev ⟨lowE + k, 0, none⟩])) w0.heap).modify 22 (putCells (u32s Sha.H0))).modify 23 (putCells (u32s Sha.K))).modify 25 (putCells (u8s Go.Pinned.utf8FirstZ)) |>.modify 26 (putCells (u8s ([128, 191, 160, 191, 128, 159, 144, 191, 128, 143] ++ List.replicate 22 0))) }
theorem tabs_of {W : World} {rest : List (String × DataW Unit)} (h : laidMet Tryz.prog (("cartage/sha.start", Rows.laid_cartage_sha_start) :: ("cartage/sha.rounds", Rows.laid_cartage_sha_rounds) :: rest) W) : Tabs W := by
 rw [list_start, list_rounds] at h
 have h1 : Lib.TabIs Tryz.prog W "cartage/sha.start" .u32 (Sha.H0.map Int.ofNat) := Lib.tabIs_of_head gStart gStartType Tryz.underlying113 Tryz.underlying112 cells1 cells8 h
 have h2 : Lib.TabIs Tryz.prog W "cartage/sha.rounds" .u32 (Sha.K.map Int.ofNat) := Lib.tabIs_of_head gRounds gRoundsType Tryz.underlying136 Tryz.underlying112 cells1 cells64 h.tail
 have c1 : ∀ i, i < 8 → W.cell? ⟨22, i, none⟩ = some (.int .u32 ((Sha.H0.getD i 0 : Nat) : Int)) := fun i hi => by
  rw [h1.cell gStart i (by simpa [Sha.H0] using hi)]
  simp [List.getD, show i < Sha.H0.length from hi]
 have c2 : ∀ i, i < 64 → W.cell? ⟨23, i, none⟩ = some (.int .u32 ((Sha.K.getD i 0 : Nat) : Int)) := fun i hi => by
  rw [h2.cell gRounds i (by rw [List.length_map]; exact hi)]
  simp [List.getD, show i < Sha.K.length from hi]
 exact ⟨⟨block_lt_of_cell (c2 0 (by omega)), block_lt_of_cell (c1 0 (by omega))⟩, c1, c2⟩
theorem max_of {W : World} (h : W.ShapedOpen Tryz.prog) : MaxAt W := by
 obtain ⟨m, hm⟩ := Tryz.laysM219.s1_3 W h
 exact ⟨block_lt_of_cell hm, m, hm⟩
set_option maxRecDepth 100000 in
theorem contract (H : Type) (enc : TypeId × Value → H) (W : World) (base : Nat) (args : Array Value) (ds gs : List (DataW H)) (before : List MemPlace)
  (hval : ∀ (j : Nat) t v, Tryz.f4.params[j]? = some t → args[j]? = some v → Value.okWide Tryz.prog W .any base t v)
  (hW : DataW.Whole enc Tryz.prog Tryz.f4.params.toList Rows.repoPartsSpec.vars false W args.toList ds gs before) (hL : laidMetH Tryz.prog Rows.repoPartsRow.laid W) (hsh : W.ShapedOpen Tryz.prog)
  (hz : (DataW.weightsEach Tryz.prog (Tryz.f4.params.toList ++ (OpenSpec.ofChange Rows.repoPartsSpec).bare.plain.varTypes Tryz.prog) (ds ++ gs)).all (· ≤ reachBytes) = true) :
  Calls Tryz.prog 4 args W fun e W' => ∃ v, e = .returned v ∧ Rows.repoPartsSpec.post enc Tryz.prog Tryz.f4 false true false false W args v W' := by
 have hW0 := hW
 obtain ⟨p, q, hA, hV, _, _, _⟩ := hW
 obtain ⟨rfl, rfl⟩ := trodVars_none hV
 rw [Tryz.params4] at hA hval hz
 have hmx := max_of hsh
 clear hsh
 have hM : laidMet Tryz.prog Rows.repoPartsRow.laid W := hL
 have s0 := sent_of W _ hM 1 "cartage/api.ErrRange" (stexts.getD 0 []) 2 rfl (by kernel_rfl) (by kernel_rfl)
 have s1 := sent_of W _ hM 2 "cartage/api.ErrShort" (stexts.getD 1 []) 3 rfl (by kernel_rfl) (by kernel_rfl)
 have s2 := sent_of W _ hM 3 "cartage/api.ErrLong" (stexts.getD 2 []) 4 rfl (by kernel_rfl) (by kernel_rfl)
 have s3 := sent_of W _ hM 4 "cartage/api.ErrForm" (stexts.getD 3 []) 0 rfl (by kernel_rfl) (by kernel_rfl)
 have s4 := sent_of W _ hM 5 "cartage/api.ErrSum" (stexts.getD 4 []) 5 rfl (by kernel_rfl) (by kernel_rfl)
 have s5 := sent_of W _ hM 6 "cartage/api.ErrName" (stexts.getD 5 []) 6 rfl (by kernel_rfl) (by kernel_rfl)
 have s6 := sent_of W _ hM 7 "cartage/api.ErrKind" (stexts.getD 6 []) 7 rfl (by kernel_rfl) (by kernel_rfl)
 have s7 := sent_of W _ hM 8 "cartage/api.ErrDepth" (stexts.getD 7 []) 8 rfl (by kernel_rfl) (by kernel_rfl)
 have s8 := sent_of W _ hM 9 "cartage/api.ErrMissing" (stexts.getD 8 []) 9 rfl (by kernel_rfl) (by kernel_rfl)
 have s9 := sent_of W _ hM 10 "cartage/api.ErrCas" (stexts.getD 9 []) 10 rfl (by kernel_rfl) (by kernel_rfl)
 have s10 := sent_of W _ hM 11 "cartage/api.ErrQuota" (stexts.getD 10 []) 11 rfl (by kernel_rfl) (by kernel_rfl)
 have s11 := sent_of W _ hM 12 "cartage/api.ErrQueue" (stexts.getD 11 []) 12 rfl (by kernel_rfl) (by kernel_rfl)
 have s12 := sent_of W _ hM 13 "cartage/api.ErrLarge" (stexts.getD 12 []) 13 rfl (by kernel_rfl) (by kernel_rfl)
 have s13 := sent_of W _ hM 14 "cartage/api.ErrNoRepo" (stexts.getD 13 []) 14 rfl (by kernel_rfl) (by kernel_rfl)
 have s14 := sent_of W _ hM 15 "cartage/api.ErrExists" (stexts.getD 14 []) 15 rfl (by kernel_rfl) (by kernel_rfl)
 have s15 := sent_of W _ hM 16 "cartage/api.ErrDown" (stexts.getD 15 []) 16 rfl (by kernel_rfl) (by kernel_rfl)
 have s16 := sent_of W _ hM 17 "cartage/api.ErrTimeout" (stexts.getD 16 []) 17 rfl (by kernel_rfl) (by kernel_rfl)
 have s17 := sent_of W _ hM 18 "cartage/api.ErrStale" (stexts.getD 17 []) 1 rfl (by kernel_rfl) (by kernel_rfl)
 have s18 := sent_of W _ hM 19 "cartage/api.ErrState" (stexts.getD 18 []) 18 rfl (by kernel_rfl) (by kernel_rfl)
 have s19 := sent_of W _ hM 20 "cartage/api.ErrDup" (stexts.getD 19 []) 19 rfl (by kernel_rfl) (by kernel_rfl)
 have s20 := sent_of W _ hM 21 "cartage/api.ErrNone" (stexts.getD 20 []) 20 rfl (by kernel_rfl) (by kernel_rfl)
 have s21 := sent_of W _ hM 22 "cartage/api.ErrFull" (stexts.getD 21 []) 21 rfl (by kernel_rfl) (by kernel_rfl)
 obtain ⟨sa, hsa⟩ := sents_of W (fun k hk => by
  match k, hk with
  | 0, _ => exact s0
  | 1, _ => exact s1
  | 2, _ => exact s2
  | 3, _ => exact s3
  | 4, _ => exact s4
  | 5, _ => exact s5
  | 6, _ => exact s6
  | 7, _ => exact s7
  | 8, _ => exact s8
  | 9, _ => exact s9
  | 10, _ => exact s10
  | 11, _ => exact s11
  | 12, _ => exact s12
  | 13, _ => exact s13
  | 14, _ => exact s14
  | 15, _ => exact s15
  | 16, _ => exact s16
  | 17, _ => exact s17
  | 18, _ => exact s18
  | 19, _ => exact s19
  | 20, _ => exact s20
  | 21, _ => exact s21
  | k + 22, hk => omega)
 have hTab : Tabs W := tabs_of (laidMet_drop 23 hM)
 clear hM hL
 obtain ⟨v1, v2, d1, d2, p1, p2, rfl, rfl, rfl, h1, h2⟩ := trodAll_two hA
 obtain ⟨A, n, c, js, rfl, hT, hd⟩ := open_jents (hval 0 22 v1 rfl rfl) h1
 obtain ⟨z, rfl, rfl, rfl, hzz⟩ := open_int Tryz.underlying3 (hval 1 3 v2 rfl rfl) h2
 have hn : n * 72 ≤ 140737488355328 := by
  rcases Nat.eq_zero_or_pos n with h0 | h0
  ·omega
  ·obtain ⟨elems, spare, rfl, hle⟩ := hd h0
   have h1 := sized_slice hz (j := 0) (t := 22) (e := 32) rfl rfl Tryz.underlying22
   rw [show Tryz.prog.bytesOf 32 = 72 by kernel_rfl] at h1
   have h2 := reachBytes_lt
   have h3 : n * 72 ≤ (elems.length + spare.length) * 72 := Nat.mul_le_mul_right _ hle
   omega
 refine (rparts_law A n c js z sa W hT hn hTab hsa hmx hzz).mono fun e W' ⟨he, hb⟩ => ?_
 exact ⟨_, he, law_post (P := Tryz.prog) laidOut mapsRowed_ slicesFull rfl (by kernel_rfl) Tryz.underlying4 (by rw [Tryz.params4]; decide +kernel) ⟨rfl, rfl, rfl⟩ hW0 hb⟩
set_option maxRecDepth 100000 in
theorem laid_met (os : Os) : laidMet Tryz.prog Rows.repoPartsRow.laid ((laidWorldP os).forCall (fun _ _ => 0) ⟨#[], #[.slice none 0 0, .int .i64 0], []⟩).memory :=
 laidMet_of_run3 8 (by kernel_rfl) (by kernel_rfl) (by kernel_rfl)
set_option maxRecDepth 100000 in
theorem reads (os : Os) {H : Type} (enc : TypeId × Value → H) : ∃ places, DataW.whole enc Tryz.prog ((laidWorldP os).forCall (fun _ _ => 0) ⟨#[], #[.slice none 0 0, .int .i64 0], []⟩).memory Tryz.f4.params.toList Rows.repoPartsSpec.vars false (#[.slice none 0 0, .int .i64 0] : Array Value).toList 8 = some ([.nil, .lit (.int .i64 0)], [], places) :=
 ⟨[], by kernel_rfl⟩
set_option maxRecDepth 100000 in
theorem lifted (os : Os) (started : os.Started) (H : Type) (enc : TypeId × Value → H) (F : Stop.Interp) :
  ReturnsInHanded {} Tryz.checked os 4 .any ((OpenSpec.ofChange Rows.repoPartsSpec).preRow enc Tryz.prog Tryz.f4 Rows.repoPartsRow.domain false Rows.repoPartsRow.laid) (((OpenSpec.ofChange Rows.repoPartsSpec).at F).post enc Tryz.prog Tryz.f4 false true false false) := by
 obtain ⟨places, hx⟩ := reads os enc
 refine returnsInHanded_of_row (C := Tryz.checked) (s := OpenSpec.ofChange Rows.repoPartsSpec) own started (by kernel_rfl) Tryz.func4
  (witness_row_at (enc := enc) (C := Tryz.checked) false (laidWorldP os) #[.slice none 0 0, .int .i64 0] rfl (by kernel_rfl) (by kernel_rfl) (by kernel_rfl)
   (OpenSpec.preRow_of_cond 8 hx (by kernel_rfl) (fun k hk => by cases hk) (by kernel_rfl) (laid_met os))) ?_
 intro W base args ds gs before hval hW _ _ hz hL hsh _
 exact contract H enc W base args ds gs before hval hW hL hsh hz
theorem said : Rows.RepoPartsSaid :=
 OpenClaim.holds_of_cond 4 Tryz.f4 rfl rfl rfl rfl rfl rfl rfl ⟨rfl, rfl, rfl, rfl, rfl⟩ rfl rfl rfl rfl rfl (by kernel_rfl) Tryz.func4 (by kernel_rfl)
  (of_decide_eq_true (by kernel_rfl)) (by unfold Func.isWrapper; first | (rw [if_pos (by decide +kernel)]; kernel_rfl) | (rw [if_neg (by decide +kernel)]; exact ⟨rfl, rfl⟩))
  (fun os started H enc _ F => by rw [OpenClaim.pre_eq_preRow]; exact lifted os started H enc F)
theorem plain (f : FuncId) (fn : Func) (hf : Tryz.pinned.checked.prog.funcNamed "cartage/cartagelaw11.RepoParts" = some f) (hfn : Tryz.pinned.checked.prog.funcs[f]? = some fn) :
  true = Tryz.pinned.checked.prog.looks [] ∧ ∀ (j : Nat) t, fn.params[j]? = some t → Tryz.pinned.checked.prog.wantsStandIn t = false := by
 obtain rfl : f = 4 := Option.some.inj ((show Tryz.prog.funcNamed "cartage/cartagelaw11.RepoParts" = some 4 by kernel_rfl).symm.trans hf) |>.symm
 obtain rfl : fn = Tryz.f4 := (Option.some.inj (Tryz.func4.symm.trans hfn)).symm
 refine ⟨by kernel_rfl, fun j t ht => ?_⟩
 rw [Tryz.params4] at ht
 rcases j with _ | _ | j
 ·obtain rfl := Option.some.inj ht; kernel_rfl
 ·obtain rfl := Option.some.inj ht; kernel_rfl
 ·simp at ht
theorem card : Rows.RepoPartsCardSaid :=
 Claim7.holds_tied_plain_at .later [] _ _ _ _ said (fun _ h => by cases h) (by kernel_rfl) (fun _ h => by cases h) repoParts_row_tie rfl ⟨rfl, rfl⟩ (by kernel_rfl) rfl plain (by kernel_rfl)
end Go.Proofs.YtgcgomdhdgjpdaaGreatDoor.lawRepoParts
