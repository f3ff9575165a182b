/- Proved here: for every shape and all bytes: what octets.Rest reads of them is written, by octets.Write, as just those bytes: OctetsOne answers true. No condition but the program's own: the listed error values are as their initialisers lay them. -/
import Derived.Test.YtedlfafbehhkdaaDoorLawSent
import Derived.Test.YtedlfafbehhkdaaDoorLawOpenB
import Derived.Test.YtedlfafbehhkdaaDoorOneLaw
namespace Go.Proofs.YtedlfafbehhkdaaDoor.lawOne
open Go Go.RowKit Go.WideShapes Go.ChangeShapes Go.ChangeAt
theorem osents_of (W : World) (h : ∀ k, (k = 0 ∨ k = 1 ∨ k = 2 ∨ k = 3 ∨ k = 6) → ∃ a, SentAt W (sgs.getD k 0) (stexts.getD k []) a) : ∃ a, OSents W a := by
  refine ⟨fun k => if hk : k = 0 ∨ k = 1 ∨ k = 2 ∨ k = 3 ∨ k = 6 then Classical.choose (h k hk) else ⟨0, 0, none⟩, fun k hk => ?_⟩
  simp only [hk, dif_pos]
  exact Classical.choose_spec (h k hk)
theorem law_any (s : ByteArray) (A : Option Addr) (n c : Nat) (xs : List Nat) (a : Nat → Addr) (w : World) (hv : Rd w (.slice A n c) xs) (hb : Oc.bytes xs) (hS : OSents w a) :
    Calls Tryd.prog 4 #[.string s, .slice A n c] w fun e w' => e = .returned (.bool true) ∧ Below w.heap.size w w' := by
  by_cases h1 : 60 < s.size ∨ 1000 < n
  · exact one_big s A n c a w hS h1
  cases hk : Oc.known s.data.toList with
  | false => exact one_bad s A n c xs a (a 6) w hv hb hS (by omega) (by omega) fun _ _ _ _ _ _ h => h.1 hk
  | true =>
    cases hr : Oc.reads (shN s) xs with
    | bad e => exact one_bad s A n c xs a (a (e - 1)) w hv hb hS (by omega) (by omega) fun _ _ _ _ _ _ h => h.2.1 hk e hr
    | ok l p => exact one_ok s A n c xs a w hv hb hS (by omega) (by omega) hk l p hr
set_option maxRecDepth 100000 in
theorem contract (H : Type) (enc : TypeId × Value → H) (W : World) (base : Nat) (args : Array Value) (ds gs : List (DataW H)) (before : List MemPlace)
    (hval : ∀ (j : Nat) t v, Tryd.f4.params[j]? = some t → args[j]? = some v → Value.okWide Tryd.prog W .any base t v)
    (hW : DataW.Whole enc Tryd.prog Tryd.f4.params.toList Rows.octetsOneSpec.vars false W args.toList ds gs before) (hL : laidMetH Tryd.prog Rows.octetsOneRow.laid W) :
    Calls Tryd.prog 4 args W fun e W' => ∃ v, e = .returned v ∧ Rows.octetsOneSpec.post enc Tryd.prog Tryd.f4 false true false false W args v W' := by
  have hW0 := hW
  obtain ⟨p, q, hA, hV, _, _, _⟩ := hW
  obtain ⟨rfl, rfl⟩ := trodVars_none hV
  rw [Tryd.params4] at hA hval
  have hM : laidMet Tryd.prog Rows.octetsOneRow.laid W := hL
  have s0 := sent_of W _ hM 0 "cartage/api.ErrRange" (stexts.getD 0 []) 1 rfl (by kernel_rfl) (by kernel_rfl)
  have s1 := sent_of W _ hM 1 "cartage/api.ErrShort" (stexts.getD 1 []) 2 rfl (by kernel_rfl) (by kernel_rfl)
  have s2 := sent_of W _ hM 2 "cartage/api.ErrLong" (stexts.getD 2 []) 3 rfl (by kernel_rfl) (by kernel_rfl)
  have s3 := sent_of W _ hM 3 "cartage/api.ErrForm" (stexts.getD 3 []) 4 rfl (by kernel_rfl) (by kernel_rfl)
  have s6 := sent_of W _ hM 4 "cartage/api.ErrKind" (stexts.getD 6 []) 0 rfl (by kernel_rfl) (by kernel_rfl)
  obtain ⟨sa, hsa⟩ := osents_of W (fun k hk => by
    rcases hk with rfl | rfl | rfl | rfl | rfl
    · exact s0
    · exact s1
    · exact s2
    · exact s3
    · exact s6)
  clear hM hL
  obtain ⟨v1, v2, d1, d2, p1, p2, rfl, rfl, rfl, h1, h2⟩ := trodAll_two hA
  obtain ⟨s, rfl, rfl, rfl, hm⟩ := Go.ChangeMaps.open_string Tryd.underlying9 (hval 0 9 v1 rfl rfl) h1
  obtain ⟨xs, hx, hbx, _⟩ := open_u8s Tryd.underlying24 Tryd.underlying5 (by kernel_rfl) (hval 1 24 v2 rfl rfl) h2
  have hx2 := hx
  obtain ⟨A, c, rfl, _, _⟩ := hx2
  refine (law_any s A xs.length c xs sa W hx (Oc.bytes_of hbx) hsa).mono fun e W' ⟨he, hb⟩ => ?_
  exact ⟨_, he, law_post (P := Tryd.prog) laidOut mapsRowed_ slicesFull rfl (by kernel_rfl) Tryd.underlying4 (by rw [Tryd.params4]; decide +kernel) ⟨rfl, rfl, rfl⟩ hW0 hb⟩
set_option maxRecDepth 100000 in
theorem laid_met (os : Os) : laidMet Tryd.prog Rows.octetsOneRow.laid ((laidWorldS os).forCall (fun _ _ => 0) ⟨#[], #[.string ⟨#[]⟩, .slice none 0 0], []⟩).memory :=
  laidMet_of_run3 8 (by kernel_rfl) (by kernel_rfl) (by kernel_rfl)
set_option maxRecDepth 100000 in
theorem reads (os : Os) {H : Type} (enc : TypeId × Value → H) : ∃ places, DataW.whole enc Tryd.prog ((laidWorldS os).forCall (fun _ _ => 0) ⟨#[], #[.string ⟨#[]⟩, .slice none 0 0], []⟩).memory Tryd.f4.params.toList Rows.octetsOneSpec.vars false (#[.string ⟨#[]⟩, .slice none 0 0] : Array Value).toList 8 = some ([.lit (.string []), .nil], [], places) :=
  ⟨[], by kernel_rfl⟩
set_option maxRecDepth 100000 in
theorem lifted (os : Os) (started : os.Started) (H : Type) (enc : TypeId × Value → H) (F : Stop.Interp) :
    ReturnsInHanded {} Tryd.checked os 4 .any ((OpenSpec.ofChange Rows.octetsOneSpec).preRow enc Tryd.prog Tryd.f4 Rows.octetsOneRow.domain false Rows.octetsOneRow.laid) (((OpenSpec.ofChange Rows.octetsOneSpec).at F).post enc Tryd.prog Tryd.f4 false true false false) := by
  obtain ⟨places, hx⟩ := reads os enc
  refine returnsInHanded_of_row (C := Tryd.checked) (s := OpenSpec.ofChange Rows.octetsOneSpec) own started (by kernel_rfl) Tryd.func4
    (witness_row_at (enc := enc) (C := Tryd.checked) false (laidWorldS os) #[.string ⟨#[]⟩, .slice none 0 0] rfl (by kernel_rfl) (by kernel_rfl) (by kernel_rfl)
      (OpenSpec.preRow_of_cond 8 hx (by kernel_rfl) (fun k hk => by cases hk) (by kernel_rfl) (laid_met os))) ?_
  intro W base args ds gs before hval hW _ _ _ hL _ _
  exact contract H enc W base args ds gs before hval hW hL
theorem said : Rows.OctetsOneSaid :=
  OpenClaim.holds_of_cond 4 Tryd.f4 rfl rfl rfl rfl rfl rfl rfl ⟨rfl, rfl, rfl, rfl, rfl⟩ rfl rfl rfl rfl rfl (by kernel_rfl) Tryd.func4 (by kernel_rfl)
    (of_decide_eq_true (by kernel_rfl)) (by unfold Func.isWrapper; first | (rw [if_pos (by decide +kernel)]; kernel_rfl) | (rw [if_neg (by decide +kernel)]; exact ⟨rfl, rfl⟩))
    (fun os started H enc _ F => by rw [OpenClaim.pre_eq_preRow]; exact lifted os started H enc F)
theorem plain (f : FuncId) (fn : Func) (hf : Tryd.pinned.checked.prog.funcNamed "cartage/cartagelaw02.OctetsOne" = some f) (hfn : Tryd.pinned.checked.prog.funcs[f]? = some fn) :
    true = Tryd.pinned.checked.prog.looks [] ∧ ∀ (j : Nat) t, fn.params[j]? = some t → Tryd.pinned.checked.prog.wantsStandIn t = false := by
  obtain rfl : f = 4 := Option.some.inj ((show Tryd.prog.funcNamed "cartage/cartagelaw02.OctetsOne" = some 4 by kernel_rfl).symm.trans hf) |>.symm
  obtain rfl : fn = Tryd.f4 := (Option.some.inj (Tryd.func4.symm.trans hfn)).symm
  refine ⟨by kernel_rfl, fun j t ht => ?_⟩
  rw [Tryd.params4] at ht
  rcases j with _ | _ | j
  · obtain rfl := Option.some.inj ht; kernel_rfl
  · obtain rfl := Option.some.inj ht; kernel_rfl
  · simp at ht
theorem card : Rows.OctetsOneCardSaid :=
  Claim7.holds_tied_plain_at .later [] _ _ _ _ said (fun _ h => by cases h) (by kernel_rfl) (fun _ h => by cases h) octetsOne_row_tie rfl ⟨rfl, rfl⟩ (by kernel_rfl) rfl plain (by kernel_rfl)
end Go.Proofs.YtedlfafbehhkdaaDoor.lawOne
