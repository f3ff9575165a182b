/- An entry's bytes, and is it right: entry.Bytes, entry.Right. -/
import Derived.Test.YtjkneidoochfjaaGreatDoorMEn15
import Derived.Test.YtjkneidoochfjaaGreatDoorMEn4s
namespace Go.Proofs.YtjkneidoochfjaaGreatDoor
open Go Go.RowKit
/-- how entry.Bytes ends -/
def EBytesPost (e : En.E) (a : Nat → Addr) (w : World) (r : Ending) (w' : World) : Prop :=
  Below w.heap.size w w' ∧ (∀ n, En.bytes e = .bad n → r = .returned (.tuple #[.slice none 0 0, ev (a (n - 1))])) ∧ (∀ b, En.bytes e = .ok b → ∃ v, r = .returned (.tuple #[v, .nilIface]) ∧ Pad w.heap.size w v b w')
theorem En.bytes_form {e : En.E} (h : En.formed e = false) : En.bytes e = .bad 4 := by unfold En.bytes; rw [if_neg (by rw [h]; decide)]
theorem En.bytes_large {e : En.E} (h : En.formed e = true) (h2 : 2800 < (En.laid e).length) : En.bytes e = .bad 13 := by unfold En.bytes; rw [if_pos h, if_neg (by omega)]
theorem En.bytes_ok {e : En.E} (h : En.formed e = true) (h2 : (En.laid e).length ≤ 2800) : En.bytes e = .ok (En.laid e) := by unfold En.bytes; rw [if_pos h, if_pos h2]
theorem En.right_iff {e : En.E} : En.right e = true ↔ ∃ b, En.bytes e = .ok b := by
  unfold En.right
  rw [Bool.and_eq_true, decide_eq_true_iff]
  constructor
  · rintro ⟨h1, h2⟩
    exact ⟨_, En.bytes_ok h1 h2⟩
  · rintro ⟨b, hb⟩
    cases h : En.formed e with
    | false => rw [En.bytes_form h] at hb; cases hb
    | true =>
      refine ⟨rfl, ?_⟩
      by_cases h2 : (En.laid e).length ≤ 2800
      · exact h2
      · rw [En.bytes_large h (by omega)] at hb; cases hb
set_option maxRecDepth 100000 in
set_option maxHeartbeats 2000000 in
theorem ebytes_any (e : En.E) (ca : Array Value) (U O : Option Addr) (cu co : Nat) (ts : List En.Bt) (a : Nat → Addr) (w : World) (h : EnC w e ca U cu O co ts) (hS : ESents w a) (hm : MaxAt w) (hn : e.ups.length ≤ 1000) :
    Calls Tryz.prog 7 #[.agg ca] w (EBytesPost e a w) := by
  obtain ⟨w1, hw1⟩ : ∃ w1, w1 = w.alloc (.cells ca 25) := ⟨_, rfl⟩
  have hb : EnB w w1 e ca U cu O co ts := hw1 ▸ EnB.of h
  have HB := Lib.hid hb
  have HS := Lib.hid hS
  have H0 := Lib.hid h
  have CF := formed_any e ca U O cu co ts a w1 hb.ent (hS.at_ hb.bel) (hm.below hb.bel (Nat.le_refl _)) hn
  have e1 := hw1.symm
  clear h hb hw1 hS hm hn
  go_enter Tryz.func7, Tryz.ntmps7
  go_wp2_with (with_reducible (show wpList _ _ _ (Oper.mk _ (Op.load 25 _) _ _ _ _ :: _) _ _); refine pause ?_)
  unfold Paused
  refine wpList_row_w (by rfl) 25 (.tmp 1) (by rfl) w.heap.size (by rfl) 25 ca _ HB.out.box (by first | exact Tryz.underlying25 | kernel_rfl) (by rfl) (ent_load H0.out.size) ?_
  go_wp2_with (go_at_call 22; refine pause ?_)
  unfold Paused
  refine CF.mono ?_
  rintro r w2 ⟨rfl, hb2⟩
  have HB2 := Lib.hid (HB.out.below hb2)
  clear hb2 CF
  obtain ⟨fm, hfm⟩ : ∃ fm, fm = En.formed e := ⟨_, rfl⟩
  rw [← hfm]
  have HFM := Lib.hid hfm.symm
  clear hfm
  cases fm
  · have pE := ((HS.out.at_ HB2.out.bel).p.2.1)
    have HP : Hid (∀ m, EBytesPost e a w (.returned (.tuple #[.slice none 0 0, ev (a 3)])) (w2.drewN m)) := Lib.hid (fun m => ⟨below_drewN HB2.out.bel m, fun n hn => (by rw [En.bytes_form HFM.out] at hn; injection hn with hn; subst hn; rfl), fun b hb => (by rw [En.bytes_form HFM.out] at hb; cases hb)⟩)
    clear e1
    go_wp2_with fail
    go_quiet (fail)
    go_wp2
    go_ret2
    exact HP.out _
  have CW := written_any e ca U O cu co ts a w2 HB2.out.ent (En.formed_frm HFM.out) (HS.out.at_ HB2.out.bel)
  go_wp2_with (with_reducible (show wpList _ _ _ (Oper.mk _ (Op.load 25 _) _ _ _ _ :: _) _ _); refine pause ?_)
  unfold Paused
  refine wpList_row_w (by rfl) 25 (.tmp 1) (by rfl) w.heap.size (by rfl) 25 ca _ HB2.out.box (by first | exact Tryz.underlying25 | kernel_rfl) (by rfl) (ent_load H0.out.size) ?_
  go_wp2_with (go_at_call 23; refine pause ?_)
  unfold Paused
  refine CW.mono ?_
  rintro r w3 ⟨v, rfl, hp⟩
  obtain ⟨Av, cv, hvv⟩ := own_slice hp.own
  subst hvv
  have HP := Lib.hid hp
  have HB3 := Lib.hid (below_next HB2.out.bel hp.bel)
  clear hp CW
  by_cases hl : (En.laid e).length ≤ 2800
  · have HPP : Hid (EBytesPost e a w (.returned (.tuple #[.slice Av (En.laid e).length cv, .nilIface])) w3) := Lib.hid ⟨HB3.out, fun n hn => (by rw [En.bytes_ok HFM.out hl] at hn; cases hn), fun b hb => (by rw [En.bytes_ok HFM.out hl] at hb; injection hb with hb; subst hb; exact ⟨_, rfl, pad_low HP.out HB2.out.bel⟩)⟩
    have i1 : ¬ (2800 : Int) < ((En.laid e).length : Int) := by omega
    clear e1 hl
    generalize (En.laid e).length = nl at i1 HPP ⊢
    go_wp2
    go_ret2
    exact HPP.out
  · have pE := ((HS.out.at_ HB3.out).g)
    have HPP : Hid (∀ m, EBytesPost e a w (.returned (.tuple #[.slice none 0 0, ev (a 12)])) (w3.drewN m)) := Lib.hid (fun m => ⟨below_drewN HB3.out m, fun n hn => (by rw [En.bytes_large HFM.out (by omega)] at hn; injection hn with hn; subst hn; rfl), fun b hb => (by rw [En.bytes_large HFM.out (by omega)] at hb; cases hb)⟩)
    have i1 : (2800 : Int) < ((En.laid e).length : Int) := by omega
    clear e1 hl
    generalize (En.laid e).length = nl at i1 HPP ⊢
    go_wp2_with fail
    go_quiet (fail)
    go_wp2
    go_ret2
    exact HPP.out _
set_option maxRecDepth 100000 in
set_option maxHeartbeats 2000000 in
theorem eright_any (e : En.E) (ca : Array Value) (U O : Option Addr) (cu co : Nat) (ts : List En.Bt) (a : Nat → Addr) (w : World) (h : EnC w e ca U cu O co ts) (hS : ESents w a) (hm : MaxAt w) (hn : e.ups.length ≤ 1000) :
    Calls Tryz.prog 8 #[.agg ca] w fun r w' => r = .returned (.bool (En.right e)) ∧ Below w.heap.size w w' := by
  obtain ⟨w1, hw1⟩ : ∃ w1, w1 = w.alloc (.cells ca 25) := ⟨_, rfl⟩
  have hb : EnB w w1 e ca U cu O co ts := hw1 ▸ EnB.of h
  have HB := Lib.hid hb
  have H0 := Lib.hid h
  have CF := ebytes_any e ca U O cu co ts a w1 hb.ent (hS.at_ hb.bel) (hm.below hb.bel (Nat.le_refl _)) hn
  have e1 := hw1.symm
  clear h hb hw1 hS hm hn
  go_enter Tryz.func8, Tryz.ntmps8
  go_wp2_with (with_reducible (show wpList _ _ _ (Oper.mk _ (Op.load 25 _) _ _ _ _ :: _) _ _); refine pause ?_)
  unfold Paused
  refine wpList_row_w (by rfl) 25 (.tmp 1) (by rfl) w.heap.size (by rfl) 25 ca _ HB.out.box (by first | exact Tryz.underlying25 | kernel_rfl) (by rfl) (ent_load H0.out.size) ?_
  go_wp2_with (go_at_call 7; refine pause ?_)
  unfold Paused
  refine CF.mono ?_
  rintro r w2 ⟨hb2, hbad, hok⟩
  have HB2 := Lib.hid (below_next HB.out.bel hb2)
  clear hb2 CF
  cases hr : En.bytes e with
  | bad n =>
    obtain rfl := hbad n hr
    have HR : Hid (En.right e = false) := Lib.hid (by
      rw [← Bool.not_eq_true, En.right_iff, hr]
      rintro ⟨b, hb⟩
      cases hb)
    clear hbad hok hr
    go_wp2
    go_ret
    exact ⟨by rw [HR.out]; rfl, HB2.out⟩
  | ok b =>
    obtain ⟨v, rfl, _⟩ := hok b hr
    have HR : Hid (En.right e = true) := Lib.hid (En.right_iff.2 ⟨b, hr⟩)
    clear hbad hok hr
    go_wp2
    go_ret
    exact ⟨by rw [HR.out]; rfl, HB2.out⟩
end Go.Proofs.YtjkneidoochfjaaGreatDoor
/- The law's own helpers: alive, Long, Of. -/
namespace Go.Proofs.YtjkneidoochfjaaGreatDoor
open Go Go.RowKit
def E0 : En.E := ⟨1, 1, 2, [], []⟩
theorem E0_bytes : ∃ b, En.bytes E0 = .ok b ∧ b.length = 12 := by
  have hf : En.formed E0 = true := by unfold En.formed; decide
  have hl : (En.laid E0).length = 12 := rfl
  exact ⟨_, En.bytes_ok hf (by rw [hl]; omega), hl⟩
theorem E0_at (w : World) : EnC w E0 #[.int .i64 1, .int .i64 1, .int .i64 2, .slice none 0 0, .slice none 0 0] none 0 none 0 [] :=
  ⟨rfl, RdK.nil w _, fun u hu => (by cases hu), ⟨rfl, fun h => absurd h (by decide), fun t ht => (by cases ht)⟩, rfl⟩
theorem e0_built : Tryz.prog.built 25 [(0, .int .i64 1), (1, .int .i64 1), (2, .int .i64 2)] = some #[.int .i64 1, .int .i64 1, .int .i64 2, .slice none 0 0, .slice none 0 0] := by kernel_rfl
theorem ealive_any (a : Nat → Addr) (w : World) (hS : ESents w a) (hm : MaxAt w) :
    Calls Tryz.prog 5 #[] w fun r w' => r = .returned (.bool true) ∧ Below w.heap.size w w' := by
  have CB := ebytes_any E0 _ none none 0 0 [] a w (E0_at w) hS hm (Nat.zero_le _)
  obtain ⟨b, hb, hl⟩ := E0_bytes
  clear hS hm
  go_enter Tryz.func5, Tryz.ntmps5
  go_wp2_with (with_reducible (show wpList _ _ _ (Oper.mk _ (Op.build 25 _) _ _ _ _ :: _) _ _); refine pause ?_)
  unfold Paused
  refine wpList_buildK (by rfl) 25 _ (by rfl) [(0, .int .i64 1), (1, .int .i64 1), (2, .int .i64 2)] (by kernel_rfl) _ e0_built ?_
  go_wp2_with (go_at_call 7; refine pause ?_)
  unfold Paused
  refine CB.mono ?_
  rintro r w2 ⟨hb2, _, hok⟩
  obtain ⟨v, rfl, hp⟩ := hok b hb
  obtain ⟨Av, cv, hvv⟩ := own_slice hp.own
  subst hvv
  rw [hl]
  have HB2 := Lib.hid hb2
  clear CB hb hl hb2 hok hp
  go_wp2
  go_ret
  exact ⟨rfl, HB2.out⟩
/-- is a row of texts more than is asked? -/
def En.long (os : List (List Nat)) : Bool := decide (70 < os.length) || (os.any (fun x => decide (400 < x.length)) || decide (6000 < (os.map List.length).sum))
theorem sum_take {os : List (List Nat)} {k : Nat} (h : k < os.length) : ((os.take (k + 1)).map List.length).sum = ((os.take k).map List.length).sum + os[k].length := by
  rw [List.take_succ_eq_append_getElem h, List.map_append, List.sum_append]
  simp
theorem sum_few {os : List (List Nat)} (h : ∀ x ∈ os, x.length ≤ 400) : (os.map List.length).sum ≤ 400 * os.length := by
  induction os with
  | nil => simp
  | cons x os ih =>
    have h1 := h x (List.mem_cons_self ..)
    have h2 := ih fun y hy => h y (List.mem_cons_of_mem _ hy)
    rw [List.map_cons, List.sum_cons, List.length_cons]
    omega
set_option maxRecDepth 100000 in
set_option maxHeartbeats 4000000 in
theorem elong_any (A : Option Addr) (n c : Nat) (ts : List En.Bt) (w : World) (h : BtT w A n ts) :
    Calls Tryz.prog 21 #[.slice A n c] w fun r w' => r = .returned (.bool (En.long (ts.map (·.text)))) ∧ w' = w := by
  have HLL : Hid ((ts.map (·.text)).length = n) := Lib.hid (by rw [List.length_map]; exact h.len.symm)
  obtain ⟨os, hos⟩ : ∃ os, os = ts.map (·.text) := ⟨_, rfl⟩
  rw [← hos] at HLL ⊢
  by_cases h70 : 70 < n
  · have g1 : (70 : Int) < (n : Int) := by omega
    have HF : Hid (En.long os = true) := Lib.hid (by unfold En.long; rw [HLL.out, decide_eq_true h70]; rfl)
    clear h h70
    go_enter Tryz.func21, Tryz.ntmps21
    go_wp2
    go_ret
    exact ⟨by rw [HF.out]; rfl, rfl⟩
  have g1 : ¬ (70 : Int) < (n : Int) := by omega
  have HCE : Hid (0 < n → ∃ b o, A = some ⟨b, o, none⟩ ∧ ∀ i (hi : i < os.length), ∃ A1 c1, w.cell? ⟨b, o + i, none⟩ = some (.slice A1 os[i].length c1)) := Lib.hid (fun h0 => by
    obtain ⟨b, o, ha, hb, hx⟩ := h.row h0
    refine ⟨b, o, ha, fun i hi => ?_⟩
    have hit : i < ts.length := by rw [hos, List.length_map] at hi; exact hi
    obtain ⟨⟨A1, c1, hpv, _⟩, _⟩ := h.rd _ (List.getElem_mem hit)
    refine ⟨A1, c1, ?_⟩
    have e1 : os[i] = ts[i].text := by subst hos; simp
    rw [e1, ← hpv]
    exact hx i _ (List.getElem?_eq_getElem hit))
  have HN70 : Hid (n ≤ 70) := Lib.hid (by omega)
  clear h h70 hos
  go_enter Tryz.func21, Tryz.ntmps21
  go_wp2
  go_loopw [3, 11] (fun s i wr => wr = w ∧ ∃ k : Nat, k ≤ n ∧ i = .int .i64 k ∧ ∃ m : Nat, s = .int .i64 m ∧ Hid (m = ((os.take k).map List.length).sum ∧ ∀ x ∈ os.take k, x.length ≤ 400)) (fun _ i _ => n - (intOf i).toNat)
  case atStart => exact ⟨rfl, 0, Nat.zero_le _, rfl, 0, rfl, Lib.hid ⟨rfl, fun x hx => (by cases hx)⟩⟩
  case round =>
    obtain ⟨rfl, k, hk, rfl, m, rfl, HM⟩ := hrel
    have hm4 : m ≤ 28000 := by
      have h1 := sum_few HM.out.2
      have h2 := HN70.out
      rw [← HM.out.1, List.length_take] at h1
      omega
    by_cases hlt : k < n
    · have hki : k < os.length := by rw [HLL.out]; exact hlt
      obtain ⟨b, o, rfl, hx⟩ := HCE.out (by omega)
      obtain ⟨A1, c1, pc⟩ := hx k hki
      have i1 : ((k : Nat) : Int) < n := by omega
      have i2 : (0 : Int) ≤ ((k : Nat) : Int) := by omega
      have i3 : ((k : Nat) : Int) < 70 := by have := HN70.out; omega
      have i4 : ((m : Nat) : Int) ≤ 28000 := by omega
      have i5 : (0 : Int) ≤ ((m : Nat) : Int) := by omega
      have HST := Lib.hid (sum_take hki)
      have HTK := Lib.hid (List.take_succ_eq_append_getElem hki)
      have HMM : Hid (os[k] ∈ os) := Lib.hid (List.getElem_mem hki)
      obtain ⟨y, hy⟩ : ∃ y, y = os[k] := ⟨_, rfl⟩
      rw [← hy] at pc HST HTK HMM
      obtain ⟨l1, hl1⟩ : ∃ l, l = y.length := ⟨_, rfl⟩
      rw [← hl1] at pc HST
      have HL1 := Lib.hid hl1
      clear hx hki hy hl1 hm4
      by_cases hl : 400 < l1
      · have g2 : (400 : Int) < (l1 : Int) := by omega
        have HF : Hid (En.long os = true) := Lib.hid (by
          have h1 : os.any (fun x => decide (400 < x.length)) = true := List.any_eq_true.2 ⟨y, HMM.out, decide_eq_true (by rw [← HL1.out]; exact hl)⟩
          unfold En.long
          rw [h1]
          simp)
        clear hl
        go_wp2
        go_ret
        exact ⟨by rw [HF.out]; rfl, rfl⟩
      · have g2 : ¬ (400 : Int) < (l1 : Int) := by omega
        have g3 : (l1 : Int) ≤ 400 := by omega
        have g4 : (0 : Int) ≤ (l1 : Int) := by omega
        have HM2 : Hid (m + l1 = ((os.take (k + 1)).map List.length).sum ∧ ∀ x ∈ os.take (k + 1), x.length ≤ 400) := Lib.hid ⟨by rw [HST.out, ← HM.out.1], fun x hx => by
          rw [HTK.out] at hx
          rcases List.mem_append.1 hx with hx | hx
          · exact HM.out.2 x hx
          · rw [List.mem_singleton.1 hx, ← HL1.out]; omega⟩
        have HLT : Hid (k + 1 ≤ n) := Lib.hid hlt
        clear hl hlt hk
        go_wp2
        go_roundw
        case rel => exact ⟨trivial, k + 1, HLT.out, by go_num, m + l1, by go_num, HM2⟩
        case measure => have h5 := HLT.out; simp [intOf]; omega
    · obtain rfl : k = n := by omega
      have ik : ¬ ((k : Nat) : Int) < k := by omega
      have HE : Hid (En.long os = decide (6000 < m)) := Lib.hid (by
        have h1 := HM.out
        rw [← HLL.out, List.take_length] at h1
        have h2 : os.any (fun x => decide (400 < x.length)) = false := by
          rw [List.any_eq_false]
          intro x hx
          have := h1.2 x hx
          simp; omega
        unfold En.long
        rw [h2, decide_eq_false (show ¬ 70 < os.length by rw [HLL.out]; exact fun h => by have := HN70.out; omega), ← h1.1]
        rfl)
      clear hk hlt
      by_cases h6 : 6000 < m
      · have g6 : (6000 : Int) < (m : Int) := by omega
        have HF : Hid (En.long os = true) := Lib.hid (by rw [HE.out, decide_eq_true h6])
        clear h6 hm4
        go_wp2
        go_ret
        exact ⟨by rw [HF.out]; rfl, rfl⟩
      · have g6 : ¬ (6000 : Int) < (m : Int) := by omega
        have HF : Hid (En.long os = false) := Lib.hid (by rw [HE.out, decide_eq_false h6])
        clear h6 hm4
        go_wp2
        go_ret
        exact ⟨by rw [HF.out]; rfl, rfl⟩
end Go.Proofs.YtjkneidoochfjaaGreatDoor
/- Rows of texts compared by the document (SameLists), in general. -/
namespace Go.Proofs.YtjkneidoochfjaaGreatDoor
open Go Go.RowKit
set_option maxRecDepth 100000 in
set_option maxHeartbeats 1000000 in
theorem sameLists_any (A B : Option Addr) (n m c d : Nat) (ts us : List En.Bt) (w : World) (ht : BtT w A n ts) (hu : BtT w B m us) (hn : n ≤ 100000) :
    Calls Tryz.prog 39 #[.slice A n c, .slice B m d] w fun e w' => e = .returned (.bool (eqv (ts.map (·.text)) (us.map (·.text)))) ∧ ∃ m, w' = w.drewN m := by
  have HT := Lib.hid ht
  have HU := Lib.hid hu
  by_cases hl : n = m
  rotate_left
  · have b0 : ((n : Int) != (m : Int)) = true := by simp; omega
    have HN := Lib.hid (show eqv (ts.map (·.text)) (us.map (·.text)) = false from eqv_false fun e => hl (by
      have := congrArg List.length e
      rw [List.length_map, List.length_map, ← HT.out.len, ← HU.out.len] at this
      exact this))
    clear ht hu hl hn
    go_enter Tryz.func39, Tryz.ntmps39
    go_wp2
    go_ret
    exact ⟨by rw [HN.out]; rfl, 0, rfl⟩
  have b0 : ((n : Int) != (m : Int)) = false := by simp; omega
  subst hl
  have HN := Lib.hid hn
  clear ht hu hn
  go_enter Tryz.func39, Tryz.ntmps39
  go_wp2_with fail
  go_loopw [13] (fun i wr => ∃ k : Nat, k ≤ n ∧ i = .int .i64 k ∧ Hid ((ts.take k).map (·.text) = (us.take k).map (·.text)) ∧ ∃ q, wr = w.drewN q) (fun i _ => n - (intOf i).toNat)
  case atStart => exact ⟨0, Nat.zero_le _, rfl, Lib.hid rfl, 0, rfl⟩
  case round =>
    obtain ⟨k, hk, rfl, HK, q, rfl⟩ := hrel
    rcases Nat.lt_or_ge k n with hlt | hlt
    rotate_left
    · obtain rfl : k = n := by omega
      have ik : ¬ ((k : Nat) : Int) < (k : Int) := by omega
      have HF : Hid (eqv (ts.map (·.text)) (us.map (·.text)) = true) := Lib.hid (eqv_true (by
        have h := HK.out
        rw [List.take_of_length_le (by rw [← HT.out.len]; exact Nat.le_refl _), List.take_of_length_le (by rw [← HU.out.len]; exact Nat.le_refl _)] at h
        exact h))
      clear hk hlt
      go_wp2_with fail
      go_ret
      exact ⟨by rw [HF.out]; rfl, _, rfl⟩
    have h1 : k < ts.length := by rw [← HT.out.len]; exact hlt
    have h2 : k < us.length := by rw [← HU.out.len]; exact hlt
    obtain ⟨b1, o1, rfl, _, g1⟩ := HT.out.row (by omega)
    obtain ⟨b2, o2, rfl, _, g2⟩ := HU.out.row (by omega)
    have c1 := g1 k ts[k] (List.getElem?_eq_getElem h1)
    have c2 := g2 k us[k] (List.getElem?_eq_getElem h2)
    obtain ⟨r1, y1⟩ := HT.out.rd ts[k] (List.getElem_mem h1)
    obtain ⟨r2, y2⟩ := HU.out.rd us[k] (List.getElem_mem h2)
    have HS := Lib.hid (fun e => map_take_next h1 h2 HK.out e)
    have HNE := Lib.hid (show ts[k].text ≠ us[k].text → eqv (ts.map (·.text)) (us.map (·.text)) = false from fun hne => eqv_false fun e => hne (by
      have h3 := congrArg (fun l => l[k]?) e
      simpa [List.getElem?_eq_getElem h1, List.getElem?_eq_getElem h2] using h3))
    generalize ts[k] = t at c1 r1 y1 HS HNE
    generalize us[k] = u at c2 r2 y2 HS HNE
    obtain ⟨wo, hwo⟩ : ∃ wo, wo = w.drewN q := ⟨_, rfl⟩
    have p1 : wo.cell? ⟨b1, o1 + k, none⟩ = some t.val := by rw [hwo]; exact c1
    have p2 : wo.cell? ⟨b2, o2 + k, none⟩ = some u.val := by rw [hwo]; exact c2
    have q0 : ((textOf t.text).toList == (textOf u.text).toList) = eqv t.text u.text := textOf_eqv y1 y2
    obtain ⟨T, hT⟩ : ∃ T, T = textOf t.text := ⟨_, rfl⟩
    obtain ⟨U, hU⟩ : ∃ U, U = textOf u.text := ⟨_, rfl⟩
    have q1 : ∀ j, (convert 32 9 t.val).run Tryz.prog (wo.drewN j) = .ok (.string T) (wo.drewN j) := fun j => by rw [hT, hwo]; exact conv_rd (w := (w.drewN q).drewN j) ((r1.below (below_drewN (Below.refl _ _) q) (Nat.le_refl _)).below (below_drewN (Below.refl _ _) j) (Nat.le_refl _))
    have q2 : ∀ j, (convert 32 9 u.val).run Tryz.prog (wo.drewN j) = .ok (.string U) (wo.drewN j) := fun j => by rw [hU, hwo]; exact conv_rd (w := (w.drewN q).drewN j) ((r2.below (below_drewN (Below.refl _ _) q) (Nat.le_refl _)).below (below_drewN (Below.refl _ _) j) (Nat.le_refl _))
    rw [← hT, ← hU] at q0
    generalize t.val = tv at p1 q1
    generalize u.val = uv at p2 q2
    have i0 : ((k : Nat) : Int) < (n : Int) := by omega
    have i1 : (0 : Int) ≤ ((k : Nat) : Int) := by omega
    have i3 : ((n : Nat) : Int) ≤ 100000 := by have := HN.out; omega
    have HLT := Lib.hid hlt
    have HWO : Hid (∀ j, ∃ m', wo.drewN j = w.drewN m') := Lib.hid (fun j => ⟨q + j, by rw [hwo]; simp⟩)
    clear g1 g2 c1 c2 r1 r2 y1 y2 hT hU h1 h2 hlt hk
    rw [← hwo]
    clear hwo
    rcases Classical.em (t.text = u.text) with e | e
    · have HKN := Lib.hid (HS.out e)
      rw [eqv_true e] at q0
      clear e HS HNE
      go_wp2_with fail
      go_quiet (fail)
      go_wp2_with fail
      refine ⟨⟨k + 1, HLT.out, by simp, HKN, HWO.out _⟩, by have := HLT.out; simp [intOf]; omega⟩
    · have HF := Lib.hid (HNE.out e)
      rw [eqv_false e] at q0
      clear e HS HNE
      go_wp2_with fail
      go_quiet (fail)
      go_wp2_with fail
      go_ret
      exact ⟨by rw [HF.out]; rfl, HWO.out _⟩
end Go.Proofs.YtjkneidoochfjaaGreatDoor
/- Entries as the document has them, compared (cartageref10.Same). -/
namespace Go.Proofs.YtjkneidoochfjaaGreatDoor
open Go Go.RowKit
theorem id_eq9R (d : Nat) (w : World) (x y : List Nat) (hx : Id32 x) (hy : Id32 y) : (Op.equalIn (d + 2) 53 (.agg (cellsB x).toArray) (.agg (cellsB y).toArray)).run Tryz.prog w = .ok (eqv x y) w := by
  rw [← beq_eqv, ← ofNat_inj x y hx.2 hy.2]
  have h := run_equalIn_bytes w d 53 5 32 Tryz.underlying53 Tryz.underlying5 size_u8 (x.map UInt8.ofNat) (y.map UInt8.ofNat) (by rw [List.length_map, hx.1]) (by rw [List.length_map, hy.1])
  rw [← u8s_cell x hx.2, ← u8s_cell y hy.2] at h
  exact h
theorem up_oldR (w : World) (u : En.Up) (h : u.Fit) : (part 53 (cellsU1 u).toArray 1).run Tryz.prog w = .ok (.agg (cellsB u.old).toArray) w := by
  have hx : List.take 32 (cellsU1 u).tail = cellsB u.old := by
    rw [cellsU1, List.tail_cons, List.take_append_of_le_length (by rw [cellsB_len, h.1.1]; omega), List.take_of_length_le (by rw [cellsB_len, h.1.1]; omega)]
  have hs : (cellsU1 u).toArray.size = 65 := by rw [List.size_toArray, cellsU1_len h]
  simp [part, isAgg, run_underlying Tryz.underlying53, Tryz.sizeOf53, hx, hs]
theorem up_newR (w : World) (u : En.Up) (h : u.Fit) : (part 53 (cellsU1 u).toArray 33).run Tryz.prog w = .ok (.agg (cellsB u.new).toArray) w := by
  have hx : List.take 32 (List.drop 33 (cellsU1 u)) = cellsB u.new := by
    rw [cellsU1, List.drop_succ_cons, List.drop_append_of_le_length (by rw [cellsB_len, h.1.1]; omega), List.drop_of_length_le (by rw [cellsB_len, h.1.1]; omega), List.nil_append, List.take_of_length_le (by rw [cellsB_len, h.2.1]; omega)]
  have hs : (cellsU1 u).toArray.size = 65 := by rw [List.size_toArray, cellsU1_len h]
  simp [part, isAgg, run_underlying Tryz.underlying53, Tryz.sizeOf53, hx, hs]
theorem up_fieldsR (w : World) (k : Nat) (f0 f1 f2 : Field) (n0 : f0.name ≠ "_") (n1 : f1.name ≠ "_") (n2 : f2.name ≠ "_") (t0 : f0.type = 9) (o0 : f0.offset = 0) (t1 : f1.type = 53) (o1 : f1.offset = 1) (t2 : f2.type = 53) (o2 : f2.offset = 33)
    (d e : En.Up) (hd : d.Fit) (he : e.Fit) : (Op.eqFields (k + 2) (cellsU1 d).toArray (cellsU1 e).toArray [f0, f1, f2]).run Tryz.prog w = .ok (eqv d e) w := by
  have k5 := run_equalIn_string (P := Tryz.prog) w (k + 1) 9 d.ref e.ref Tryz.underlying9
  rw [toList_inj] at k5
  have k6 := id_eq9R k w d.old e.old hd.1 he.1
  have k7 := id_eq9R k w d.new e.new hd.2 he.2
  by_cases h1 : d.ref = e.ref
  · rw [eqv_true h1] at k5
    rw [eqf_true n0 t0 o0 (up_ref w d) (up_ref w e) k5]
    by_cases h2 : d.old = e.old
    · rw [eqv_true h2] at k6
      rw [eqf_true n1 t1 o1 (up_oldR w d hd) (up_oldR w e he) k6]
      by_cases h3 : d.new = e.new
      · have h4 : d = e := by
          obtain ⟨a1, a2, a3⟩ := d
          obtain ⟨b1, b2, b3⟩ := e
          dsimp only at h1 h2 h3
          rw [h1, h2, h3]
        rw [eqv_true h3] at k7
        rw [eqv_true h4, eqf_true n2 t2 o2 (up_newR w d hd) (up_newR w e he) k7]
        rfl
      · have h4 : d ≠ e := fun h => h3 (by rw [h])
        rw [eqv_false h3] at k7
        rw [eqv_false h4, eqf_false n2 t2 o2 (up_newR w d hd) (up_newR w e he) k7]
    · have h4 : d ≠ e := fun h => h2 (by rw [h])
      rw [eqv_false h2] at k6
      rw [eqv_false h4, eqf_false n1 t1 o1 (up_oldR w d hd) (up_oldR w e he) k6]
  · have h4 : d ≠ e := fun h => h1 (by rw [h])
    rw [eqv_false h1] at k5
    rw [eqv_false h4, eqf_false n0 t0 o0 (up_ref w d) (up_ref w e) k5]
theorem up_eq_ofR (w : World) (t : TypeId) (ht : Tryz.prog.underlying t = some (.struct (Tryz.prog.fieldsOf t))) (hp : Tryz.prog.stoodInHeld t = false) (k : Nat) (hF : (Tryz.prog.fieldsOf t).toList.map (fun f => (f.name == "_", f.type, f.offset)) = [(false, 9, 0), (false, 53, 1), (false, 53, 33)])
    (d e : En.Up) (hd : d.Fit) (he : e.Fit) : (Op.equalIn (k + 3) t (.agg (cellsU1 d).toArray) (.agg (cellsU1 e).toArray)).run Tryz.prog w = .ok (eqv d e) w := by
  rw [run_equalIn_struct w (k + 2) t _ _ ht hp]
  generalize (Tryz.prog.fieldsOf t).toList = L at hF
  rcases L with _ | ⟨f0, _ | ⟨f1, _ | ⟨f2, _ | ⟨f3, L⟩⟩⟩⟩
  · simp at hF
  · simp at hF
  · simp at hF
  · simp only [List.map_cons, List.map_nil, List.cons.injEq, Prod.mk.injEq, and_true] at hF
    obtain ⟨⟨n0, t0, o0⟩, ⟨n1, t1, o1⟩, n2, t2, o2⟩ := hF
    exact up_fieldsR w k f0 f1 f2 (beq_eq_false_iff_ne.1 n0) (beq_eq_false_iff_ne.1 n1) (beq_eq_false_iff_ne.1 n2) t0 o0 t1 o1 t2 o2 d e hd he
  · simp at hF
theorem up_eqR (w : World) (d e : En.Up) (hd : d.Fit) (he : e.Fit) : (Op.equalIn 10000 58 (.agg (cellsU1 d).toArray) (.agg (cellsU1 e).toArray)).run Tryz.prog w = .ok (eqv d e) w :=
  up_eq_ofR w 58 (by kernel_rfl) (by kernel_rfl) 9997 (by kernel_rfl) d e hd he
set_option maxRecDepth 100000 in
set_option maxHeartbeats 4000000 in
theorem rsame_any (a b : En.E) (ca cb : Array Value) (U1 O1 U2 O2 : Option Addr) (cu1 co1 cu2 co2 : Nat) (ts us : List En.Bt) (w : World) (ha : EnC w a ca U1 cu1 O1 co1 ts) (hb : EnC w b cb U2 cu2 O2 co2 us) (lu : a.ups.length ≤ 1000) (lo : a.objs.length ≤ 100000) :
    Calls Tryz.prog 20 #[.agg ca, .agg cb] w fun e w' => e = .returned (.bool (eqv a b)) ∧ Below w.heap.size w w' := by
  obtain ⟨w2, hw2⟩ : ∃ w2, w2 = (w.alloc (.cells ca 29)).alloc (.cells cb 29) := ⟨_, rfl⟩
  have b2 : Below w.heap.size w w2 := hw2 ▸ boxed ca cb _
  have B1 : Blk w2 w.heap.size 29 ca := hw2 ▸ (Blk.new w _ _).alloc _
  have B2 : Blk w2 (w.heap.size + 1) 29 cb := hw2 ▸ boxed2 ca cb _
  have HA := Lib.hid (ha.below b2)
  have HB := Lib.hid (hb.below b2)
  have HB2 := Lib.hid b2
  have HE : Hid (eqv a b = (eqv a.client b.client && (eqv a.number b.number && (eqv a.answer b.answer && (eqv a.ups b.ups && eqv (ts.map (·.text)) (us.map (·.text))))))) := Lib.hid (by
    rw [ha.txt, hb.txt]
    obtain ⟨a1, a2, a3, a4, a5⟩ := a
    obtain ⟨b1, b2, b3, b4, b5⟩ := b
    rw [Bool.eq_iff_iff]
    simp only [Bool.and_eq_true, eqv_iff, En.E.mk.injEq])
  have CO : ∀ n, Calls Tryz.prog 39 #[.slice O1 a.objs.length co1, .slice O2 b.objs.length co2] (w2.drewN n) _ := fun n => sameLists_any O1 O2 _ _ co1 co2 ts us (w2.drewN n) (HA.out.objs.below (below_drewN (Below.refl _ _) n)) (HB.out.objs.below (below_drewN (Below.refl _ _) n)) lo
  have HUL : Hid (a.ups.length ≠ b.ups.length → eqv a.ups b.ups = false) := Lib.hid (fun h => eqv_false fun e => h (by rw [e]))
  have p0 : w2.cell? ⟨w.heap.size, 0, none⟩ = some (.int .i64 a.client) := (B1.cell 0).trans (by rw [ha.cells]; rfl)
  have p1 : w2.cell? ⟨w.heap.size, 1, none⟩ = some (.int .i64 a.number) := (B1.cell 1).trans (by rw [ha.cells]; rfl)
  have p2 : w2.cell? ⟨w.heap.size, 2, none⟩ = some (.int .i64 a.answer) := (B1.cell 2).trans (by rw [ha.cells]; rfl)
  have p3 : w2.cell? ⟨w.heap.size, 3, none⟩ = some (.slice U1 a.ups.length cu1) := (B1.cell 3).trans (by rw [ha.cells]; rfl)
  have p4 : w2.cell? ⟨w.heap.size, 4, none⟩ = some (.slice O1 a.objs.length co1) := (B1.cell 4).trans (by rw [ha.cells]; rfl)
  have q0 : w2.cell? ⟨w.heap.size + 1, 0, none⟩ = some (.int .i64 b.client) := (B2.cell 0).trans (by rw [hb.cells]; rfl)
  have q1 : w2.cell? ⟨w.heap.size + 1, 1, none⟩ = some (.int .i64 b.number) := (B2.cell 1).trans (by rw [hb.cells]; rfl)
  have q2 : w2.cell? ⟨w.heap.size + 1, 2, none⟩ = some (.int .i64 b.answer) := (B2.cell 2).trans (by rw [hb.cells]; rfl)
  have q3 : w2.cell? ⟨w.heap.size + 1, 3, none⟩ = some (.slice U2 b.ups.length cu2) := (B2.cell 3).trans (by rw [hb.cells]; rfl)
  have q4 : w2.cell? ⟨w.heap.size + 1, 4, none⟩ = some (.slice O2 b.objs.length co2) := (B2.cell 4).trans (by rw [hb.cells]; rfl)
  have e1 : (a.client == b.client) = eqv a.client b.client := by rw [Bool.eq_iff_iff, beq_iff_eq, eqv_iff]
  have e2 : (a.number == b.number) = eqv a.number b.number := by rw [Bool.eq_iff_iff, beq_iff_eq, eqv_iff]
  have e3 : (a.answer == b.answer) = eqv a.answer b.answer := by rw [Bool.eq_iff_iff, beq_iff_eq, eqv_iff]
  have ew := hw2.symm
  generalize eqv a b = R at HE ⊢
  generalize eqv a.client b.client = r1 at HE e1
  generalize eqv a.number b.number = r2 at HE e2
  generalize eqv a.answer b.answer = r3 at HE e3
  generalize eqv (ts.map (·.text)) (us.map (·.text)) = r5 at HE CO
  generalize a.client = x1 at p0 e1
  generalize a.number = x2 at p1 e2
  generalize a.answer = x3 at p2 e3
  generalize b.client = y1 at q0 e1
  generalize b.number = y2 at q1 e2
  generalize b.answer = y3 at q2 e3
  generalize a.objs.length = m1 at p4 CO
  generalize b.objs.length = m2 at q4 CO
  obtain ⟨n1, hn1⟩ : ∃ n, n = a.ups.length := ⟨_, rfl⟩
  obtain ⟨n2, hn2⟩ : ∃ n, n = b.ups.length := ⟨_, rfl⟩
  rw [← hn1] at p3
  rw [← hn2] at q3
  have HN1 := Lib.hid hn1
  have HN2 := Lib.hid hn2
  have HLU := Lib.hid lu
  clear ha hb b2 B1 B2 hw2 lu lo hn1 hn2
  go_enter Tryz.func20, Tryz.ntmps20
  have f1 : (x1 != y1) = !r1 := by rw [bne, e1]
  clear e1
  cases r1
  · rw [Bool.not_false] at f1
    go_wp2
    go_ret
    exact ⟨by rw [HE.out]; rfl, HB2.out⟩
  rw [Bool.not_true] at f1
  have f2 : (x2 != y2) = !r2 := by rw [bne, e2]
  clear e2
  cases r2
  · rw [Bool.not_false] at f2
    go_wp2
    go_ret
    exact ⟨by rw [HE.out]; rfl, HB2.out⟩
  rw [Bool.not_true] at f2
  have f3 : (x3 != y3) = !r3 := by rw [bne, e3]
  clear e3
  cases r3
  · rw [Bool.not_false] at f3
    go_wp2
    go_ret
    exact ⟨by rw [HE.out]; rfl, HB2.out⟩
  rw [Bool.not_true] at f3
  by_cases hnn : n1 = n2
  rotate_left
  · have b0 : ((n1 : Int) != (n2 : Int)) = true := by simp; omega
    have HF := Lib.hid (HUL.out (by rw [← HN1.out, ← HN2.out]; exact hnn))
    clear hnn
    go_wp2
    go_ret
    exact ⟨by rw [HE.out, HF.out]; rfl, HB2.out⟩
  subst hnn
  have b0 : ((n1 : Int) != (n1 : Int)) = false := by simp
  go_wp2_with (go_at_call 39; refine pause ?_)
  unfold Paused
  refine (CO 0).mono ?_
  rintro e w3 ⟨rfl, m3, rfl⟩
  clear CO f1 f2 f3
  cases r5
  · go_wp2
    go_ret
    exact ⟨by rw [HE.out]; simp, below_drewN HB2.out _⟩
  go_wp2
  go_loopw [45] (fun i wr => ∃ k q : Nat, k ≤ n1 ∧ i = .int .i64 k ∧ Hid (a.ups.take k = b.ups.take k) ∧ wr = w2.drewN q) (fun i _ => n1 - (intOf i).toNat)
  case atStart => exact ⟨0, m3, Nat.zero_le _, rfl, Lib.hid rfl, by simp⟩
  case round =>
    obtain ⟨k, q, hk, rfl, HT, rfl⟩ := hrel
    rcases Nat.lt_or_ge k n1 with hlt | hlt
    · have h1 : k < a.ups.length := by rw [← HN1.out]; exact hlt
      have h2 : k < b.ups.length := by rw [← HN2.out]; exact hlt
      obtain ⟨b1, o1, rfl, _, g1⟩ := HA.out.ups.up rfl HA.out.fit h1
      obtain ⟨b2, o2, rfl, _, g2⟩ := HB.out.ups.up rfl HB.out.fit h2
      have fx := HA.out.fit
      have fy := HB.out.fit
      have l1 : ∀ m, (Instr.loadAt 58 (.pointer (some ⟨b1, o1 + k * 65, none⟩))).run Tryz.prog (w2.drewN m) = .ok (.agg (cellsU1 a.ups[k]).toArray) (w2.drewN m) := fun m => run_loadAt_mid (w2.drewN m) b1 (o1 + k * 65) 58 _ _ g1 (by first | exact Tryz.underlying58 | kernel_rfl) rfl (by rw [cellsU1_len (fx _ (List.getElem_mem _))]; kernel_rfl)
      have l2 : ∀ m, (Instr.loadAt 58 (.pointer (some ⟨b2, o2 + k * 65, none⟩))).run Tryz.prog (w2.drewN m) = .ok (.agg (cellsU1 b.ups[k]).toArray) (w2.drewN m) := fun m => run_loadAt_mid (w2.drewN m) b2 (o2 + k * 65) 58 _ _ g2 (by first | exact Tryz.underlying58 | kernel_rfl) rfl (by rw [cellsU1_len (fy _ (List.getElem_mem _))]; kernel_rfl)
      have q0 : ∀ m, (Op.equalIn 10000 58 (.agg (cellsU1 a.ups[k]).toArray) (.agg (cellsU1 b.ups[k]).toArray)).run Tryz.prog (w2.drewN m) = .ok (eqv a.ups[k] b.ups[k]) (w2.drewN m) := fun m => up_eqR _ _ _ (fx _ (List.getElem_mem _)) (fy _ (List.getElem_mem _))
      have HS := Lib.hid (show a.ups[k] = b.ups[k] → a.ups.take (k + 1) = b.ups.take (k + 1) from take_all h1 h2 HT.out)
      have HNE := Lib.hid (show a.ups[k] ≠ b.ups[k] → eqv a.ups b.ups = false from fun h => eqv_false fun e => h (by
        have h3 := congrArg (fun l => l[k]?) e
        simpa [List.getElem?_eq_getElem h1, List.getElem?_eq_getElem h2] using h3))
      generalize a.ups[k] = x at l1 q0 HS HNE
      generalize b.ups[k] = y at l2 q0 HS HNE
      have HLT := Lib.hid hlt
      have HKN := Lib.hid (show n1 ≤ 1000 by rw [HN1.out]; exact HLU.out)
      have i0 : ((k : Nat) : Int) < n1 := by omega
      have i1 : (0 : Int) ≤ ((k : Nat) : Int) := by omega
      have i3 : ((n1 : Nat) : Int) ≤ 1000 := by have := HKN.out; omega
      generalize (cellsU1 x).toArray = cx at l1 q0
      generalize (cellsU1 y).toArray = cy at l2 q0
      clear g1 g2 fx fy h1 h2 hlt hk
      rcases Classical.em (x = y) with e | e
      · have HN := Lib.hid (HS.out e)
        have hb : eqv x y = true := eqv_true e
        rw [hb] at q0
        have HQ := Lib.hid q0
        clear HS HNE e hb q0
        go_wp2
        refine wp_region_quiet_lit (by kernel_rfl) (by kernel_rfl) ?_
        repeat (first
          | go_big_quiet_step (fail)
          | (go_big_quiet_want; refine quiet_load 58 (.tmp 51) rfl _ rfl _ (by rintro _ ⟨m, rfl⟩; rw [World.drewN_drewN]; exact l1 _) ?_; go_big_quiet_on; simp only [Act.put, List.setIfInBounds_toArray, List.set_cons_zero, List.set_cons_succ])
          | (go_big_quiet_want; refine quiet_load 58 (.tmp 56) rfl _ rfl _ (by rintro _ ⟨m, rfl⟩; rw [World.drewN_drewN]; exact l2 _) ?_; go_big_quiet_on; simp only [Act.put, List.setIfInBounds_toArray, List.set_cons_zero, List.set_cons_succ])
          | (go_big_quiet_want; refine quiet_ne 58 (.tmp 52) (.tmp 57) _ rfl cx cy rfl rfl (by kernel_rfl) true (by rintro _ ⟨m, rfl⟩; rw [World.drewN_drewN]; exact HQ.out _) ?_; go_big_quiet_on; simp only [Act.put, List.setIfInBounds_toArray, List.set_cons_zero, List.set_cons_succ]))
        refine wpQuiet_nil ?_
        rintro _ ⟨nq, rfl⟩
        go_wp2
        go_roundw
        case rel => exact ⟨k + 1, q + nq, by have := HLT.out; omega, by go_num, HN, by simp⟩
        case measure => have := HLT.out; simp [intOf]; omega
      · have HN := Lib.hid (HNE.out e)
        have hb : eqv x y = false := eqv_false e
        rw [hb] at q0
        have HQ := Lib.hid q0
        clear HS HNE e hb q0
        go_wp2
        refine wp_region_quiet_lit (by kernel_rfl) (by kernel_rfl) ?_
        repeat (first
          | go_big_quiet_step (fail)
          | (go_big_quiet_want; refine quiet_load 58 (.tmp 51) rfl _ rfl _ (by rintro _ ⟨m, rfl⟩; rw [World.drewN_drewN]; exact l1 _) ?_; go_big_quiet_on; simp only [Act.put, List.setIfInBounds_toArray, List.set_cons_zero, List.set_cons_succ])
          | (go_big_quiet_want; refine quiet_load 58 (.tmp 56) rfl _ rfl _ (by rintro _ ⟨m, rfl⟩; rw [World.drewN_drewN]; exact l2 _) ?_; go_big_quiet_on; simp only [Act.put, List.setIfInBounds_toArray, List.set_cons_zero, List.set_cons_succ])
          | (go_big_quiet_want; refine quiet_ne 58 (.tmp 52) (.tmp 57) _ rfl cx cy rfl rfl (by kernel_rfl) false (by rintro _ ⟨m, rfl⟩; rw [World.drewN_drewN]; exact HQ.out _) ?_; go_big_quiet_on; simp only [Act.put, List.setIfInBounds_toArray, List.set_cons_zero, List.set_cons_succ]))
        refine wpQuiet_nil ?_
        rintro _ ⟨nq, rfl⟩
        go_wp2
        go_ret
        exact ⟨by rw [HE.out, HN.out]; rfl, below_drewN (below_drewN HB2.out _) _⟩
    · obtain rfl : k = n1 := by omega
      have H : Hid (eqv a.ups b.ups = true) := Lib.hid (eqv_true (by
        have h := HT.out
        rw [List.take_of_length_le (by rw [← HN1.out]; exact Nat.le_refl _), List.take_of_length_le (by rw [← HN2.out]; exact Nat.le_refl _)] at h
        exact h))
      go_wp2
      go_ret
      exact ⟨by rw [HE.out, H.out]; rfl, below_drewN HB2.out _⟩
end Go.Proofs.YtjkneidoochfjaaGreatDoor
