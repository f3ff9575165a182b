/- An entry's bytes, and is it right: entry.Bytes, entry.Right. -/
import Derived.Test.YtldfjpafpfakcaaDoorMEn15
import Derived.Test.YtldfjpafpfakcaaDoorMEn4s
namespace Go.Proofs.YtldfjpafpfakcaaDoor
open Go Go.RowKit
/-- how entry.Bytes ends -/
def EBytesPost (e : En.E) (a : Nat → Addr) (w : World) (r : Ending) (w' : World) : Prop :=
  Below w.heap.size w w' ∧ (∀ n, En.bytes e = .bad n → r = .returned (.tuple #[.slice none 0 0, ev (a (n - 1))])) ∧ (∀ b, En.bytes e = .ok b → ∃ v, r = .returned (.tuple #[v, .nilIface]) ∧ Pad w.heap.size w v b w')
theorem En.bytes_form {e : En.E} (h : En.formed e = false) : En.bytes e = .bad 4 := by unfold En.bytes; rw [if_neg (by rw [h]; decide)]
theorem En.bytes_large {e : En.E} (h : En.formed e = true) (h2 : 2800 < (En.laid e).length) : En.bytes e = .bad 13 := by unfold En.bytes; rw [if_pos h, if_neg (by omega)]
theorem En.bytes_ok {e : En.E} (h : En.formed e = true) (h2 : (En.laid e).length ≤ 2800) : En.bytes e = .ok (En.laid e) := by unfold En.bytes; rw [if_pos h, if_pos h2]
theorem En.right_iff {e : En.E} : En.right e = true ↔ ∃ b, En.bytes e = .ok b := by
  unfold En.right
  rw [Bool.and_eq_true, decide_eq_true_iff]
  constructor
  · rintro ⟨h1, h2⟩
    exact ⟨_, En.bytes_ok h1 h2⟩
  · rintro ⟨b, hb⟩
    cases h : En.formed e with
    | false => rw [En.bytes_form h] at hb; cases hb
    | true =>
      refine ⟨rfl, ?_⟩
      by_cases h2 : (En.laid e).length ≤ 2800
      · exact h2
      · rw [En.bytes_large h (by omega)] at hb; cases hb
theorem En.bytes_laid {e : En.E} {b : List Nat} (h : En.bytes e = .ok b) : b = En.laid e ∧ En.formed e = true ∧ (En.laid e).length ≤ 2800 := by
  cases hf : En.formed e with
  | false => rw [En.bytes_form hf] at h; cases h
  | true =>
    by_cases h2 : (En.laid e).length ≤ 2800
    · rw [En.bytes_ok hf h2] at h; injection h with h; exact ⟨h.symm, rfl, h2⟩
    · rw [En.bytes_large hf (by omega)] at h; cases h
set_option maxRecDepth 100000 in
set_option maxHeartbeats 2000000 in
theorem ebytes_any (e : En.E) (ca : Array Value) (U O : Option Addr) (cu co : Nat) (ts : List En.Bt) (a : Nat → Addr) (w : World) (h : EnC w e ca U cu O co ts) (hS : ESents w a) (hm : MaxAt w) (hn : e.ups.length ≤ 1000) :
    Calls Tryd.prog 10 #[.agg ca] w (EBytesPost e a w) := by
  obtain ⟨w1, hw1⟩ : ∃ w1, w1 = w.alloc (.cells ca 25) := ⟨_, rfl⟩
  have hb : EnB w w1 e ca U cu O co ts := hw1 ▸ EnB.of h
  have HB := Lib.hid hb
  have HS := Lib.hid hS
  have H0 := Lib.hid h
  have CF := formed_any e ca U O cu co ts a w1 hb.ent (hS.at_ hb.bel) (hm.below hb.bel (Nat.le_refl _)) hn
  have e1 := hw1.symm
  clear h hb hw1 hS hm hn
  go_enter Tryd.func10, Tryd.ntmps10
  go_wp2_with (with_reducible (show wpList _ _ _ (Oper.mk _ (Op.load 25 _) _ _ _ _ :: _) _ _); refine pause ?_)
  unfold Paused
  refine wpList_row_w (by rfl) 25 (.tmp 1) (by rfl) w.heap.size (by rfl) 25 ca _ HB.out.box (by first | exact Tryd.underlying25 | kernel_rfl) (by rfl) (ent_load H0.out.size) ?_
  go_wp2_with (go_at_call 21; refine pause ?_)
  unfold Paused
  refine CF.mono ?_
  rintro r w2 ⟨rfl, hb2⟩
  have HB2 := Lib.hid (HB.out.below hb2)
  clear hb2 CF
  obtain ⟨fm, hfm⟩ : ∃ fm, fm = En.formed e := ⟨_, rfl⟩
  rw [← hfm]
  have HFM := Lib.hid hfm.symm
  clear hfm
  cases fm
  · have pE := ((HS.out.at_ HB2.out.bel).p.2.1)
    have HP : Hid (∀ m, EBytesPost e a w (.returned (.tuple #[.slice none 0 0, ev (a 3)])) (w2.drewN m)) := Lib.hid (fun m => ⟨below_drewN HB2.out.bel m, fun n hn => (by rw [En.bytes_form HFM.out] at hn; injection hn with hn; subst hn; rfl), fun b hb => (by rw [En.bytes_form HFM.out] at hb; cases hb)⟩)
    clear e1
    go_wp2_with fail
    go_quiet (fail)
    go_wp2
    go_ret2
    exact HP.out _
  have CW := written_any e ca U O cu co ts a w2 HB2.out.ent (En.formed_frm HFM.out) (HS.out.at_ HB2.out.bel)
  go_wp2_with (with_reducible (show wpList _ _ _ (Oper.mk _ (Op.load 25 _) _ _ _ _ :: _) _ _); refine pause ?_)
  unfold Paused
  refine wpList_row_w (by rfl) 25 (.tmp 1) (by rfl) w.heap.size (by rfl) 25 ca _ HB2.out.box (by first | exact Tryd.underlying25 | kernel_rfl) (by rfl) (ent_load H0.out.size) ?_
  go_wp2_with (go_at_call 22; refine pause ?_)
  unfold Paused
  refine CW.mono ?_
  rintro r w3 ⟨v, rfl, hp⟩
  obtain ⟨Av, cv, hvv⟩ := own_slice hp.own
  subst hvv
  have HP := Lib.hid hp
  have HB3 := Lib.hid (below_next HB2.out.bel hp.bel)
  clear hp CW
  by_cases hl : (En.laid e).length ≤ 2800
  · have HPP : Hid (EBytesPost e a w (.returned (.tuple #[.slice Av (En.laid e).length cv, .nilIface])) w3) := Lib.hid ⟨HB3.out, fun n hn => (by rw [En.bytes_ok HFM.out hl] at hn; cases hn), fun b hb => (by rw [En.bytes_ok HFM.out hl] at hb; injection hb with hb; subst hb; exact ⟨_, rfl, pad_low HP.out HB2.out.bel⟩)⟩
    have i1 : ¬ (2800 : Int) < ((En.laid e).length : Int) := by omega
    clear e1 hl
    generalize (En.laid e).length = nl at i1 HPP ⊢
    go_wp2
    go_ret2
    exact HPP.out
  · have pE := ((HS.out.at_ HB3.out).g)
    have HPP : Hid (∀ m, EBytesPost e a w (.returned (.tuple #[.slice none 0 0, ev (a 12)])) (w3.drewN m)) := Lib.hid (fun m => ⟨below_drewN HB3.out m, fun n hn => (by rw [En.bytes_large HFM.out (by omega)] at hn; injection hn with hn; subst hn; rfl), fun b hb => (by rw [En.bytes_large HFM.out (by omega)] at hb; cases hb)⟩)
    have i1 : (2800 : Int) < ((En.laid e).length : Int) := by omega
    clear e1 hl
    generalize (En.laid e).length = nl at i1 HPP ⊢
    go_wp2_with fail
    go_quiet (fail)
    go_wp2
    go_ret2
    exact HPP.out _
set_option maxRecDepth 100000 in
set_option maxHeartbeats 2000000 in
theorem eright_any (e : En.E) (ca : Array Value) (U O : Option Addr) (cu co : Nat) (ts : List En.Bt) (a : Nat → Addr) (w : World) (h : EnC w e ca U cu O co ts) (hS : ESents w a) (hm : MaxAt w) (hn : e.ups.length ≤ 1000) :
    Calls Tryd.prog 11 #[.agg ca] w fun r w' => r = .returned (.bool (En.right e)) ∧ Below w.heap.size w w' := by
  obtain ⟨w1, hw1⟩ : ∃ w1, w1 = w.alloc (.cells ca 25) := ⟨_, rfl⟩
  have hb : EnB w w1 e ca U cu O co ts := hw1 ▸ EnB.of h
  have HB := Lib.hid hb
  have H0 := Lib.hid h
  have CF := ebytes_any e ca U O cu co ts a w1 hb.ent (hS.at_ hb.bel) (hm.below hb.bel (Nat.le_refl _)) hn
  have e1 := hw1.symm
  clear h hb hw1 hS hm hn
  go_enter Tryd.func11, Tryd.ntmps11
  go_wp2_with (with_reducible (show wpList _ _ _ (Oper.mk _ (Op.load 25 _) _ _ _ _ :: _) _ _); refine pause ?_)
  unfold Paused
  refine wpList_row_w (by rfl) 25 (.tmp 1) (by rfl) w.heap.size (by rfl) 25 ca _ HB.out.box (by first | exact Tryd.underlying25 | kernel_rfl) (by rfl) (ent_load H0.out.size) ?_
  go_wp2_with (go_at_call 10; refine pause ?_)
  unfold Paused
  refine CF.mono ?_
  rintro r w2 ⟨hb2, hbad, hok⟩
  have HB2 := Lib.hid (below_next HB.out.bel hb2)
  clear hb2 CF
  cases hr : En.bytes e with
  | bad n =>
    obtain rfl := hbad n hr
    have HR : Hid (En.right e = false) := Lib.hid (by
      rw [← Bool.not_eq_true, En.right_iff, hr]
      rintro ⟨b, hb⟩
      cases hb)
    clear hbad hok hr
    go_wp2
    go_ret
    exact ⟨by rw [HR.out]; rfl, HB2.out⟩
  | ok b =>
    obtain ⟨v, rfl, _⟩ := hok b hr
    have HR : Hid (En.right e = true) := Lib.hid (En.right_iff.2 ⟨b, hr⟩)
    clear hbad hok hr
    go_wp2
    go_ret
    exact ⟨by rw [HR.out]; rfl, HB2.out⟩
end Go.Proofs.YtldfjpafpfakcaaDoor
/- The law's own helpers: alive, Long, Of. -/
namespace Go.Proofs.YtldfjpafpfakcaaDoor
open Go Go.RowKit
def E0 : En.E := ⟨1, 1, 2, [], []⟩
theorem E0_bytes : ∃ b, En.bytes E0 = .ok b ∧ b.length = 12 := by
  have hf : En.formed E0 = true := by unfold En.formed; decide
  have hl : (En.laid E0).length = 12 := rfl
  exact ⟨_, En.bytes_ok hf (by rw [hl]; omega), hl⟩
theorem E0_at (w : World) : EnC w E0 #[.int .i64 1, .int .i64 1, .int .i64 2, .slice none 0 0, .slice none 0 0] none 0 none 0 [] :=
  ⟨rfl, RdK.nil w _, fun u hu => (by cases hu), ⟨rfl, fun h => absurd h (by decide), fun t ht => (by cases ht)⟩, rfl⟩
theorem e0_built : Tryd.prog.built 25 [(0, .int .i64 1), (1, .int .i64 1), (2, .int .i64 2)] = some #[.int .i64 1, .int .i64 1, .int .i64 2, .slice none 0 0, .slice none 0 0] := by kernel_rfl
theorem ealive_any (a : Nat → Addr) (w : World) (hS : ESents w a) (hm : MaxAt w) :
    Calls Tryd.prog 5 #[] w fun r w' => r = .returned (.bool true) ∧ Below w.heap.size w w' := by
  have CB := ebytes_any E0 _ none none 0 0 [] a w (E0_at w) hS hm (Nat.zero_le _)
  obtain ⟨b, hb, hl⟩ := E0_bytes
  clear hS hm
  go_enter Tryd.func5, Tryd.ntmps5
  go_wp2_with (with_reducible (show wpList _ _ _ (Oper.mk _ (Op.build 25 _) _ _ _ _ :: _) _ _); refine pause ?_)
  unfold Paused
  refine wpList_buildK (by rfl) 25 _ (by rfl) [(0, .int .i64 1), (1, .int .i64 1), (2, .int .i64 2)] (by kernel_rfl) _ e0_built ?_
  go_wp2_with (go_at_call 10; refine pause ?_)
  unfold Paused
  refine CB.mono ?_
  rintro r w2 ⟨hb2, _, hok⟩
  obtain ⟨v, rfl, hp⟩ := hok b hb
  obtain ⟨Av, cv, hvv⟩ := own_slice hp.own
  subst hvv
  rw [hl]
  have HB2 := Lib.hid hb2
  clear CB hb hl hb2 hok hp
  go_wp2
  go_ret
  exact ⟨rfl, HB2.out⟩
/-- is a row of texts more than is asked? -/
def En.long (os : List (List Nat)) : Bool := decide (70 < os.length) || (os.any (fun x => decide (400 < x.length)) || decide (6000 < (os.map List.length).sum))
theorem sum_take {os : List (List Nat)} {k : Nat} (h : k < os.length) : ((os.take (k + 1)).map List.length).sum = ((os.take k).map List.length).sum + os[k].length := by
  rw [List.take_succ_eq_append_getElem h, List.map_append, List.sum_append]
  simp
theorem sum_few {os : List (List Nat)} (h : ∀ x ∈ os, x.length ≤ 400) : (os.map List.length).sum ≤ 400 * os.length := by
  induction os with
  | nil => simp
  | cons x os ih =>
    have h1 := h x (List.mem_cons_self ..)
    have h2 := ih fun y hy => h y (List.mem_cons_of_mem _ hy)
    rw [List.map_cons, List.sum_cons, List.length_cons]
    omega
set_option maxRecDepth 100000 in
set_option maxHeartbeats 4000000 in
theorem elong_any (A : Option Addr) (n c : Nat) (ts : List En.Bt) (w : World) (h : BtT w A n ts) :
    Calls Tryd.prog 13 #[.slice A n c] w fun r w' => r = .returned (.bool (En.long (ts.map (·.text)))) ∧ w' = w := by
  have HLL : Hid ((ts.map (·.text)).length = n) := Lib.hid (by rw [List.length_map]; exact h.len.symm)
  obtain ⟨os, hos⟩ : ∃ os, os = ts.map (·.text) := ⟨_, rfl⟩
  rw [← hos] at HLL ⊢
  by_cases h70 : 70 < n
  · have g1 : (70 : Int) < (n : Int) := by omega
    have HF : Hid (En.long os = true) := Lib.hid (by unfold En.long; rw [HLL.out, decide_eq_true h70]; rfl)
    clear h h70
    go_enter Tryd.func13, Tryd.ntmps13
    go_wp2
    go_ret
    exact ⟨by rw [HF.out]; rfl, rfl⟩
  have g1 : ¬ (70 : Int) < (n : Int) := by omega
  have HCE : Hid (0 < n → ∃ b o, A = some ⟨b, o, none⟩ ∧ ∀ i (hi : i < os.length), ∃ A1 c1, w.cell? ⟨b, o + i, none⟩ = some (.slice A1 os[i].length c1)) := Lib.hid (fun h0 => by
    obtain ⟨b, o, ha, hb, hx⟩ := h.row h0
    refine ⟨b, o, ha, fun i hi => ?_⟩
    have hit : i < ts.length := by rw [hos, List.length_map] at hi; exact hi
    obtain ⟨⟨A1, c1, hpv, _⟩, _⟩ := h.rd _ (List.getElem_mem hit)
    refine ⟨A1, c1, ?_⟩
    have e1 : os[i] = ts[i].text := by subst hos; simp
    rw [e1, ← hpv]
    exact hx i _ (List.getElem?_eq_getElem hit))
  have HN70 : Hid (n ≤ 70) := Lib.hid (by omega)
  clear h h70 hos
  go_enter Tryd.func13, Tryd.ntmps13
  go_wp2
  go_loopw [3, 11] (fun s i wr => wr = w ∧ ∃ k : Nat, k ≤ n ∧ i = .int .i64 k ∧ ∃ m : Nat, s = .int .i64 m ∧ Hid (m = ((os.take k).map List.length).sum ∧ ∀ x ∈ os.take k, x.length ≤ 400)) (fun _ i _ => n - (intOf i).toNat)
  case atStart => exact ⟨rfl, 0, Nat.zero_le _, rfl, 0, rfl, Lib.hid ⟨rfl, fun x hx => (by cases hx)⟩⟩
  case round =>
    obtain ⟨rfl, k, hk, rfl, m, rfl, HM⟩ := hrel
    have hm4 : m ≤ 28000 := by
      have h1 := sum_few HM.out.2
      have h2 := HN70.out
      rw [← HM.out.1, List.length_take] at h1
      omega
    by_cases hlt : k < n
    · have hki : k < os.length := by rw [HLL.out]; exact hlt
      obtain ⟨b, o, rfl, hx⟩ := HCE.out (by omega)
      obtain ⟨A1, c1, pc⟩ := hx k hki
      have i1 : ((k : Nat) : Int) < n := by omega
      have i2 : (0 : Int) ≤ ((k : Nat) : Int) := by omega
      have i3 : ((k : Nat) : Int) < 70 := by have := HN70.out; omega
      have i4 : ((m : Nat) : Int) ≤ 28000 := by omega
      have i5 : (0 : Int) ≤ ((m : Nat) : Int) := by omega
      have HST := Lib.hid (sum_take hki)
      have HTK := Lib.hid (List.take_succ_eq_append_getElem hki)
      have HMM : Hid (os[k] ∈ os) := Lib.hid (List.getElem_mem hki)
      obtain ⟨y, hy⟩ : ∃ y, y = os[k] := ⟨_, rfl⟩
      rw [← hy] at pc HST HTK HMM
      obtain ⟨l1, hl1⟩ : ∃ l, l = y.length := ⟨_, rfl⟩
      rw [← hl1] at pc HST
      have HL1 := Lib.hid hl1
      clear hx hki hy hl1 hm4
      by_cases hl : 400 < l1
      · have g2 : (400 : Int) < (l1 : Int) := by omega
        have HF : Hid (En.long os = true) := Lib.hid (by
          have h1 : os.any (fun x => decide (400 < x.length)) = true := List.any_eq_true.2 ⟨y, HMM.out, decide_eq_true (by rw [← HL1.out]; exact hl)⟩
          unfold En.long
          rw [h1]
          simp)
        clear hl
        go_wp2
        go_ret
        exact ⟨by rw [HF.out]; rfl, rfl⟩
      · have g2 : ¬ (400 : Int) < (l1 : Int) := by omega
        have g3 : (l1 : Int) ≤ 400 := by omega
        have g4 : (0 : Int) ≤ (l1 : Int) := by omega
        have HM2 : Hid (m + l1 = ((os.take (k + 1)).map List.length).sum ∧ ∀ x ∈ os.take (k + 1), x.length ≤ 400) := Lib.hid ⟨by rw [HST.out, ← HM.out.1], fun x hx => by
          rw [HTK.out] at hx
          rcases List.mem_append.1 hx with hx | hx
          · exact HM.out.2 x hx
          · rw [List.mem_singleton.1 hx, ← HL1.out]; omega⟩
        have HLT : Hid (k + 1 ≤ n) := Lib.hid hlt
        clear hl hlt hk
        go_wp2
        go_roundw
        case rel => exact ⟨trivial, k + 1, HLT.out, by go_num, m + l1, by go_num, HM2⟩
        case measure => have h5 := HLT.out; simp [intOf]; omega
    · obtain rfl : k = n := by omega
      have ik : ¬ ((k : Nat) : Int) < k := by omega
      have HE : Hid (En.long os = decide (6000 < m)) := Lib.hid (by
        have h1 := HM.out
        rw [← HLL.out, List.take_length] at h1
        have h2 : os.any (fun x => decide (400 < x.length)) = false := by
          rw [List.any_eq_false]
          intro x hx
          have := h1.2 x hx
          simp; omega
        unfold En.long
        rw [h2, decide_eq_false (show ¬ 70 < os.length by rw [HLL.out]; exact fun h => by have := HN70.out; omega), ← h1.1]
        rfl)
      clear hk hlt
      by_cases h6 : 6000 < m
      · have g6 : (6000 : Int) < (m : Int) := by omega
        have HF : Hid (En.long os = true) := Lib.hid (by rw [HE.out, decide_eq_true h6])
        clear h6 hm4
        go_wp2
        go_ret
        exact ⟨by rw [HF.out]; rfl, rfl⟩
      · have g6 : ¬ (6000 : Int) < (m : Int) := by omega
        have HF : Hid (En.long os = false) := Lib.hid (by rw [HE.out, decide_eq_false h6])
        clear h6 hm4
        go_wp2
        go_ret
        exact ⟨by rw [HF.out]; rfl, rfl⟩
end Go.Proofs.YtldfjpafpfakcaaDoor
/- Rows of texts compared by the document (SameLists), in general. -/
namespace Go.Proofs.YtldfjpafpfakcaaDoor
open Go Go.RowKit
set_option maxRecDepth 100000 in
set_option maxHeartbeats 1000000 in
theorem sameLists_any (A B : Option Addr) (n m c d : Nat) (ts us : List En.Bt) (w : World) (ht : BtT w A n ts) (hu : BtT w B m us) (hn : n ≤ 100000) :
    Calls Tryd.prog 20 #[.slice A n c, .slice B m d] w fun e w' => e = .returned (.bool (eqv (ts.map (·.text)) (us.map (·.text)))) ∧ ∃ m, w' = w.drewN m := by
  have HT := Lib.hid ht
  have HU := Lib.hid hu
  by_cases hl : n = m
  rotate_left
  · have b0 : ((n : Int) != (m : Int)) = true := by simp; omega
    have HN := Lib.hid (show eqv (ts.map (·.text)) (us.map (·.text)) = false from eqv_false fun e => hl (by
      have := congrArg List.length e
      rw [List.length_map, List.length_map, ← HT.out.len, ← HU.out.len] at this
      exact this))
    clear ht hu hl hn
    go_enter Tryd.func20, Tryd.ntmps20
    go_wp2
    go_ret
    exact ⟨by rw [HN.out]; rfl, 0, rfl⟩
  have b0 : ((n : Int) != (m : Int)) = false := by simp; omega
  subst hl
  have HN := Lib.hid hn
  clear ht hu hn
  go_enter Tryd.func20, Tryd.ntmps20
  go_wp2_with fail
  go_loopw [13] (fun i wr => ∃ k : Nat, k ≤ n ∧ i = .int .i64 k ∧ Hid ((ts.take k).map (·.text) = (us.take k).map (·.text)) ∧ ∃ q, wr = w.drewN q) (fun i _ => n - (intOf i).toNat)
  case atStart => exact ⟨0, Nat.zero_le _, rfl, Lib.hid rfl, 0, rfl⟩
  case round =>
    obtain ⟨k, hk, rfl, HK, q, rfl⟩ := hrel
    rcases Nat.lt_or_ge k n with hlt | hlt
    rotate_left
    · obtain rfl : k = n := by omega
      have ik : ¬ ((k : Nat) : Int) < (k : Int) := by omega
      have HF : Hid (eqv (ts.map (·.text)) (us.map (·.text)) = true) := Lib.hid (eqv_true (by
        have h := HK.out
        rw [List.take_of_length_le (by rw [← HT.out.len]; exact Nat.le_refl _), List.take_of_length_le (by rw [← HU.out.len]; exact Nat.le_refl _)] at h
        exact h))
      clear hk hlt
      go_wp2_with fail
      go_ret
      exact ⟨by rw [HF.out]; rfl, _, rfl⟩
    have h1 : k < ts.length := by rw [← HT.out.len]; exact hlt
    have h2 : k < us.length := by rw [← HU.out.len]; exact hlt
    obtain ⟨b1, o1, rfl, _, g1⟩ := HT.out.row (by omega)
    obtain ⟨b2, o2, rfl, _, g2⟩ := HU.out.row (by omega)
    have c1 := g1 k ts[k] (List.getElem?_eq_getElem h1)
    have c2 := g2 k us[k] (List.getElem?_eq_getElem h2)
    obtain ⟨r1, y1⟩ := HT.out.rd ts[k] (List.getElem_mem h1)
    obtain ⟨r2, y2⟩ := HU.out.rd us[k] (List.getElem_mem h2)
    have HS := Lib.hid (fun e => map_take_next h1 h2 HK.out e)
    have HNE := Lib.hid (show ts[k].text ≠ us[k].text → eqv (ts.map (·.text)) (us.map (·.text)) = false from fun hne => eqv_false fun e => hne (by
      have h3 := congrArg (fun l => l[k]?) e
      simpa [List.getElem?_eq_getElem h1, List.getElem?_eq_getElem h2] using h3))
    generalize ts[k] = t at c1 r1 y1 HS HNE
    generalize us[k] = u at c2 r2 y2 HS HNE
    obtain ⟨wo, hwo⟩ : ∃ wo, wo = w.drewN q := ⟨_, rfl⟩
    have p1 : wo.cell? ⟨b1, o1 + k, none⟩ = some t.val := by rw [hwo]; exact c1
    have p2 : wo.cell? ⟨b2, o2 + k, none⟩ = some u.val := by rw [hwo]; exact c2
    have q0 : ((textOf t.text).toList == (textOf u.text).toList) = eqv t.text u.text := textOf_eqv y1 y2
    obtain ⟨T, hT⟩ : ∃ T, T = textOf t.text := ⟨_, rfl⟩
    obtain ⟨U, hU⟩ : ∃ U, U = textOf u.text := ⟨_, rfl⟩
    have q1 : ∀ j, (convert 39 9 t.val).run Tryd.prog (wo.drewN j) = .ok (.string T) (wo.drewN j) := fun j => by rw [hT, hwo]; exact conv_rd (w := (w.drewN q).drewN j) ((r1.below (below_drewN (Below.refl _ _) q) (Nat.le_refl _)).below (below_drewN (Below.refl _ _) j) (Nat.le_refl _))
    have q2 : ∀ j, (convert 39 9 u.val).run Tryd.prog (wo.drewN j) = .ok (.string U) (wo.drewN j) := fun j => by rw [hU, hwo]; exact conv_rd (w := (w.drewN q).drewN j) ((r2.below (below_drewN (Below.refl _ _) q) (Nat.le_refl _)).below (below_drewN (Below.refl _ _) j) (Nat.le_refl _))
    rw [← hT, ← hU] at q0
    generalize t.val = tv at p1 q1
    generalize u.val = uv at p2 q2
    have i0 : ((k : Nat) : Int) < (n : Int) := by omega
    have i1 : (0 : Int) ≤ ((k : Nat) : Int) := by omega
    have i3 : ((n : Nat) : Int) ≤ 100000 := by have := HN.out; omega
    have HLT := Lib.hid hlt
    have HWO : Hid (∀ j, ∃ m', wo.drewN j = w.drewN m') := Lib.hid (fun j => ⟨q + j, by rw [hwo]; simp⟩)
    clear g1 g2 c1 c2 r1 r2 y1 y2 hT hU h1 h2 hlt hk
    rw [← hwo]
    clear hwo
    rcases Classical.em (t.text = u.text) with e | e
    · have HKN := Lib.hid (HS.out e)
      rw [eqv_true e] at q0
      clear e HS HNE
      go_wp2_with fail
      go_quiet (fail)
      go_wp2_with fail
      refine ⟨⟨k + 1, HLT.out, by simp, HKN, HWO.out _⟩, by have := HLT.out; simp [intOf]; omega⟩
    · have HF := Lib.hid (HNE.out e)
      rw [eqv_false e] at q0
      clear e HS HNE
      go_wp2_with fail
      go_quiet (fail)
      go_wp2_with fail
      go_ret
      exact ⟨by rw [HF.out]; rfl, HWO.out _⟩
end Go.Proofs.YtldfjpafpfakcaaDoor
