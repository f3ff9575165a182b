/- The law DiskDeeds: an armed disk does so many deeds and no more; a copy is apart. -/
import Derived.Test.YtpmadlkkldbceaaDoorDisk13
namespace Go.Proofs.YtpmadlkkldbceaaDoor
open Go Go.RowKit
namespace Dk
theorem wrote_nums (S : D) (i : Nat) (bs : List Nat) : (wrote S i bs).size = S.size ∧ (wrote S i bs).armed = S.armed ∧ (wrote S i bs).off = !done S ∧ (wrote S i bs).left = (if done S && S.armed then S.left - 1 else S.left) ∧ (wrote S i bs).deeds = if done S then S.deeds + 1 else S.deeds := by
  unfold wrote done
  cases ho : S.off
  · cases hz : dead S
    · cases ha : S.armed <;> simp [wr, did, ha, ho]
    · simp
  · simp [ho]
theorem syncs_nums (S : D) : (syncs S).size = S.size ∧ (syncs S).armed = S.armed ∧ (syncs S).off = !done S ∧ (syncs S).left = (if done S && S.armed then S.left - 1 else S.left) ∧ (syncs S).deeds = if done S then S.deeds + 1 else S.deeds := by
  unfold syncs done
  cases ho : S.off
  · cases hz : dead S
    · obtain ⟨_, h2, h3, h4, h5, h6⟩ := puts_keeps (did S) (did S).pend
      simp only [synced, h2, h3, h4, h5, h6]
      cases ha : S.armed <;> simp [did, ha, ho]
    · simp
  · simp [ho]
/-- the disk behind k tries -/
def trial (n : Nat) : Nat → D
  | 0 => { fresh 4 with armed := true, left := n }
  | k + 1 => if k % 3 = 2 then syncs (trial n k) else wrote (trial n k) (k % 4) [k]
theorem trial_nums (n : Nat) : ∀ k, (trial n k).size = 4 ∧ (trial n k).armed = true ∧ (trial n k).off = decide (n < k) ∧ (trial n k).left = n - k ∧ (trial n k).deeds = min k n
  | 0 => ⟨rfl, rfl, by simp [trial, fresh], rfl, by simp [trial, fresh]⟩
  | k + 1 => by
    obtain ⟨h1, h2, h3, h4, h5⟩ := trial_nums n k
    have hd : done (trial n k) = decide (k < n) := by
      unfold done dead
      rw [h2, h3, h4]
      by_cases hlt : k < n
      · have e1 : ¬ n < k := by omega
        have e2 : ¬ n - k = 0 := by omega
        simp [e1, e2, hlt]
      · by_cases heq : k = n
        · subst heq; simp
        · have e1 : n < k := by omega
          simp [e1, hlt]
    have key : ∀ T : D, (T.size = (trial n k).size ∧ T.armed = (trial n k).armed ∧ T.off = !done (trial n k) ∧ T.left = (if done (trial n k) && (trial n k).armed then (trial n k).left - 1 else (trial n k).left) ∧ T.deeds = if done (trial n k) then (trial n k).deeds + 1 else (trial n k).deeds) → T.size = 4 ∧ T.armed = true ∧ T.off = decide (n < k + 1) ∧ T.left = n - (k + 1) ∧ T.deeds = min (k + 1) n := by
      intro T ⟨g1, g2, g3, g4, g5⟩
      rw [h1] at g1
      rw [h2] at g2
      rw [hd] at g3
      rw [hd, h2, h4] at g4
      rw [hd, h5] at g5
      by_cases hlt : k < n
      · simp only [hlt, decide_true, Bool.and_true, if_true, Bool.not_true] at g3 g4 g5
        have e : ¬ n < k + 1 := by omega
        refine ⟨g1, g2, by rw [g3, decide_eq_false e], by omega, by omega⟩
      · simp only [hlt, decide_false, Bool.false_and, Bool.false_eq_true, if_false, Bool.not_false] at g3 g4 g5
        have e : n < k + 1 := by omega
        refine ⟨g1, g2, by rw [g3, decide_eq_true e], by omega, by omega⟩
    show (if k % 3 = 2 then syncs (trial n k) else wrote (trial n k) (k % 4) [k]).size = 4 ∧ (if k % 3 = 2 then syncs (trial n k) else wrote (trial n k) (k % 4) [k]).armed = true ∧ (if k % 3 = 2 then syncs (trial n k) else wrote (trial n k) (k % 4) [k]).off = _ ∧ (if k % 3 = 2 then syncs (trial n k) else wrote (trial n k) (k % 4) [k]).left = _ ∧ (if k % 3 = 2 then syncs (trial n k) else wrote (trial n k) (k % 4) [k]).deeds = _
    by_cases h : k % 3 = 2
    · rw [if_pos h]; exact key _ (syncs_nums _)
    · rw [if_neg h]; exact key _ (wrote_nums _ _ _)
theorem trial_done (n k : Nat) : done (trial n k) = decide (k < n) := by
  have h := (trial_nums n (k + 1)).2.2.1
  have h2 : (trial n (k + 1)).off = !done (trial n k) := by
    show (if k % 3 = 2 then syncs (trial n k) else wrote (trial n k) (k % 4) [k]).off = _
    split
    · exact (syncs_nums _).2.2.1
    · exact (wrote_nums _ _ _).2.2.1
  rw [h2] at h
  cases hd : done (trial n k)
  · rw [hd] at h
    have : n < k + 1 := of_decide_eq_true h.symm
    symm; apply decide_eq_false; omega
  · rw [hd] at h
    have : ¬ n < k + 1 := of_decide_eq_false h.symm
    symm; apply decide_eq_true; omega
end Dk
section
variable {B B' : Nat} {w w' : World} {d ms ml k c ms' ml' k' : Nat} {S C : Dk.D} {v v' : Value}
theorem DkAt.cross (h : DkAt B w d S ms ml v k) (h' : DkAt B' w c C ms' ml' v' k') : some c ≠ v.ownBlock ∧ some ms' ≠ v.ownBlock ∧ some ml' ≠ v.ownBlock := by
  obtain ⟨⟨_, _, _, h1, _, _⟩, _, _⟩ := h
  obtain ⟨⟨_, _, _, h2, _, _⟩, _, _⟩ := h'
  have hm1 := h2.safe
  have hm2 := h2.last
  have hb := h2.blk
  rcases h1.row.2 with ⟨rfl, _⟩ | ⟨g, cap, cur, rfl, _, hh, _⟩
  · exact ⟨by simp [Value.ownBlock], by simp [Value.ownBlock], by simp [Value.ownBlock]⟩
  · refine ⟨fun e => ?_, fun e => ?_, fun e => ?_⟩
    · injection e with e
      subst e
      have := hb.symm.trans hh
      injection this with this
      injection this with _ e _
      revert e; decide
    · injection e with e
      subst e
      obtain ⟨D, ⟨es, clock, h1, _⟩, _⟩ := hm1
      rw [h1] at hh
      cases hh
    · injection e with e
      subst e
      obtain ⟨D, ⟨es, clock, h1, _⟩, _⟩ := hm2
      rw [h1] at hh
      cases hh
/-- a disk that was made later stands through the deeds of one that was there before -/
theorem DkAt.aside (h : DkAt B w d S ms ml v k) (h' : DkAt B' w c C ms' ml' v' k') (hf : Fr w w' d ms ml v) (hd : d < B' ∧ ms < B' ∧ ml < B') (hv : v'.ownBlock = none ∨ v'.ownBlock ≠ v.ownBlock) : DkAt B' w' c C ms' ml' v' k' := by
  refine h'.stands fun b hb => ?_
  have l := h'.lts b hb
  have x := h.cross h'
  refine hf.block b l.2 (by omega) (by omega) (by omega) ?_
  rcases hb with rfl | rfl | rfl | hb
  · exact x.1
  · exact x.2.1
  · exact x.2.2
  · rcases hv with hv | hv
    · rw [hv] at hb; cases hb
    · rw [hb] at hv; exact hv
end
theorem u64_mod (x : Int) (m : Nat) (hm : 0 < m) (h : m ≤ 1000) : ∃ n : Nat, n < m ∧ wrap64 ((IntKind.u64.wrap x).tmod (m : Int)) = (n : Int) := by
  rw [wrap_u64]
  have h0 : 0 ≤ x % 18446744073709551616 := Int.emod_nonneg _ (by omega)
  rw [Int.tmod_eq_emod_of_nonneg h0]
  have h1 := Int.emod_nonneg (x % 18446744073709551616) (show (m : Int) ≠ 0 by omega)
  have h2 := Int.emod_lt_of_pos (x % 18446744073709551616) (show (0 : Int) < m by omega)
  refine ⟨((x % 18446744073709551616) % (m : Int)).toNat, by omega, ?_⟩
  rw [IntWalk.wrap64_in _ (by omega)]
  omega
theorem small_nums (k : Nat) (hk : k < 40) : ∃ r j : Nat, r < 3 ∧ j < 4 ∧ k % 3 = r ∧ k % 4 = j ∧ ((k : Nat) : Int).tmod 3 = (r : Int) ∧ ((k : Nat) : Int).tmod 4 = (j : Int) ∧ wrap64 (j : Int) = (j : Int) ∧ IntKind.u8.wrap ((k : Nat) : Int) = ((k : Nat) : Int) := by
  refine ⟨k % 3, k % 4, by omega, by omega, rfl, rfl, ?_, ?_, IntWalk.wrap64_in _ (by omega), ?_⟩
  · rw [Int.tmod_eq_emod_of_nonneg (by omega)]; omega
  · rw [Int.tmod_eq_emod_of_nonneg (by omega)]; omega
  · show ((k : Nat) : Int) % 256 = _; omega
theorem min_num (k n : Nat) (hk : k < 40) : wrap64 (((min k n : Nat) : Int) + 1) = ((min k n : Nat) : Int) + 1 := IntWalk.wrap64_in _ (by omega)
theorem er_cases (b : Bool) (aD : Addr) (w : World) : (binOp .eql 26 (er b aD) .nilIface).run Tryd.prog w = .ok (.bool b) w := by
  cases b
  · exact run_eql_ev aD w
  · kernel_rfl
set_option maxRecDepth 100000 in
theorem deeds_law (x y : Int) (a : Nat → Addr) (w : World) (hS : Sents w a) (hx : (Lit.int .i64 x).wf = true) (hy : (Lit.int .i64 y).wf = true) :
    Calls Tryd.prog 5 #[.int .i64 x, .int .i64 y] w fun e w' => e = .returned (.bool true) ∧ Below w.heap.size w w' := by
  have CA := alive_any a w hS
  have HSE := Lib.hid hS
  clear hS
  go_enter Tryd.func5, Tryd.ntmps5
  go_wp2_with (first
    | (go_at_call 6; refine CA.mono ?_; rintro e w1 ⟨rfl, hb⟩; have HB1 := Lib.hid hb; clear hb)
    | (go_at_call 7; refine (dk_new 4 w1 (by omega) (by omega)).mono ?_; rintro e w2 ⟨d, ms, ml, rfl, hd, hb⟩
       have HD2 := Lib.hid hd
       have HB2 := Lib.hid (HB1.out.trans (hb.mono HB1.out.size))
       clear hd hb))
  obtain ⟨n, hn, en⟩ := u64_mod x 30 (by omega) (by omega)
  obtain ⟨t, ht, et⟩ := u64_mod y 40 (by omega) (by omega)
  rw [show ((30 : Nat) : Int) = 30 from rfl] at en
  rw [show ((40 : Nat) : Int) = 40 from rfl] at et
  rw [en, et]
  clear en et
  have HNE : Hid (d ≠ 15) := Lib.hid (fun e => by have h1 := (HSE.out 15 (by omega)).lt; have h2 := (HD2.out.lts d (Or.inl rfl)).1; have h3 := HB1.out.size; have h4 : sgs.getD 15 0 = 15 := rfl; omega)
  go_wp2_with (first
    | (go_at_call 16; refine (dk_arm n w2 HD2.out rfl (by omega)).mono ?_; rintro e w3 ⟨rfl, hd, hf⟩
       have HD3 : Hid (DkAt w1.heap.size w3 d (Dk.trial n 0) ms ml (.slice none 0 0) 0) := Lib.hid hd
       have HB3 := Lib.hid (HD2.out.run (w0 := w) HB1.out.size HB2.out (hf _))
       clear hd hf)
    | (go_at_call 20; refine (dk_copy w3 HD3.out).mono ?_; rintro e w4 ⟨c, ms', ml', v', rfl, hc, hb⟩
       obtain rfl : v' = .slice none 0 0 := hc.nil rfl
       have HC4 := Lib.hid hc
       have HD4 := Lib.hid (HD3.out.below hb)
       have HB4 := Lib.hid (HB3.out.trans (hb.mono HB3.out.size))
       have HLT : Hid (d < w3.heap.size ∧ ms < w3.heap.size ∧ ml < w3.heap.size) := Lib.hid ⟨(HD3.out.lts d (Or.inl rfl)).2, (HD3.out.lts ms (Or.inr (Or.inl rfl))).2, (HD3.out.lts ml (Or.inr (Or.inr (Or.inl rfl)))).2⟩
       clear hc hb))
  go_loopw [8, 33] (fun u i wr => ∃ k : Nat, k ≤ t ∧ i = .int .i64 k ∧ u = .int .i64 (min k n : Nat) ∧ ∃ v, Hid (DkAt w1.heap.size wr d (Dk.trial n k) ms ml v k) ∧ Hid (DkAt w3.heap.size wr c (Dk.trial n 0) ms' ml' (.slice none 0 0) 0) ∧ Hid (Below w.heap.size w wr)) (fun _ i _ => t - (intOf i).toNat)
  case atStart => exact ⟨0, Nat.zero_le _, rfl, by rw [Nat.zero_min]; rfl, _, HD4, HC4, HB4⟩
  case round =>
    obtain ⟨k, hk, rfl, rfl, v, HD, HC, HB⟩ := hrel
    by_cases hlt : k < t
    · have i0 : ((k : Nat) : Int) < t := Int.ofNat_lt.2 hlt
      have hk0 : k < 40 := Nat.lt_trans hlt ht
      have HLTT := Lib.hid hlt
      have HK0 := Lib.hid hk0
      have HW1 := Lib.hid HB1.out.size
      have w1' := min_num k n hk0
      obtain ⟨r, j, hr, hj, er_, ej, m3, m4, w4', w8'⟩ := small_nums k hk0
      have HJ : Hid (r < 3 ∧ j < 4 ∧ k % 3 = r ∧ k % 4 = j) := Lib.hid ⟨hr, hj, er_, ej⟩
      clear hr hj er_ ej hk0 hlt hk
      by_cases hkn : k < n
      · have E1 : Hid (er (Dk.done (Dk.trial n k)) (a 15) = .nilIface) := Lib.hid (by rw [Dk.trial_done, decide_eq_true hkn]; rfl)
        have HMIN : Hid (min (k + 1) n = min k n + 1) := Lib.hid (by omega)
        clear hkn
        by_cases h3 : r = 2
        · subst h3
          have HST : Hid (Dk.trial n (k + 1) = Dk.syncs (Dk.trial n k)) := Lib.hid (by show (if k % 3 = 2 then _ else _) = _; rw [if_pos HJ.out.2.2.1])
          go_wp2_with (go_at_call 14; refine (dk_sync (a 15) wr HD.out (Nat.lt_trans HK0.out (by omega)) ((HSE.out.below HB.out (Nat.le_refl _)) 15 (by omega)).var HNE.out).mono ?_; rintro e w5 ⟨rfl, ⟨v5, hd⟩, hf⟩
                       rw [E1.out]
                       rw [← HST.out] at hd
                       have HD5 := Lib.hid hd
                       have HC5 := Lib.hid (HD.out.aside HC.out (hf v) HLT.out (Or.inl rfl))
                       have HB5 := Lib.hid (HD.out.run (w0 := w) HW1.out HB.out (hf v))
                       clear hd hf)
          exact ⟨⟨k + 1, HLTT.out, by simp, by rw [HMIN.out]; rfl, v5, HD5, HC5, HB5⟩, by have := HLTT.out; simp [intOf]; omega⟩
        · have HST : Hid (Dk.trial n (k + 1) = Dk.wrote (Dk.trial n k) j [k]) := Lib.hid (by show (if k % 3 = 2 then _ else Dk.wrote _ (k % 4) _) = _; rw [HJ.out.2.2.1, if_neg h3, HJ.out.2.2.2])
          have b3 : (((r : Nat) : Int) == 2) = false := beq_false_of_ne (fun e => h3 (by omega))
          have b4 : wrap64 ((r : Nat) : Int) = (r : Int) := IntWalk.wrap64_in _ (by have := HJ.out.1; omega)
          clear h3
          go_wp2_with (go_at_call 11
                       have hbl : Below wr.heap.size wr (wr.alloc (.cells (u8s [k]) 5)) := (Below.refl _ _).alloc (Nat.le_refl _) _
                       have HBL := Lib.hid (HB.out.trans (hbl.mono HB.out.size))
                       have HD4' := Lib.hid (HD.out.below hbl)
                       refine (dk_write j (some ⟨wr.heap.size, 0, none⟩) 1 1 [k] (a 15) (wr.alloc (.cells (u8s [k]) 5)) HD4'.out (by rw [(Dk.trial_nums n k).1]; exact HJ.out.2.1) (by omega) (rdB_of_lit wr [k] 5 d 1 (HD.out.lts d (Or.inl rfl)).2 (by simp)) (fun i => by have := HK0.out; cases i <;> simp <;> omega) (Nat.lt_trans HK0.out (by omega)) ((HSE.out.below HBL.out (Nat.le_refl _)) 15 (by omega)).var HNE.out).mono ?_
                       rintro e w5 ⟨rfl, ⟨v5, hd⟩, hf⟩
                       rw [E1.out]
                       rw [← HST.out] at hd
                       have HD5 := Lib.hid hd
                       have HC5 := Lib.hid (HD4'.out.aside (HC.out.below hbl) hf HLT.out (Or.inl rfl))
                       have HB5 := Lib.hid (HD4'.out.run (w0 := w) HW1.out HBL.out hf)
                       clear hd hf hbl)
          exact ⟨⟨k + 1, HLTT.out, by simp, by rw [HMIN.out]; rfl, v5, HD5, HC5, HB5⟩, by have := HLTT.out; simp [intOf]; omega⟩
      · have E1 : Hid (er (Dk.done (Dk.trial n k)) (a 15) = ev (a 15)) := Lib.hid (by rw [Dk.trial_done, decide_eq_false hkn]; rfl)
        have HMIN : Hid (min (k + 1) n = min k n) := Lib.hid (by omega)
        have q0 := run_eql_ev (a 15)
        clear hkn
        by_cases h3 : r = 2
        · subst h3
          have HST : Hid (Dk.trial n (k + 1) = Dk.syncs (Dk.trial n k)) := Lib.hid (by show (if k % 3 = 2 then _ else _) = _; rw [if_pos HJ.out.2.2.1])
          go_wp2_with (go_at_call 14; refine (dk_sync (a 15) wr HD.out (Nat.lt_trans HK0.out (by omega)) ((HSE.out.below HB.out (Nat.le_refl _)) 15 (by omega)).var HNE.out).mono ?_; rintro e w5 ⟨rfl, ⟨v5, hd⟩, hf⟩
                       rw [E1.out]
                       rw [← HST.out] at hd
                       have HD5 := Lib.hid hd
                       have HC5 := Lib.hid (HD.out.aside HC.out (hf v) HLT.out (Or.inl rfl))
                       have HB5 := Lib.hid (HD.out.run (w0 := w) HW1.out HB.out (hf v))
                       clear hd hf)
          exact ⟨⟨k + 1, HLTT.out, by simp, by rw [HMIN.out], v5, HD5, HC5, HB5⟩, by have := HLTT.out; simp [intOf]; omega⟩
        · have HST : Hid (Dk.trial n (k + 1) = Dk.wrote (Dk.trial n k) j [k]) := Lib.hid (by show (if k % 3 = 2 then _ else Dk.wrote _ (k % 4) _) = _; rw [HJ.out.2.2.1, if_neg h3, HJ.out.2.2.2])
          have b3 : (((r : Nat) : Int) == 2) = false := beq_false_of_ne (fun e => h3 (by omega))
          have b4 : wrap64 ((r : Nat) : Int) = (r : Int) := IntWalk.wrap64_in _ (by have := HJ.out.1; omega)
          clear h3
          go_wp2_with (go_at_call 11
                       have hbl : Below wr.heap.size wr (wr.alloc (.cells (u8s [k]) 5)) := (Below.refl _ _).alloc (Nat.le_refl _) _
                       have HBL := Lib.hid (HB.out.trans (hbl.mono HB.out.size))
                       have HD4' := Lib.hid (HD.out.below hbl)
                       refine (dk_write j (some ⟨wr.heap.size, 0, none⟩) 1 1 [k] (a 15) (wr.alloc (.cells (u8s [k]) 5)) HD4'.out (by rw [(Dk.trial_nums n k).1]; exact HJ.out.2.1) (by omega) (rdB_of_lit wr [k] 5 d 1 (HD.out.lts d (Or.inl rfl)).2 (by simp)) (fun i => by have := HK0.out; cases i <;> simp <;> omega) (Nat.lt_trans HK0.out (by omega)) ((HSE.out.below HBL.out (Nat.le_refl _)) 15 (by omega)).var HNE.out).mono ?_
                       rintro e w5 ⟨rfl, ⟨v5, hd⟩, hf⟩
                       rw [E1.out]
                       rw [← HST.out] at hd
                       have HD5 := Lib.hid hd
                       have HC5 := Lib.hid (HD4'.out.aside (HC.out.below hbl) hf HLT.out (Or.inl rfl))
                       have HB5 := Lib.hid (HD4'.out.run (w0 := w) HW1.out HBL.out hf)
                       clear hd hf hbl)
          exact ⟨⟨k + 1, HLTT.out, by simp, by rw [HMIN.out], v5, HD5, HC5, HB5⟩, by have := HLTT.out; simp [intOf]; omega⟩
    · obtain rfl : t = k := by omega
      have i0 : ¬ ((t : Nat) : Int) < t := by omega
      obtain ⟨_, _, t3, _, t5⟩ := Dk.trial_nums n t
      obtain ⟨⟨_, _, _, hDD, _, _⟩, _, _⟩ := HD.out
      obtain ⟨⟨_, _, _, hCC, _, _⟩, _, _⟩ := HC.out
      have p7 : wr.cell? ⟨d, 7, none⟩ = some (.int .i64 ((Dk.trial n t).deeds : Int)) := hDD.blk.cell 7
      have p4 : wr.cell? ⟨d, 4, none⟩ = some (.bool (Dk.trial n t).off) := hDD.blk.cell 4
      have c7 : wr.cell? ⟨c, 7, none⟩ = some (.int .i64 0) := hCC.blk.cell 7
      have c4 : wr.cell? ⟨c, 4, none⟩ = some (.bool false) := hCC.blk.cell 4
      have c2 : wr.cell? ⟨c, 2, none⟩ = some (.slice none 0 0) := hCC.blk.cell 2
      rw [t5] at p7
      rw [t3] at p4
      clear hDD hCC t3 t5 hk hlt
      by_cases hnt : n < t
      · have e : min t n = n := by omega
        rw [e] at p7 ⊢
        rw [decide_eq_true hnt] at p4
        have i1 : (n : Int) < (t : Int) := by omega
        have i2 : (n : Int) ≤ (t : Int) := by omega
        have i3 : ¬ (t : Int) < (n : Int) := by omega
        have i4 : ¬ (t : Int) ≤ (n : Int) := by omega
        clear e hnt
        go_wp2
        go_ret
        exact ⟨rfl, HB.out⟩
      · have e : min t n = t := by omega
        rw [e] at p7 ⊢
        rw [decide_eq_false hnt] at p4
        clear e
        by_cases htn : t = n
        · subst htn
          clear hnt
          go_wp2
          go_ret
          exact ⟨rfl, HB.out⟩
        · have i1 : ¬ (n : Int) < (t : Int) := by omega
          have i2 : ¬ (n : Int) ≤ (t : Int) := by omega
          have i3 : (t : Int) < (n : Int) := by omega
          have i4 : (t : Int) ≤ (n : Int) := by omega
          clear hnt htn
          go_wp2
          go_ret
          exact ⟨rfl, HB.out⟩
end Go.Proofs.YtpmadlkkldbceaaDoor
