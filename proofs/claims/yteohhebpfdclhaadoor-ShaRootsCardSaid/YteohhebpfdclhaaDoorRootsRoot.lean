/- The walks of a root, of the primes and of the check of the table (package cartageref01). -/
import Derived.Test.YteohhebpfdclhaaDoorRootsWalk
namespace Go.Proofs.YteohhebpfdclhaaDoor
open Go Go.RowKit
def RootAt (p k : Nat) (v : Value) : Prop := v = .int .u64 ((Roots.root p k : Nat) : Int)
theorem small64 (q : Nat) (hq : q < 68719476736) : IntKind.u64.wrap (q : Int) = q := by rw [wrap_u64]; omega
set_option maxRecDepth 100000 in
theorem root_any (p : Nat) (w : World) :
    Calls Tryd.prog 28 #[.int .u64 p, .int .i64 3] w fun e w' => e = .returned (.int .u32 ((Roots.root p 36 % 4294967296 : Nat) : Int)) ∧ Below w.heap.size w w' := by
  go_enter Tryd.func28, Tryd.ntmps28
  go_wp2_with fail
  go_loopw [5, 6] (fun s b wr => ∃ k : Nat, k ≤ 36 ∧ b = .int .i64 (35 - (k : Int)) ∧ RootAt p k s ∧ Below w.heap.size w wr) (fun _ b _ => (intOf b + 1).toNat)
  case atStart => exact ⟨0, by omega, rfl, rfl, Below.refl _ _⟩
  case round =>
    obtain ⟨k, hk, rfl, hr, hbel⟩ := hrel
    have hrl := Roots.root_lt p k hk
    have HN : Hid (k ≤ 35 → Roots.root p (k + 1) = if Roots.above (Roots.root p k ||| 2 ^ (35 - k)) p then Roots.root p k else Roots.root p k ||| 2 ^ (35 - k)) := Lib.hid fun _ => rfl
    obtain rfl := hr
    by_cases hlt : k < 36
    · generalize hrr : Roots.root p k = x at hrl HN
      have HRR := Lib.hid hrr
      clear hrr
      have i1 : (0 : Int) ≤ 35 - (k : Int) := by omega
      have i2 : 35 - (k : Int) < 64 := by omega
      have i3 : (k : Int) ≤ 35 := by omega
      go_wp2_with fail
      have hpw : 2 ^ (35 - k) < 68719476736 := Nat.lt_of_le_of_lt (Nat.pow_le_pow_right (by decide) (show 35 - k ≤ 35 by omega)) (by decide)
      have e1 : IntKind.u64.wrap ((2 : Int) ^ (35 - k)) = ((2 ^ (35 - k) : Nat) : Int) := by
        rw [show ((2 : Int) ^ (35 - k)) = ((2 ^ (35 - k) : Nat) : Int) by simp]
        exact small64 _ hpw
      have e2 : bits .or .u64 (x : Int) (IntKind.u64.wrap ((2 : Int) ^ (35 - k))) = ((x ||| 2 ^ (35 - k) : Nat) : Int) := by
        rw [e1]; exact u64_or _ _ (by omega) (by omega)
      rw [e2]
      have hy : x ||| 2 ^ (35 - k) < 68719476736 := Nat.or_lt_two_pow (n := 36) hrl hpw
      clear e1 e2 hpw
      generalize x ||| 2 ^ (35 - k) = y at HN hy ⊢
      generalize Value.int .u64 (IntKind.u64.wrap ((2 : Int) ^ (35 - k))) = q3
      refine (above_any y p wr (by omega)).mono ?_
      rintro e w2 ⟨rfl, hb2⟩
      have HB2 := Lib.hid (hbel.trans (hb2.mono hbel.size))
      clear hb2
      rcases hab : Roots.above y p with _ | _
      · have HE : Hid (Roots.root p (k + 1) = y) := Lib.hid (by rw [HN.out (by omega), if_neg (by rw [hab]; decide)])
        clear hab HN
        go_wp2_with fail
        go_roundw
        case rel => exact ⟨k + 1, by omega, congrArg (Value.int .i64) (by omega), by unfold RootAt; rw [HE.out], HB2.out⟩
        case measure => simp [intOf]; omega
      · have HE : Hid (Roots.root p (k + 1) = x) := Lib.hid (by rw [HN.out (by omega), if_pos hab])
        clear hab HN
        go_wp2_with fail
        go_roundw
        case rel => exact ⟨k + 1, by omega, congrArg (Value.int .i64) (by omega), by unfold RootAt; rw [HE.out], HB2.out⟩
        case measure => simp [intOf]; omega
    · have HK := Lib.hid (show k = 36 by omega)
      have i1 : 35 - (k : Int) < 0 := by omega
      have HV := Lib.hid (u64_low (Roots.root p k) (by omega))
      have HX : Hid (Roots.root p k = Roots.root p 36) := Lib.hid (by rw [HK.out])
      generalize Roots.root p k = x at HV HN hrl HX
      clear HN
      go_wp2_with fail
      go_ret
      refine ⟨?_, hbel⟩
      rw [← HX.out]
      have e : bits .and .u64 (x : Int) 4294967295 % 4294967296 = ((x % 4294967296 : Nat) : Int) := by rw [HV.out]; omega
      exact congrArg (fun z => Ending.returned (Value.int .u32 z)) e
theorem RdU.of_own {w : World} {base n : Nat} {v : Value} {l : List Nat} (h : w.ownsRow base 41 1 v n (l.map fun (n : Nat) => Value.int .u64 (n : Int))) (hn : n = l.length) : RdU w v l := by
  subst hn
  rcases h.2 with ⟨rfl, h0⟩ | ⟨g, cap, cur, rfl, _, hh, hcap, _, hcs, hxs⟩
  · exact ⟨none, 0, by rw [h0], by omega, fun h1 => by omega⟩
  · refine ⟨_, _, rfl, hcap, fun _ => ⟨g, 0, rfl, ?_, fun i hi => ?_⟩⟩
    · rcases Nat.lt_or_ge g w.heap.size with h | h
      · exact h
      · rw [Array.getElem?_eq_none h] at hh; cases hh
    · rw [Nat.zero_add, cell_of_row _ _ _ _ _ _ hh]
      have h := congrArg (·[i]?) hxs
      simp only [List.getElem?_take, if_pos (show i < l.length * 1 by omega)] at h
      rw [show cur[i]? = cur.toList[i]? by simp, h]
      simp [List.getD, hi]
theorem rem_bool (k q : Nat) : ((((k : Int) + 2) % (q : Int)) != 0) = ((2 + k) % q != 0) := by
  have e : ((k : Int) + 2) % (q : Int) = (((2 + k) % q : Nat) : Int) := by
    rw [Int.natCast_emod]; congr 1; omega
  rw [e, Bool.eq_iff_iff]
  simp only [bne_iff_ne, ne_eq]
  omega
theorem step_all (l : List Nat) (p : Nat) : Roots.step l p = if l.all (fun q => p % q != 0) then l ++ [p] else l := rfl
/-- what the inner loop has found -/
def AllAt (l : List Nat) (p j : Nat) (v : Value) : Prop := v = .bool ((l.take j).all (fun q => p % q != 0))
set_option maxRecDepth 100000 in
theorem primes_any (w : World) :
    Calls Tryd.prog 27 #[.int .i64 64] w fun e w' => ∃ v, e = .returned v ∧ RdU w' v (Roots.upTo 310) ∧ Below w.heap.size w w' := by
  go_enter Tryd.func27, Tryd.ntmps27
  go_wp2_with fail
  have hown0 := World.ownsRow_lit (base := w.heap.size) (e := 41) (size := 1) w #[] 0 (Nat.le_refl _) (by decide) rfl
  have HOWN := Lib.hid hown0
  have HB0 := Lib.hid ((Below.refl w.heap.size w).alloc (Nat.le_refl _) (.cells #[] 41))
  clear hown0
  obtain ⟨i0, hi0, hz1, hz2, hz3⟩ := info_parts info64
  generalize w.alloc (.cells #[] 41) = w1 at HOWN HB0 ⊢
  go_loopw [3, 4] (fun s q wr => ∃ k : Nat, k ≤ 310 ∧ q = .int .u64 ((k : Int) + 2) ∧ wr.ownsRow w.heap.size 41 1 s (Roots.upTo k).length ((Roots.upTo k).map fun (n : Nat) => Value.int .u64 (n : Int)) ∧ Below w.heap.size w wr) (fun _ q _ => (312 - intOf q).toNat)
  case atStart => exact ⟨0, by omega, rfl, HOWN.out, HB0.out⟩
  case round =>
    obtain ⟨k, hk, rfl, hown, hbel⟩ := hrel
    have HO := Lib.hid hown
    obtain ⟨A, c, rfl, hc, hA⟩ := RdU.of_own hown rfl
    clear hown
    have HA := Lib.hid hA
    clear hA
    have hge := Roots.upTo_ge k
    have HST : Hid (Roots.upTo (k + 1) = if (Roots.upTo k).all (fun q => (2 + k) % q != 0) then Roots.upTo k ++ [2 + k] else Roots.upTo k) := Lib.hid rfl
    by_cases hlt : k < 310
    · have hl64 := Roots.upTo_lt (show k ≤ 309 by omega)
      have hl64' : (((Roots.upTo k).length : Nat) : Int) < 64 := by omega
      generalize Roots.upTo k = l at HO HA hge HST hl64 hl64' hc ⊢
      obtain ⟨wo, rfl⟩ : ∃ wo : World, wo = wr := ⟨_, rfl⟩
      go_wp2_with fail
      go_loopw [17, 5] (fun s b wr => ∃ j : Nat, j ≤ l.length ∧ s = .int .i64 j ∧ AllAt l (2 + k) j b ∧ wo = wr) (fun s _ _ => l.length - (intOf s).toNat)
      case atStart => exact ⟨0, by omega, rfl, rfl, rfl⟩
      case round =>
        obtain ⟨j, hj, rfl, hall, rfl⟩ := hrel
        by_cases hjl : j < l.length
        · obtain ⟨g, o, rfl, hg, hcell⟩ := HA.out (by omega)
          have hx := hcell j hjl
          have hq2 := hge (l.getD j 0) (by simp [List.getD, hjl])
          have HN : Hid ((l.take (j + 1)).all (fun q => (2 + k) % q != 0) = ((l.take j).all (fun q => (2 + k) % q != 0) && ((2 + k) % l.getD j 0 != 0))) := by
            apply Lib.hid
            rw [List.take_add_one, List.all_append]
            simp [List.getD, hjl]
          generalize l.getD j 0 = q at hx hq2 HN
          obtain rfl := hall
          have j1 : ((j : Nat) : Int) < l.length := by omega
          have j2 : (0 : Int) ≤ ((j : Nat) : Int) := by omega
          have q1 : (2 : Int) ≤ ((q : Nat) : Int) := by omega
          have q0 : ((q : Nat) : Int) ≠ 0 := by omega
          clear hcell
          generalize (l.take j).all (fun q => (2 + k) % q != 0) = bb at HN ⊢
          cases bb
          · go_wp2_with fail
            go_roundw
            case rel => exact ⟨j + 1, by omega, by go_num, by unfold AllAt; rw [HN.out]; rfl, trivial⟩
            case measure => simp [intOf]; omega
          · go_wp2_with fail
            go_roundw
            case rel => exact ⟨j + 1, by omega, by go_num, by unfold AllAt; rw [HN.out, rem_bool]; rfl, trivial⟩
            case measure => simp [intOf]; omega
        · obtain rfl := hall
          have HJ : Hid ((l.take j).all (fun q => (2 + k) % q != 0) = l.all (fun q => (2 + k) % q != 0)) := Lib.hid (by rw [List.take_of_length_le (by omega)])
          have HBE := Lib.hid hbel
          rcases hall2 : (l.take j).all (fun q => (2 + k) % q != 0) with _ | _
          · have HN : Hid (Roots.upTo (k + 1) = l) := Lib.hid (by rw [HST.out, ← HJ.out, hall2]; rfl)
            clear HJ hall2
            go_wp2_with fail
            go_roundw
            case rel => exact ⟨k + 1, by omega, by go_num, by rw [HN.out]; exact HO.out, hbel⟩
            case measure => simp [intOf]; omega
          · have HN : Hid (Roots.upTo (k + 1) = l ++ [2 + k]) := Lib.hid (by rw [HST.out, ← HJ.out, hall2]; rfl)
            clear HJ hall2
            go_wp2_with (at_builtin; refine wpList_append_own _ rfl _ _ 60 rfl w.heap.size 41 i0 (.int .u64 0) 1 8 Tryd.underlying60 hi0 hz1 hz2 hz3 rfl (by decide) _ _ _ rfl (HO.out.alloc _) ⟨wo.heap.size, 0, none⟩ 1 1 [.int .u64 ((k : Int) + 2)] rfl rfl ?c1 ?c2 ?c3 ?c4 ?c5 ?_)
            case c1 =>
              intro i u hu
              have hi : i = 0 := by have := (List.getElem?_eq_some_iff.1 hu).1; simp at this; exact this
              subst hi
              have h := heap_alloc_new wo (.cells #[.int .u64 ((k : Int) + 2)] 41)
              rw [Addr.add_mid, cell_of_row _ _ _ _ _ _ h, ← hu]
              simp
            case c2 => intro u hu; simp at hu; rw [hu]; rfl
            case c3 => unfold maxLen; omega
            case c4 => omega
            case c5 =>
              have h1 := hbel.size
              simp; omega
            intro v' w2 hown2 hgrow _
            have hb2 : Below w.heap.size w w2 := by
              refine (HBE.out.alloc HBE.out.size _).grown hgrow (by have := HBE.out.size; simp; omega) ?_
              intro g hg
              rcases HO.out.2 with ⟨h1, _⟩ | ⟨g', cap, cur, h1, hbg, _⟩
              · injection h1 with h1; subst h1; cases hg
              · injection h1 with h1; subst h1
                have : g' = g := by simpa [Value.ownBlock] using hg
                omega
            have HO2 : Hid (w2.ownsRow w.heap.size 41 1 v' (l ++ [2 + k]).length ((l ++ [2 + k]).map fun (n : Nat) => Value.int .u64 (n : Int))) := by
              apply Lib.hid
              rw [List.length_append, List.map_append]
              have e : ((2 + k : Nat) : Int) = (k : Int) + 2 := by omega
              show w2.ownsRow _ _ _ _ _ (_ ++ [Value.int .u64 ((2 + k : Nat) : Int)])
              rw [e]
              exact hown2
            clear hown2 hgrow
            go_wp2_with fail
            go_roundw
            case rel => exact ⟨k + 1, by omega, by go_num, by rw [HN.out]; exact HO2.out, hb2⟩
            case measure => simp [intOf]; omega
    · have HK := Lib.hid (show k = 310 by omega)
      have hl : (Roots.upTo k).length = 64 := by rw [HK.out]; exact Roots.last_len.2
      have HRD : Hid (RdU wr (.slice A (Roots.upTo k).length c) (Roots.upTo k)) := Lib.hid (RdU.of_own HO.out rfl)
      have HL := Lib.hid hl
      rw [hl] at HRD ⊢
      clear HST hge hl
      go_wp2_with fail
      go_ret
      exact ⟨_, rfl, by rw [← HK.out]; exact HRD.out, hbel⟩
def RdW (w : World) (v : Value) (xs : List Nat) : Prop :=
  ∃ A c, v = .slice A xs.length c ∧ xs.length ≤ c ∧ (0 < xs.length → ∃ b o, A = some ⟨b, o, none⟩ ∧ b < w.heap.size ∧ ∀ i, i < xs.length → w.cell? ⟨b, o + i, none⟩ = some (.int .u32 ((xs.getD i 0 : Nat) : Int)))
set_option maxRecDepth 100000 in
theorem table_any (w : World) :
    Calls Tryd.prog 23 #[] w fun e w' => e = .returned (.slice (some ⟨w.heap.size, 0, none⟩) 64 64) ∧ Blk w' w.heap.size 52 (u32s Sha.K) ∧ Below w.heap.size w w' := by
  go_enter Tryd.func23, Tryd.ntmps23
  go_wp2_with fail
  go_ret
  exact ⟨rfl, Blk.new w _ _, (Below.refl _ _).alloc (Nat.le_refl _) _⟩
set_option maxRecDepth 100000 in
theorem rooted_any (w : World) :
    Calls Tryd.prog 13 #[] w fun e w' => e = .returned (.bool true) ∧ Below w.heap.size w w' := by
  go_enter Tryd.func13, Tryd.ntmps13
  go_wp2_with fail
  refine (table_any w).mono ?_
  rintro e w1 ⟨rfl, hblk, hb1⟩
  go_wp2_with fail
  refine (primes_any w1).mono ?_
  rintro e w2 ⟨v, rfl, hv, hb2⟩
  have HBK := Lib.hid (hblk.below hb2 hblk.lt)
  have hbel := hb1.trans (hb2.mono hb1.size)
  obtain ⟨A, c, rfl, hc, hA⟩ := hv
  have hl := Roots.last_len.2
  have HA := Lib.hid hA
  have HL := Lib.hid hl
  have HRT := Lib.hid Roots.rooted
  clear hA hblk hb1 hb2
  rw [hl] at hc ⊢
  generalize Roots.upTo 310 = l at HA HL HRT
  clear hl
  go_wp2_with fail
  go_loopw [7] (fun s wr => ∃ i : Nat, i ≤ 64 ∧ s = .int .i64 i ∧ Below w2.heap.size w2 wr) (fun s _ => 64 - (intOf s).toNat)
  case atStart => exact ⟨0, by omega, rfl, Below.refl _ _⟩
  case round =>
    obtain ⟨i, hi, rfl, hb3⟩ := hrel
    by_cases hlt : i < 64
    · obtain ⟨g, o, rfl, hg, hcell⟩ := HA.out (by rw [HL.out]; omega)
      have hx := (hb3.cell (p := ⟨g, o + i, none⟩) hg).trans (hcell i (by rw [HL.out]; omega))
      have hk := (hb3.cell (p := ⟨w.heap.size, i, none⟩) HBK.out.lt).trans ((HBK.out.cell i).trans (u32s_get Sha.K i hlt))
      have HRI := Lib.hid (HRT.out i hlt)
      generalize l.getD i 0 = p at hx HRI
      generalize Sha.K.getD i 0 = kk at hk HRI
      have i1 : ((i : Nat) : Int) < 64 := by omega
      have i2 : (0 : Int) ≤ ((i : Nat) : Int) := by omega
      clear hcell
      go_wp2_with fail
      refine wp_region_any (by kernel_rfl) ?_
      change wpAny _ _ _ _ _ _ _ wr.drew
      refine wpAny_take (i := 0) (v := ?_) rfl (by kernel_rfl) (by kernel_rfl) (by kernel_rfl) (fun _ _ _ h => h) (Or.inl ⟨by rfl, ?_⟩) ?_
      rotate_left
      · intro w; go_simp; with_reducible rfl
      refine wpAny_take (i := 1) (v := ?_) rfl (by kernel_rfl) (by kernel_rfl) (by kernel_rfl) (fun _ _ _ h => h) (Or.inl ⟨by rfl, ?_⟩) ?_
      rotate_left
      · intro w; go_simp; with_reducible rfl
      refine wpAny_take (i := 2) (v := ?_) rfl (by kernel_rfl) (by kernel_rfl) (by kernel_rfl) (fun _ _ _ h => h) (Or.inl ⟨by rfl, ?_⟩) ?_
      rotate_left
      · intro w; go_simp; with_reducible rfl
      refine wpAny_take (i := 4) (v := ?_) rfl (by kernel_rfl) (by kernel_rfl) (by kernel_rfl) (fun _ _ _ h => h) (Or.inl ⟨by rfl, ?_⟩) ?_
      rotate_left
      · intro w; go_simp; with_reducible rfl
      simp only [Act.put, List.getElem_toArray, List.getElem_cons_zero, List.getElem_cons_succ, List.setIfInBounds_toArray, List.set_cons_zero, List.set_cons_succ]
      refine wpAny_ready (rs := [3, 5]) (by kernel_rfl) (by simp) ?_
      refine AllReady.cons rfl (fun K hK => ?_) (AllReady.cons rfl (fun K hK => ?_) AllReady.nil)
      go_simp
      refine hK _ _ ?_; clear hK K
      refine wpAny_ready (rs := [5]) (by kernel_rfl) (by simp) ?_
      refine AllReady.cons rfl (fun K hK => ?_) AllReady.nil
      go_simp
      refine (root_any p _).mono ?_
      rintro e w9 ⟨rfl, hb9⟩
      rw [HRI.out]
      dsimp only
      refine hK _ _ ?_; clear hK K
      rotate_left
      go_simp
      refine (root_any p _).mono ?_
      rintro e w9 ⟨rfl, hb9⟩
      rw [HRI.out]
      dsimp only
      refine hK _ _ ?_; clear hK K
      have hk9 := (hb9.cell (p := ⟨w.heap.size, i, none⟩) (by have h1 := HBK.out.lt; have h2 := hb3.size; show w.heap.size < wr.heap.size; omega)).trans hk
      refine wpAny_ready (rs := [3]) (by kernel_rfl) (by simp) ?_
      refine AllReady.cons rfl (fun K hK => ?_) AllReady.nil
      go_simp
      refine hK _ _ ?_; clear hK K
      all_goals
        have hb9' : Below wr.heap.size wr w9 := ⟨hb9.os, hb9.tape, hb9.output, hb9.size, hb9.block⟩
        refine wpAny_take (i := 6) (v := ?_) rfl (by kernel_rfl) (by kernel_rfl) (by kernel_rfl) (fun _ _ _ h => h) (Or.inl ⟨by rfl, ?_⟩) ?_
        rotate_left
        · intro w; go_simp; with_reducible rfl
        simp only [Act.put, List.getElem_toArray, List.getElem_cons_zero, List.getElem_cons_succ, List.setIfInBounds_toArray, List.set_cons_zero, List.set_cons_succ]
        refine wpAny_done (by kernel_rfl) ?_ _
        clear hx hk
        go_wp2_with fail
        go_roundw
        case rel => exact ⟨i + 1, by omega, by go_num, hb3.trans (hb9'.mono hb3.size)⟩
        case measure => simp [intOf]; omega
    · go_wp2_with fail
      go_ret
      exact ⟨rfl, hbel.trans (hb3.mono hbel.size)⟩
end Go.Proofs.YteohhebpfdclhaaDoor
