/- The document's own disk is made (New). -/
import Derived.Test.YtpmadlkkldbceaaDoorRef45
import Derived.Orders
import Derived.RegionTactic
namespace Go.Proofs.YtpmadlkkldbceaaDoor
open Go Go.RowKit
theorem refnew_none (n : Int) (w : World) (hn : n < 2 ∨ 4096 < n) :
    Calls Tryd.prog 8 #[.int .i64 n] w fun e w' => e = .returned (.pointer none) ∧ w = w' := by
  by_cases h2 : n < 2
  · clear hn
    go_enter Tryd.func8, Tryd.ntmps8
    go_wp2
    go_ret
    exact ⟨rfl, rfl⟩
  · have h4 : 4096 < n := by omega
    clear hn
    go_enter Tryd.func8, Tryd.ntmps8
    go_wp2
    go_ret
    exact ⟨rfl, rfl⟩
def z32 : Array Value := u8s (List.replicate 32 0)
/-- a disk under way: k sectors are there -/
def NInv (w wr : World) (r k : Nat) : Prop := (∃ vS us, RefAt w.heap.size wr.heap.size wr r (fresh k) vS (.slice none 0 0) (.slice none 0 0) us []) ∧ Below w.heap.size w wr
theorem nstep {w wr : World} {r k cS : Nat} {AS : Option Addr} {us : List Value} (hR : RefAt w.heap.size wr.heap.size wr r (fresh k) (.slice AS k cS) (.slice none 0 0) (.slice none 0 0) us []) (hB : Below w.heap.size w wr) (hk : k + 1 ≤ 4096) (A1 : Option Addr) (cc1 : Nat) (w' : World)
    (ho : w'.ownsRow w.heap.size 32 1 (.slice A1 (k + 1) cc1) (k + 1) (us ++ [(.slice (some ⟨wr.heap.size, 0, none⟩) 32 32)])) (hg : ((wr.drew.alloc (.cells z32 5)).alloc (.cells #[(.slice (some ⟨wr.heap.size, 0, none⟩) 32 32)] 32)).grownBy w' (Value.slice AS k cS).ownBlock) : NInv w (w'.setCell ⟨r, 0, none⟩ (.slice A1 (k + 1) cc1)) r (k + 1) := by
  have gB : wr.grownBy ((wr.drew.alloc (.cells z32 5)).alloc (.cells #[(.slice (some ⟨wr.heap.size, 0, none⟩) 32 32)] 32)) none := only_alloc (only_alloc (only_drew (World.grownBy.refl wr none)) _) _
  have hrow := (hR.rowS.drew.alloc (.cells (z32) 5)).alloc (.cells #[(.slice (some ⟨wr.heap.size, 0, none⟩) 32 32)] 32)
  have tS : ∀ g, (Value.slice AS k cS).ownBlock = some g → ∃ c, ((wr.drew.alloc (.cells z32 5)).alloc (.cells #[(.slice (some ⟨wr.heap.size, 0, none⟩) 32 32)] 32)).heap[g]? = some (.cells c 32 (0, 0)) := fun g e => own_row hrow e
  have hb1 : Blk ((wr.drew.alloc (.cells z32 5)).alloc (.cells #[(.slice (some ⟨wr.heap.size, 0, none⟩) 32 32)] 32)) r 61 _ := hR.blk.grown gB (by simp)
  have hb2 : Blk w' r 61 _ := hb1.grown hg (fun e => by obtain ⟨c, hc⟩ := tS r e.symm; exact own_ne hc hb1 (by decide) rfl)
  have g9 : w'.grownBy (w'.setCell ⟨r, 0, none⟩ (.slice A1 (k + 1) cc1)) (some r) := set_own 0 _
  have hsec : ∀ u bs, Sec w.heap.size ((wr.drew.alloc (.cells z32 5)).alloc (.cells #[(.slice (some ⟨wr.heap.size, 0, none⟩) 32 32)] 32)) u bs → Sec w.heap.size (w'.setCell ⟨r, 0, none⟩ (.slice A1 (k + 1) cc1)) u bs := fun u bs hs =>
    (hs.kept hg (fun g cs e => by obtain ⟨c, hc⟩ := tS g e; exact no_u8 hc (by decide) cs)).kept g9 (fun g cs e => by injection e with e; subst e; exact no_u8 hb2 (by decide) cs)
  have hlen : us.length = k := by have := hR.rowS.1; simpa [fresh] using this
  have hBB : Below w.heap.size w ((wr.drew.alloc (.cells z32 5)).alloc (.cells #[(.slice (some ⟨wr.heap.size, 0, none⟩) 32 32)] 32)) := ((below_drewN hB 1).alloc hB.size _).alloc (by have := hB.size; simp [World.drewN]; omega) _
  have hBw : Below w.heap.size w w' := below_own hBB hrow (Nat.le_refl _) hg
  refine ⟨⟨.slice A1 (k + 1) cc1, us ++ [(.slice (some ⟨wr.heap.size, 0, none⟩) 32 32)], ⟨hb2.set_ 0 _, ownR_kept ho g9 (fun g e => by injection e with e; subst e; exact ty_ne hb2 ho (by decide)), fun i hi => ?_, ⟨rfl, Or.inl ⟨rfl, rfl⟩⟩, ⟨rfl, Or.inl ⟨rfl, rfl⟩⟩, fun k p hp => by simp [fresh] at hp, fun g e => ?_, ⟨by have := hBw.size; simpa using this, Nat.le_refl _⟩, hR.bd, fresh_ok hk⟩⟩, below_of_only hBw g9 hR.bd⟩
  · by_cases he : i < k
    · obtain ⟨u, k1, k2⟩ := hR.secS i he
      exact ⟨u, by rw [List.getElem?_append_left (by omega)]; exact k1, hsec _ _ (k2.kept gB (fun g cs e => by cases e))⟩
    · have hik : i = k := by have : i < k + 1 := hi; omega
      subst hik
      refine ⟨(.slice (some ⟨wr.heap.size, 0, none⟩) 32 32), by rw [List.getElem?_append_right (by omega), hlen, Nat.sub_self]; rfl, hsec _ _ ⟨wr.heap.size, rfl, hB.size, ?_, by simp [fresh]⟩⟩
      exact (Blk.new wr.drew 5 (z32)).alloc _
  · have := (ho.lt g e).2
    simpa using this
set_option maxRecDepth 100000 in
set_option maxHeartbeats 2000000 in
theorem refnew_any (n : Nat) (w : World) (h2 : 2 ≤ n) (h4 : n ≤ 4096) :
    Calls Tryd.prog 8 #[.int .i64 (n : Int)] w fun e w' => ∃ r vS us BB, e = .returned (.pointer (some ⟨r, 0, none⟩)) ∧ RefAt w.heap.size BB w' r (fresh n) vS (.slice none 0 0) (.slice none 0 0) us [] ∧ Below w.heap.size w w' := by
  have i1 : ¬ (n : Int) < 2 := by omega
  have i2 : ¬ (4096 : Int) < (n : Int) := by omega
  go_enter Tryd.func8, Tryd.ntmps8
  go_wp2
  have H0 : Hid (NInv w (w.alloc (.cells #[.slice none 0 0, .slice none 0 0, .slice none 0 0, .int .i64 (-1), .bool false, .int .i64 0] 61)) w.heap.size 0) := Lib.hid ⟨⟨.slice none 0 0, [], ⟨Blk.new w _ _, ⟨rfl, Or.inl ⟨rfl, rfl⟩⟩, fun i hi => absurd hi (Nat.not_lt_zero i), ⟨rfl, Or.inl ⟨rfl, rfl⟩⟩, ⟨rfl, Or.inl ⟨rfl, rfl⟩⟩, fun k p hp => by simp [fresh] at hp, fun g e => by simp [Value.ownBlock] at e, ⟨by simp, Nat.le_refl _⟩, Nat.le_refl _, fresh_ok (by omega)⟩⟩, (Below.refl _ _).alloc (Nat.le_refl _) _⟩
  obtain ⟨r, hr⟩ : ∃ r, r = w.heap.size := ⟨_, rfl⟩
  have HRR := Lib.hid hr
  rw [← hr] at H0 ⊢
  clear hr
  go_loopw [4] (fun j wr => ∃ k : Nat, k ≤ n ∧ j = .int .i64 k ∧ Hid (NInv w wr r k)) (fun j _ => n - (intOf j).toNat)
  case atStart => exact ⟨0, Nat.zero_le _, rfl, H0⟩
  case round =>
    obtain ⟨k, hk, rfl, HK⟩ := hrel
    obtain ⟨⟨vS, us, hR⟩, hB⟩ := HK.out
    by_cases hlt : k < n
    · obtain ⟨AS, cS, eS⟩ := row_slice hR.rowS
      have eS' : vS = .slice AS k cS := eS
      subst eS'
      have i3 : ((k : Nat) : Int) < n := by omega
      have hbk := hR.blk
      have p0 : wr.cell? ⟨r, 0, none⟩ = some (.slice AS k cS) := hbk.cell 0
      have p1 : (wr.alloc (.cells z32 5)).cell? ⟨r, 0, none⟩ = some (.slice AS k cS) := (hbk.alloc _).cell 0
      have p2 : ((wr.alloc (.cells z32 5)).alloc (.cells #[(.slice (some ⟨wr.heap.size, 0, none⟩) 32 32)] 32)).cell? ⟨r, 0, none⟩ = some (.slice AS k cS) := ((hbk.alloc _).alloc _).cell 0
      have hmk : (Instr.makeSlice 32 (.int .i64 32) (.int .i64 32)).run Tryd.prog wr.drew = .ok (.slice (some ⟨wr.heap.size, 0, none⟩) 32 32) (wr.drew.alloc (.cells z32 5)) := run_makeOne Tryd.underlying32 byte_info rfl 32 (by omega) (by omega) rfl wr.drew
      obtain ⟨i1', hi1, hiz1, his1, hib1⟩ := info_parts bsl_info
      have HRB : Hid (((wr.drew.alloc (.cells z32 5)).alloc (.cells #[(.slice (some ⟨wr.heap.size, 0, none⟩) 32 32)] 32)).ownsRow w.heap.size 32 1 (.slice AS k cS) k us) := Lib.hid ((hR.rowS.drew.alloc _).alloc _)
      have HC1 : Hid (∀ j v, ([(.slice (some ⟨wr.heap.size, 0, none⟩) 32 32)] : List Value)[j]? = some v → ((wr.drew.alloc (.cells z32 5)).alloc (.cells #[(.slice (some ⟨wr.heap.size, 0, none⟩) 32 32)] 32)).cell? ((⟨wr.heap.size + 1, 0, none⟩ : Addr).add j) = some v) := Lib.hid (by
        have := cell_one (Blk.new (wr.drew.alloc (.cells z32 5)) 32 #[(.slice (some ⟨wr.heap.size, 0, none⟩) 32 32)])
        simpa using this)
      have HF : Hid (k + 1 ≤ maxLen ∧ (k + 1) * 24 ≤ 140737488355328) := Lib.hid ⟨by unfold maxLen; omega, by omega⟩
      have HBB : Hid (w.heap.size ≤ ((wr.drew.alloc (.cells z32 5)).alloc (.cells #[(.slice (some ⟨wr.heap.size, 0, none⟩) 32 32)] 32)).heap.size) := Lib.hid (by have := hB.size; simp; omega)
      have tS : ∀ g, (Value.slice AS k cS).ownBlock = some g → ∃ c, ((wr.drew.alloc (.cells z32 5)).alloc (.cells #[(.slice (some ⟨wr.heap.size, 0, none⟩) 32 32)] 32)).heap[g]? = some (.cells c 32 (0, 0)) := fun g e => own_row HRB.out e
      have HNS : Hid (∀ w', ((wr.drew.alloc (.cells z32 5)).alloc (.cells #[(.slice (some ⟨wr.heap.size, 0, none⟩) 32 32)] 32)).grownBy w' (Value.slice AS k cS).ownBlock → Blk w' r 61 _) := Lib.hid fun w' hg => ((hbk.drew.alloc (.cells (z32) 5)).alloc (.cells #[(.slice (some ⟨wr.heap.size, 0, none⟩) 32 32)] 32)).grown hg (fun e => by obtain ⟨c, hc⟩ := tS r e.symm; exact own_ne hc ((hbk.drew.alloc _).alloc _) (by decide) rfl)
      have HST : Hid (∀ (A1 : Option Addr) (cc1 : Nat) (w' : World), w'.ownsRow w.heap.size 32 1 (.slice A1 (k + 1) cc1) (k + 1) (us ++ [(.slice (some ⟨wr.heap.size, 0, none⟩) 32 32)]) → ((wr.drew.alloc (.cells z32 5)).alloc (.cells #[(.slice (some ⟨wr.heap.size, 0, none⟩) 32 32)] 32)).grownBy w' (Value.slice AS k cS).ownBlock → NInv w (w'.setCell ⟨r, 0, none⟩ (.slice A1 (k + 1) cc1)) r (k + 1)) := Lib.hid (nstep hR hB (by omega))
      clear hbk hR hB HK tS
      go_wp2
      refine wp_region_any (by kernel_rfl) ?_
      change wpAny _ _ _ _ _ _ _ wr.drew
      refine wpAny_take (i := 0) (v := ?_) rfl (by kernel_rfl) (by kernel_rfl) (by kernel_rfl) (fun _ _ _ h => h) (Or.inl ⟨by rfl, ?_⟩) ?_
      rotate_left
      · intro w; go_simp; with_reducible rfl
      refine wpAny_take (i := 1) (v := ?_) rfl (by kernel_rfl) (by kernel_rfl) (by kernel_rfl) (fun _ _ _ h => h) (Or.inl ⟨by rfl, ?_⟩) ?_
      rotate_left
      · intro w; go_simp; with_reducible rfl
      refine wpAny_take (i := 2) (v := ?_) rfl (by kernel_rfl) (by kernel_rfl) (by kernel_rfl) (fun _ _ _ h => h) (Or.inl ⟨by rfl, ?_⟩) ?_
      rotate_left
      · intro w; go_simp; with_reducible rfl
      refine wpAny_take (i := 3) (v := ?_) rfl (by kernel_rfl) (by kernel_rfl) (by kernel_rfl) (fun _ _ _ h => h) (Or.inl ⟨by rfl, ?_⟩) ?_
      rotate_left
      · intro w; go_simp; with_reducible rfl
      try simp only [Act.put, List.getElem_toArray, List.getElem_cons_zero, List.getElem_cons_succ, List.setIfInBounds_toArray, List.set_cons_zero, List.set_cons_succ]
      refine wpAny_ready (rs := [4, 5]) (by kernel_rfl) (by simp) ?_
      refine AllReady.cons rfl (fun K hK => ?_) (AllReady.cons rfl (fun K hK => ?_) AllReady.nil)
      rotate_left
      go_simp
      refine hK _ _ ?_; clear hK K
      try simp only [Act.put, List.getElem_toArray, List.getElem_cons_zero, List.getElem_cons_succ, List.setIfInBounds_toArray, List.set_cons_zero, List.set_cons_succ]
      refine wpAny_ready (rs := [4, 6]) (by kernel_rfl) (by simp) ?_
      refine AllReady.cons rfl (fun K hK => ?_) (AllReady.cons rfl (fun K hK => ?_) AllReady.nil)
      rotate_left
      go_simp
      refine hK _ _ ?_; clear hK K
      try simp only [Act.put, List.getElem_toArray, List.getElem_cons_zero, List.getElem_cons_succ, List.setIfInBounds_toArray, List.set_cons_zero, List.set_cons_succ]
      refine wpAny_ready (rs := [4]) (by kernel_rfl) (by simp) ?_
      refine AllReady.cons rfl (fun K hK => ?_) AllReady.nil
      go_simp
      refine hK _ _ ?_; clear hK K
      try simp only [Act.put, List.getElem_toArray, List.getElem_cons_zero, List.getElem_cons_succ, List.setIfInBounds_toArray, List.set_cons_zero, List.set_cons_succ]
      rotate_left
      go_simp
      refine hK _ _ ?_; clear hK K
      try simp only [Act.put, List.getElem_toArray, List.getElem_cons_zero, List.getElem_cons_succ, List.setIfInBounds_toArray, List.set_cons_zero, List.set_cons_succ]
      refine wpAny_ready (rs := [5]) (by kernel_rfl) (by simp) ?_
      refine AllReady.cons rfl (fun K hK => ?_) AllReady.nil
      go_simp
      refine hK _ _ ?_; clear hK K
      try simp only [Act.put, List.getElem_toArray, List.getElem_cons_zero, List.getElem_cons_succ, List.setIfInBounds_toArray, List.set_cons_zero, List.set_cons_succ]
      refine wpAny_ready (rs := [6]) (by kernel_rfl) (by simp) ?_
      refine AllReady.cons rfl (fun K hK => ?_) AllReady.nil
      go_simp
      refine hK _ _ ?_; clear hK K
      try simp only [Act.put, List.getElem_toArray, List.getElem_cons_zero, List.getElem_cons_succ, List.setIfInBounds_toArray, List.set_cons_zero, List.set_cons_succ]
      rotate_left
      go_simp
      refine hK _ _ ?_; clear hK K
      try simp only [Act.put, List.getElem_toArray, List.getElem_cons_zero, List.getElem_cons_succ, List.setIfInBounds_toArray, List.set_cons_zero, List.set_cons_succ]
      refine wpAny_ready (rs := [6]) (by kernel_rfl) (by simp) ?_
      refine AllReady.cons rfl (fun K hK => ?_) AllReady.nil
      go_simp
      refine hK _ _ ?_; clear hK K
      try simp only [Act.put, List.getElem_toArray, List.getElem_cons_zero, List.getElem_cons_succ, List.setIfInBounds_toArray, List.set_cons_zero, List.set_cons_succ]
      all_goals
        refine wpAny_ready (rs := [7]) (by kernel_rfl) (by simp) ?_
        refine AllReady.cons rfl (fun K hK => ?_) AllReady.nil
        rw [if_pos (by rfl)]
        refine wp_append_own (w := ((wr.drew.alloc (.cells z32 5)).alloc (.cells #[(.slice (some ⟨wr.heap.size, 0, none⟩) 32 32)] 32))) (.tmp 22) (.tmp 24) 58 rfl w.heap.size 32 i1' _ 1 24 Tryd.underlying58 hi1 hiz1 his1 hib1 rfl (by decide) (.slice AS k cS) k us rfl HRB.out ⟨wr.heap.size + 1, 0, none⟩ 1 1 [(.slice (some ⟨wr.heap.size, 0, none⟩) 32 32)] rfl rfl HC1.out (by simp [Value.oneCell']) HF.out.1 HF.out.2 HBB.out ?_
        intro v' w' ho hg _
        obtain ⟨A1, cc1, rfl⟩ := row_slice ho
        have hb8 := HNS.out w' hg
        have HO := Lib.hid ho
        have HG := Lib.hid hg
        have HB8 := Lib.hid hb8
        have q7 : w'.cell? ⟨r, 0, none⟩ = some (.slice AS k cS) := hb8.cell 0
        have q8 : w'.frozen? ⟨r, 0, none⟩ = false := hb8.frozen 0
        clear ho hg hb8
        refine hK _ _ ?_; clear hK K
        try simp only [Act.put, List.getElem_toArray, List.getElem_cons_zero, List.getElem_cons_succ, List.setIfInBounds_toArray, List.set_cons_zero, List.set_cons_succ]
        refine wpAny_ready (rs := [8]) (by kernel_rfl) (by simp) ?_
        refine AllReady.cons rfl (fun K hK => ?_) AllReady.nil
        go_simp
        refine hK _ _ ?_; clear hK K
        try simp only [Act.put, List.getElem_toArray, List.getElem_cons_zero, List.getElem_cons_succ, List.setIfInBounds_toArray, List.set_cons_zero, List.set_cons_succ]
        refine wpAny_ready (rs := [9]) (by kernel_rfl) (by simp) ?_
        refine AllReady.cons rfl (fun K hK => ?_) AllReady.nil
        go_simp
        refine hK _ _ ?_; clear hK K
        try simp only [Act.put, List.getElem_toArray, List.getElem_cons_zero, List.getElem_cons_succ, List.setIfInBounds_toArray, List.set_cons_zero, List.set_cons_succ]
        refine wpAny_ready (rs := [10]) (by kernel_rfl) (by simp) ?_
        refine AllReady.cons rfl (fun K hK => ?_) AllReady.nil
        go_simp
        refine hK _ _ ?_; clear hK K
        try simp only [Act.put, List.getElem_toArray, List.getElem_cons_zero, List.getElem_cons_succ, List.setIfInBounds_toArray, List.set_cons_zero, List.set_cons_succ]
        refine wpAny_done (by kernel_rfl) ?_ _
        have HX := Lib.hid (HST.out _ _ _ HO.out HG.out)
        go_wp2
        exact ⟨⟨k + 1, by omega, by simp, HX⟩, by simp [intOf]; omega⟩
    · obtain rfl : k = n := by omega
      have i3 : ¬ ((k : Nat) : Int) < k := by omega
      have HR := Lib.hid hR
      have HB := Lib.hid hB
      clear hR hB HK
      go_wp2
      go_ret
      exact ⟨_, rfl, ⟨_, _, _, HR.out⟩, HB.out⟩
end Go.Proofs.YtpmadlkkldbceaaDoor
