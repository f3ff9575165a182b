/- closure's five calls. -/
import Derived.Test.YtlodalppnglclaaDoorMCl6
import Derived.Test.YtlodalppnglclaaDoorMOct14s
namespace Go.Proofs.YtlodalppnglclaaDoor
open Go Go.RowKit
/-- what the walk has left -/
structure Nds (objs roots : List (List Nat)) (w : World) (ma : Nat) (ns : List Cl.Nd) : Prop where
  mp : MapO w ma ns.length (fun id => (Cl.at_ ns id).map (Cl.ndV objs))
  lk : ∀ p ∈ ns, ∃ B, w.ownsRow B 37 32 p.val (Cl.lks objs p.id).length (cellsP (Cl.lks objs p.id))
  ids : ∀ p ∈ ns, Id32 p.id
  rch : ∀ x, x ∈ ns.map (·.id) ↔ Cl.Rch objs roots x
  few : ns.length ≤ 1000
theorem Nds.below {objs roots : List (List Nat)} {w w' : World} {ma : Nat} {ns : List Cl.Nd} (h : Nds objs roots w ma ns) (hb : Below w.heap.size w w') : Nds objs roots w' ma ns :=
  ⟨h.mp.below hb, fun p hp => by obtain ⟨B, hB⟩ := h.lk p hp; exact ⟨B, own_below hB hb⟩, h.ids, h.rch, h.few⟩
theorem Nds.val {objs roots : List (List Nat)} {w : World} {ma : Nat} {ns : List Cl.Nd} (h : Nds objs roots w ma ns) {x : List Nat} {v : Value} (hv : (Cl.at_ ns x).map (Cl.ndV objs) = some v) : ∃ A c, v = .agg (ndC (Cl.the objs x) (Cl.knd objs x) (.slice A (Cl.lks objs x).length c)) ∧ RdK w (.slice A (Cl.lks objs x).length c) (Cl.lks objs x).length (cellsP (Cl.lks objs x)) ∧ Cl.Rch objs roots x := by
  obtain ⟨p, hp, rfl⟩ := Option.map_eq_some_iff.1 hv
  obtain ⟨h1, h2⟩ := Cl.at_mem hp
  obtain ⟨B, hB⟩ := h.lk p h1
  obtain ⟨A, c, hpv⟩ := cl_own_slice hB
  subst h2
  refine ⟨A, c, by unfold Cl.ndV; rw [hpv], by rw [← hpv]; exact rdk_own hB, (h.rch _).1 (List.mem_map.2 ⟨p, h1, rfl⟩)⟩
theorem Nds.isSome {objs roots : List (List Nat)} {w : World} {ma : Nat} {ns : List Cl.Nd} (h : Nds objs roots w ma ns) (x : List Nat) : ((Cl.at_ ns x).map (Cl.ndV objs)).isSome = true ↔ Cl.Rch objs roots x := by
  rw [Option.isSome_map, Cl.at_iff]
  exact h.rch x
/-- a rising row of those ids of which Q says so -/
def SetPost (Q : List Nat → Prop) (w : World) (e : Ending) (w' : World) : Prop :=
  ∃ v r, e = .returned v ∧ RdO w' v r ∧ (∀ x ∈ r, Id32 x) ∧ Sha.Rising r ∧ (∀ x, Id32 x → (x ∈ r ↔ Q x)) ∧ Below w.heap.size w w'
theorem SetPost.of {f : List Nat → Option Value} {P : List Nat → Bool} {Q : List Nat → Prop} {w0 w w' : World} {e : Ending} (h : PickPost f P w e w') (hq : ∀ x, Id32 x → (((f x).isSome = true ∧ P x = true) ↔ Q x)) (hb : Below w0.heap.size w0 w) : SetPost Q w0 e w' := by
  obtain ⟨v, r, h1, h2, h3, h4, h5, h6⟩ := h
  exact ⟨v, r, h1, h2, h3, h4, fun x hx => by rw [h5 x hx]; exact hq x hx, below_next hb h6⟩
theorem rch1_any (x : List Nat) (tb : Bool) (kb : Int) (A : Option Addr) (n c : Nat) (w : World) :
    Calls Tryd.prog 28 #[.agg (u8s x), .agg (ndC tb kb (.slice A n c))] w fun e w' => e = .returned (.bool tb) ∧ Below w.heap.size w w' := by
  have z1 : (w.alloc (.cells (u8s x) 37)).heap.size = w.heap.size + 1 := by simp
  have p0 : ((w.alloc (.cells (u8s x) 37)).alloc (.cells #[.bool tb, .int .i64 kb, .slice A n c] 68)).cell? ⟨w.heap.size + 1, 0, none⟩ = some (.bool tb) := by
    have h := Blk.new (w.alloc (.cells (u8s x) 37)) 68 #[.bool tb, .int .i64 kb, .slice A n c]
    rw [z1] at h
    exact h.cell 0
  have HB : Hid (Below w.heap.size w ((w.alloc (.cells (u8s x) 37)).alloc (.cells #[.bool tb, .int .i64 kb, .slice A n c] 68))) := Lib.hid (((Below.refl _ _).alloc (Nat.le_refl _) _).alloc (by rw [z1]; omega) _)
  unfold ndC
  clear z1
  go_enter Tryd.func28, Tryd.ntmps28
  go_wp2
  go_ret
  exact ⟨rfl, HB.out⟩
theorem mis1_any (x : List Nat) (tb : Bool) (kb : Int) (A : Option Addr) (n c : Nat) (w : World) :
    Calls Tryd.prog 42 #[.agg (u8s x), .agg (ndC tb kb (.slice A n c))] w fun e w' => e = .returned (.bool (!tb)) ∧ Below w.heap.size w w' := by
  have z1 : (w.alloc (.cells (u8s x) 37)).heap.size = w.heap.size + 1 := by simp
  have p0 : ((w.alloc (.cells (u8s x) 37)).alloc (.cells #[.bool tb, .int .i64 kb, .slice A n c] 68)).cell? ⟨w.heap.size + 1, 0, none⟩ = some (.bool tb) := by
    have h := Blk.new (w.alloc (.cells (u8s x) 37)) 68 #[.bool tb, .int .i64 kb, .slice A n c]
    rw [z1] at h
    exact h.cell 0
  have HB : Hid (Below w.heap.size w ((w.alloc (.cells (u8s x) 37)).alloc (.cells #[.bool tb, .int .i64 kb, .slice A n c] 68))) := Lib.hid (((Below.refl _ _).alloc (Nat.le_refl _) _).alloc (by rw [z1]; omega) _)
  unfold ndC
  clear z1
  go_enter Tryd.func42, Tryd.ntmps42
  go_wp2
  go_ret
  exact ⟨rfl, HB.out⟩
theorem kind3_links {objs : List (List Nat)} {x : List Nat} (h : Cl.knd objs x = 3) : 0 < (Cl.lks objs x).length := by
  unfold Cl.knd at h
  unfold Cl.lks
  cases ho : Cl.obAt objs x with
  | none => rw [ho] at h; cases h
  | some o =>
    rw [ho] at h
    simp only at h
    have ha : aimsB o.kind = true := by rw [h]; rfl
    show 0 < o.links.length
    unfold Ob.links
    rw [ha]
    simp
    omega
theorem cl_takes_mid {P : Program} {ops : Array Oper} {S : World → Prop} {o : Oper} {a : Act} (ty : TypeId) (x : Operand) (ho : o.op = .load ty x) (hw : Region.wanted o (yielded ops a.tmps) = true)
    (b off : Nat) (hx : a.eval x = .pointer (some ⟨b, off, none⟩)) (cs : List Value) (d : TypeDesc) (hc : ∀ w, S w → w.rangeAt b off cs)
    (hu : P.underlying ty = some d) (hd : d.isRow = true) (hi : (P.info? ty).map (·.size) = some cs.length) : YieldsIf P ops S o (.agg cs.toArray) a :=
  Or.inl ⟨hw, fun w h => by
    unfold execOp
    simp only [ho, hx, Sem.run_bind, Sem.run_pure, run_loadAt_mid w b off ty cs d (hc w h) hu hd hi, Result.andThen_ok]⟩
/-- has an object a wrong link? -/
noncomputable def Cl.wrg (objs : List (List Nat)) (x : List Nat) : Bool := decide (Cl.knd objs x = 3) && (Cl.the objs ((Cl.lks objs x).getD 0 []) && !decide (Cl.knd objs ((Cl.lks objs x).getD 0 []) = 2))
set_option maxRecDepth 100000 in
set_option maxHeartbeats 4000000 in
theorem wrg1_any {objs roots : List (List Nat)} {w : World} {ma bR : Nat} {ns : List Cl.Nd} (h : Nds objs roots w ma ns) (hR : Blk w bR 61 #[.map (some ma)]) (x : List Nat) (v : Value) (_hx : Id32 x) (hv : (Cl.at_ ns x).map (Cl.ndV objs) = some v) (hl : ∀ y ∈ Cl.lks objs x, Id32 y) :
    Calls Tryd.prog 43 #[.agg (u8s x), v, .pointer (some ⟨bR, 0, none⟩)] w fun e w' => e = .returned (.bool (Cl.wrg objs x)) ∧ Below w.heap.size w w' := by
  obtain ⟨A, c, rfl, hrk, hrch⟩ := h.val hv
  obtain ⟨w2, hw2⟩ : ∃ w2, w2 = (w.alloc (.cells (u8s x) 37)).alloc (.cells #[.bool (Cl.the objs x), .int .i64 (Cl.knd objs x), .slice A (Cl.lks objs x).length c] 68) := ⟨_, rfl⟩
  have z1 : (w.alloc (.cells (u8s x) 37)).heap.size = w.heap.size + 1 := by simp
  have b2 : Below w.heap.size w w2 := hw2 ▸ ((Below.refl _ _).alloc (Nat.le_refl _) _).alloc (by rw [z1]; omega) _
  have hN : Blk w2 (w.heap.size + 1) 68 #[.bool (Cl.the objs x), .int .i64 (Cl.knd objs x), .slice A (Cl.lks objs x).length c] := by
    rw [hw2]
    have h := Blk.new (w.alloc (.cells (u8s x) 37)) 68 #[.bool (Cl.the objs x), .int .i64 (Cl.knd objs x), .slice A (Cl.lks objs x).length c]
    rwa [z1] at h
  have p1 : w2.cell? ⟨w.heap.size + 1, 1, none⟩ = some (.int .i64 (Cl.knd objs x)) := hN.cell 1
  have p2 : w2.cell? ⟨w.heap.size + 1, 2, none⟩ = some (.slice A (Cl.lks objs x).length c) := hN.cell 2
  have pR : w2.cell? ⟨bR, 0, none⟩ = some (.map (some ma)) := (hR.below b2 hR.lt).cell 0
  have HB2 := Lib.hid b2
  have e2 := hw2.symm
  by_cases hk : Cl.knd objs x = 3
  · have hpos := kind3_links hk
    obtain ⟨A', c', hv', _, hA'⟩ := hrk.below b2 (Nat.le_refl _)
    injection hv' with f1 f2 f3
    obtain ⟨b, o, hAb, hbl, hxx⟩ := hA' hpos
    rw [← f1] at hAb
    subst hAb
    obtain ⟨y, hy⟩ : ∃ y, (Cl.lks objs x).getD 0 [] = y := ⟨_, rfl⟩
    have hym : y ∈ Cl.lks objs x := by rw [← hy, List.getD_eq_getElem?_getD, List.getElem?_eq_getElem hpos]; exact List.getElem_mem hpos
    have HIY := Lib.hid (hl y hym)
    have HRG : Hid (w2.drew.rangeAt b o (cellsB y)) := Lib.hid (fun j u hu => by
      have h1 := hxx (0 * 32 + j) u (cellsP_at hl hpos (by rw [hy]; exact hu))
      rw [Nat.zero_mul, Nat.zero_add] at h1
      exact h1)
    have hry : Cl.Rch objs roots y := Cl.Rch.link hrch hym
    obtain ⟨q, hq⟩ := Option.isSome_iff_exists.1 ((h.isSome y).2 hry)
    obtain ⟨A3, c3, rfl, _, _⟩ := h.val hq
    have q6' : ∀ w', Below w2.drew.heap.size w2.drew w' → (Instr.lookup 61 (.map (some ma)) (.agg (cellsB y).toArray) false).run Tryd.prog w' = .ok (.agg (ndC (Cl.the objs y) (Cl.knd objs y) (.slice A3 (Cl.lks objs y).length c3))) w' := fun w' hw => by
      have h6 := ((h.mp.below (w' := w2.drew) (below_drewN b2 1)).below hw).look Tryd.underlying61 (nd_zero w') HIY.out
      rw [hq] at h6
      simp only [Option.getD_some] at h6
      exact h6
    have HW : Hid (Cl.wrg objs x = (Cl.the objs y && !decide (Cl.knd objs y = 2))) := Lib.hid (by unfold Cl.wrg; rw [hy, hk]; simp)
    have CW : ∀ w, Calls Tryd.prog 44 #[.int .i64 3] w fun e w' => e = .returned (.int .i64 2) ∧ w = w' := fun w => wanted_any 3 w
    rw [hk] at p1 hw2 e2 hN ⊢
    have g0 : (0 : Int) < ((Cl.lks objs x).length : Int) := by omega
    have g0n : 0 < (Cl.lks objs x).length := hpos
    generalize Cl.the objs y = tb at q6' HW
    generalize hkb : Cl.knd objs y = kb at q6' HW
    generalize (Cl.lks objs y).length = ny at q6'
    have HLR : Hid (bR < w2.drew.heap.size) := Lib.hid (Nat.lt_of_lt_of_le hR.lt b2.size)
    have HLN : Hid (w.heap.size + 1 < w2.drew.heap.size) := Lib.hid hN.lt
    have HLB : Hid (b < w2.drew.heap.size) := Lib.hid hbl
    generalize (Cl.lks objs x).length = nx at p2 e2 g0 g0n ⊢
    generalize Cl.the objs x = tx at e2 ⊢
    unfold ndC
    clear h hR hv hl hrk hrch hw2 z1 b2 hN hpos hA' f1 f2 f3 hxx hbl hy hym hry hq hkb hk
    have HQ6 := Lib.hid q6'
    clear q6'
    have HT : Hid (∀ z : Bool, (if tb then (.bool z : Value) else .bool false) = .bool (tb && z)) := Lib.hid (fun z => by cases tb <;> rfl)
    go_enter Tryd.func43, Tryd.ntmps43
    go_wp2_with (go_at_call 44; refine pause ?_)
    unfold Paused
    refine (CW _).mono ?_
    rintro e w5 ⟨rfl, rfl⟩
    go_wp2_with fail
    try rw [e2]
    have HSX : Hid (Below w2.drew.heap.size w2.drew w2.drew) := Lib.hid (Below.refl _ _)
    refine wp_region_upto (S := fun w' => Below w2.drew.heap.size w2.drew w') (b := 7) (by kernel_rfl) ?_
    change Upto _ _ _ _ _ _ _ _ _ w2.drew
    refine Upto.take (i := 0) (v := ?_) rfl (by kernel_rfl) (by kernel_rfl) (by kernel_rfl) (by kernel_rfl) (fun _ _ _ h => h) (Or.inl ⟨by rfl, ?_⟩) HSX.out ?_
    rotate_left
    · intro w' hS; have h0 : w'.cell? ⟨bR, 0, none⟩ = some (.map (some ma)) := (hS.cell (p := ⟨bR, 0, none⟩) HLR.out).trans pR; go_simp; with_reducible rfl
    try simp only [Act.put, List.getElem_toArray, List.getElem_cons_zero, List.setIfInBounds_toArray, List.set_cons_zero, List.set_cons_succ]
    refine Upto.takeY (i := 1) (v := ?_) rfl (by kernel_rfl) (by kernel_rfl) (by kernel_rfl) (by kernel_rfl) (fun _ _ _ h => h) (Or.inl ⟨by rfl, ?_⟩) (fun _ => HSX.out) ?_
    rotate_left
    · intro w' _; go_simp; with_reducible rfl
    try simp only [Act.put, List.getElem_toArray, List.getElem_cons_zero, List.getElem_cons_succ, List.setIfInBounds_toArray, List.set_cons_zero, List.set_cons_succ]
    refine Upto.take (i := 2) (v := ?_) rfl (by kernel_rfl) (by kernel_rfl) (by kernel_rfl) (by kernel_rfl) (fun _ _ _ h => h) (Or.inl ⟨by rfl, ?_⟩) HSX.out ?_
    rotate_left
    · intro w' hS; have h0 : w'.cell? ⟨w.heap.size + 1, 2, none⟩ = some (.slice (some ⟨b, o, none⟩) nx c) := (hS.cell (p := ⟨w.heap.size + 1, 2, none⟩) HLN.out).trans p2; go_simp; with_reducible rfl
    try simp only [Act.put, List.getElem_toArray, List.getElem_cons_zero, List.getElem_cons_succ, List.setIfInBounds_toArray, List.set_cons_zero, List.set_cons_succ]
    refine Upto.takeY (i := 3) (v := ?_) rfl (by kernel_rfl) (by kernel_rfl) (by kernel_rfl) (by kernel_rfl) (fun _ _ _ h => h) (Or.inl ⟨by rfl, ?_⟩) (fun _ => HSX.out) ?_
    rotate_left
    · intro w' _; go_simp; with_reducible rfl
    try simp only [Act.put, List.getElem_toArray, List.getElem_cons_zero, List.getElem_cons_succ, List.setIfInBounds_toArray, List.set_cons_zero, List.set_cons_succ]
    refine Upto.take (i := 4) (v := .agg (cellsB y).toArray) rfl (by kernel_rfl) (by kernel_rfl) (by kernel_rfl) (by kernel_rfl) (fun _ _ _ h => h) (cl_takes_mid 37 (.tmp 16) rfl (by rfl) b o rfl (cellsB y) _ (fun w' hS j u hu => (hS.cell (p := ⟨b, o + j, none⟩) HLB.out).trans (HRG.out j u hu)) Tryd.underlying37 (by rfl) (by rw [cellsP1_len HIY.out]; exact cl_oid_load)) HSX.out ?_
    try simp only [Act.put, List.getElem_toArray, List.getElem_cons_zero, List.getElem_cons_succ, List.setIfInBounds_toArray, List.set_cons_zero, List.set_cons_succ]
    refine Upto.take (i := 5) (v := ?_) rfl (by kernel_rfl) (by kernel_rfl) (by kernel_rfl) (by kernel_rfl) (fun _ _ _ h => h) (Or.inl ⟨by rfl, ?_⟩) HSX.out ?_
    rotate_left
    · intro w' hS; have h0 := HQ6.out w' hS; go_simp; with_reducible rfl
    try simp only [Act.put, List.getElem_toArray, List.getElem_cons_zero, List.getElem_cons_succ, List.setIfInBounds_toArray, List.set_cons_zero, List.set_cons_succ]
    refine Upto.one (i := 6) (by kernel_rfl) rfl (by rfl) (fun K hK => ?_)
    go_simp
    refine hK _ _ (fun _ _ => (Below.refl _ _).alloc (Nat.le_refl _) _) ?_
    try simp only [Act.put, List.getElem_toArray, List.getElem_cons_zero, List.getElem_cons_succ, List.setIfInBounds_toArray, List.set_cons_zero, List.set_cons_succ]
    refine Upto.one (i := 7) (by kernel_rfl) rfl (by rfl) (fun K hK => ?_)
    refine wp_store_row 68 (.tmp 7) (.tmp 18) (by rfl) w2.heap.size (ndC tb kb (.slice A3 ny c3)) (by rfl) (by rfl) 68 #[.bool false, .int .i64 0, .slice none 0 0] (Blk.new w2 _ _).drew (by exact nd_size) (by rfl) (nd_one _ _ _ _ _) ?_
    refine hK _ _ (fun h => absurd rfl h) ?_
    have HB5 : Hid (Below w.heap.size w ((w2.alloc (.cells #[.bool false, .int .i64 0, .slice none 0 0] 68)).drew.setRow w2.heap.size (ndC tb kb (.slice A3 ny c3)))) := Lib.hid (below_row (below_drewN (HB2.out.alloc HB2.out.size _) 1) HB2.out.size _)
    have hX5 : Blk ((w2.alloc (.cells #[.bool false, .int .i64 0, .slice none 0 0] 68)).drew.setRow w2.heap.size (ndC tb kb (.slice A3 ny c3))) w2.heap.size 68 (ndC tb kb (.slice A3 ny c3)) := (Blk.new w2 _ _).drew.row _
    clear p1 p2 pR e2
    generalize (w2.alloc (.cells #[.bool false, .int .i64 0, .slice none 0 0] 68)).drew.setRow w2.heap.size (ndC tb kb (.slice A3 ny c3)) = w5 at HB5 hX5 ⊢
    generalize w2.heap.size = g5 at hX5 ⊢
    try simp only [Act.put, List.getElem_toArray, List.getElem_cons_zero, List.getElem_cons_succ]
    refine Upto.done (by kernel_rfl) ?_ _
    have s0 : w5.cell? ⟨g5, 0, none⟩ = some (.bool tb) := hX5.cell 0
    have s1 : w5.cell? ⟨g5, 1, none⟩ = some (.int .i64 kb) := hX5.cell 1
    try simp only [Act.put]
    cases tb with
    | false =>
      go_wp2
      go_ret
      exact ⟨by rw [HW.out]; rfl, HB5.out⟩
    | true =>
      by_cases hkb : kb = 2
      · subst hkb
        go_wp2
        go_ret
        exact ⟨by rw [HW.out]; rfl, HB5.out⟩
      · have g7 : (kb == 2) = false := by simp; exact hkb
        have g8 : (kb != 2) = true := by simp; exact hkb
        have HKB := Lib.hid hkb
        clear hkb
        go_wp2
        go_ret
        exact ⟨by rw [HW.out, decide_eq_false HKB.out]; rfl, HB5.out⟩
  · have HW : Hid (Cl.wrg objs x = false) := Lib.hid (by unfold Cl.wrg; simp [hk])
    have CW : ∀ w, Calls Tryd.prog 44 #[.int .i64 (Cl.knd objs x)] w fun e w' => e = .returned (.int .i64 0) ∧ w = w' := fun w => by have h := wanted_any (Cl.knd objs x) w; rwa [if_neg hk] at h
    generalize (Cl.lks objs x).length = nx at p2 e2 ⊢
    generalize Cl.the objs x = tx at e2 ⊢
    generalize Cl.knd objs x = kx at e2 p1 CW ⊢
    unfold ndC
    clear h hR hv hl hrk hrch hw2 z1 b2 hN hk
    go_enter Tryd.func43, Tryd.ntmps43
    go_wp2_with (go_at_call 44; refine pause ?_)
    unfold Paused
    refine (CW _).mono ?_
    rintro e w5 ⟨rfl, rfl⟩
    go_wp2
    go_ret
    exact ⟨by rw [HW.out]; rfl, HB2.out⟩
end Go.Proofs.YtlodalppnglclaaDoor
