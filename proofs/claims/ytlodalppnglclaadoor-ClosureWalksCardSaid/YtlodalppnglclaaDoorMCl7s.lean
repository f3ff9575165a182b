/- closure's five calls. -/
import Derived.Test.YtlodalppnglclaaDoorMCl6
import Derived.Test.YtlodalppnglclaaDoorMOct16s
namespace Go.Proofs.YtlodalppnglclaaDoor
open Go Go.RowKit
/-- what the walk has left -/
structure Nds (objs roots : List (List Nat)) (w : World) (ma : Nat) (ns : List Cl.Nd) : Prop where
  mp : MapO w ma ns.length (fun id => (Cl.at_ ns id).map (Cl.ndV objs))
  lk : ∀ p ∈ ns, ∃ B, w.ownsRow B 37 32 p.val (Cl.lks objs p.id).length (cellsP (Cl.lks objs p.id))
  ids : ∀ p ∈ ns, Id32 p.id
  rch : ∀ x, x ∈ ns.map (·.id) ↔ Cl.Rch objs roots x
  few : ns.length ≤ 1000
theorem Nds.below {objs roots : List (List Nat)} {w w' : World} {ma : Nat} {ns : List Cl.Nd} (h : Nds objs roots w ma ns) (hb : Below w.heap.size w w') : Nds objs roots w' ma ns :=
  ⟨h.mp.below hb, fun p hp => by obtain ⟨B, hB⟩ := h.lk p hp; exact ⟨B, own_below hB hb⟩, h.ids, h.rch, h.few⟩
theorem Nds.val {objs roots : List (List Nat)} {w : World} {ma : Nat} {ns : List Cl.Nd} (h : Nds objs roots w ma ns) {x : List Nat} {v : Value} (hv : (Cl.at_ ns x).map (Cl.ndV objs) = some v) : ∃ A c, v = .agg (ndC (Cl.the objs x) (Cl.knd objs x) (.slice A (Cl.lks objs x).length c)) ∧ RdK w (.slice A (Cl.lks objs x).length c) (Cl.lks objs x).length (cellsP (Cl.lks objs x)) ∧ Cl.Rch objs roots x := by
  obtain ⟨p, hp, rfl⟩ := Option.map_eq_some_iff.1 hv
  obtain ⟨h1, h2⟩ := Cl.at_mem hp
  obtain ⟨B, hB⟩ := h.lk p h1
  obtain ⟨A, c, hpv⟩ := cl_own_slice hB
  subst h2
  refine ⟨A, c, by unfold Cl.ndV; rw [hpv], by rw [← hpv]; exact rdk_own hB, (h.rch _).1 (List.mem_map.2 ⟨p, h1, rfl⟩)⟩
theorem Nds.isSome {objs roots : List (List Nat)} {w : World} {ma : Nat} {ns : List Cl.Nd} (h : Nds objs roots w ma ns) (x : List Nat) : ((Cl.at_ ns x).map (Cl.ndV objs)).isSome = true ↔ Cl.Rch objs roots x := by
  rw [Option.isSome_map, Cl.at_iff]
  exact h.rch x
/-- a rising row of those ids of which Q says so -/
def SetPost (Q : List Nat → Prop) (w : World) (e : Ending) (w' : World) : Prop :=
  ∃ v r, e = .returned v ∧ RdO w' v r ∧ (∀ x ∈ r, Id32 x) ∧ Sha.Rising r ∧ (∀ x, Id32 x → (x ∈ r ↔ Q x)) ∧ Below w.heap.size w w'
theorem SetPost.of {f : List Nat → Option Value} {P : List Nat → Bool} {Q : List Nat → Prop} {w0 w w' : World} {e : Ending} (h : PickPost f P w e w') (hq : ∀ x, Id32 x → (((f x).isSome = true ∧ P x = true) ↔ Q x)) (hb : Below w0.heap.size w0 w) : SetPost Q w0 e w' := by
  obtain ⟨v, r, h1, h2, h3, h4, h5, h6⟩ := h
  exact ⟨v, r, h1, h2, h3, h4, fun x hx => by rw [h5 x hx]; exact hq x hx, below_next hb h6⟩
theorem rch1_any (x : List Nat) (tb : Bool) (kb : Int) (A : Option Addr) (n c : Nat) (w : World) :
    Calls Tryd.prog 28 #[.agg (u8s x), .agg (ndC tb kb (.slice A n c))] w fun e w' => e = .returned (.bool tb) ∧ Below w.heap.size w w' := by
  have z1 : (w.alloc (.cells (u8s x) 37)).heap.size = w.heap.size + 1 := by simp
  have p0 : ((w.alloc (.cells (u8s x) 37)).alloc (.cells #[.bool tb, .int .i64 kb, .slice A n c] 68)).cell? ⟨w.heap.size + 1, 0, none⟩ = some (.bool tb) := by
    have h := Blk.new (w.alloc (.cells (u8s x) 37)) 68 #[.bool tb, .int .i64 kb, .slice A n c]
    rw [z1] at h
    exact h.cell 0
  have HB : Hid (Below w.heap.size w ((w.alloc (.cells (u8s x) 37)).alloc (.cells #[.bool tb, .int .i64 kb, .slice A n c] 68))) := Lib.hid (((Below.refl _ _).alloc (Nat.le_refl _) _).alloc (by rw [z1]; omega) _)
  unfold ndC
  clear z1
  go_enter Tryd.func28, Tryd.ntmps28
  go_wp2
  go_ret
  exact ⟨rfl, HB.out⟩
theorem mis1_any (x : List Nat) (tb : Bool) (kb : Int) (A : Option Addr) (n c : Nat) (w : World) :
    Calls Tryd.prog 42 #[.agg (u8s x), .agg (ndC tb kb (.slice A n c))] w fun e w' => e = .returned (.bool (!tb)) ∧ Below w.heap.size w w' := by
  have z1 : (w.alloc (.cells (u8s x) 37)).heap.size = w.heap.size + 1 := by simp
  have p0 : ((w.alloc (.cells (u8s x) 37)).alloc (.cells #[.bool tb, .int .i64 kb, .slice A n c] 68)).cell? ⟨w.heap.size + 1, 0, none⟩ = some (.bool tb) := by
    have h := Blk.new (w.alloc (.cells (u8s x) 37)) 68 #[.bool tb, .int .i64 kb, .slice A n c]
    rw [z1] at h
    exact h.cell 0
  have HB : Hid (Below w.heap.size w ((w.alloc (.cells (u8s x) 37)).alloc (.cells #[.bool tb, .int .i64 kb, .slice A n c] 68))) := Lib.hid (((Below.refl _ _).alloc (Nat.le_refl _) _).alloc (by rw [z1]; omega) _)
  unfold ndC
  clear z1
  go_enter Tryd.func42, Tryd.ntmps42
  go_wp2
  go_ret
  exact ⟨rfl, HB.out⟩
theorem kind3_links {objs : List (List Nat)} {x : List Nat} (h : Cl.knd objs x = 3) : 0 < (Cl.lks objs x).length := by
  unfold Cl.knd at h
  unfold Cl.lks
  cases ho : Cl.obAt objs x with
  | none => rw [ho] at h; cases h
  | some o =>
    rw [ho] at h
    simp only at h
    have ha : aimsB o.kind = true := by rw [h]; rfl
    show 0 < o.links.length
    unfold Ob.links
    rw [ha]
    simp
    omega
theorem cl_takes_mid {P : Program} {ops : Array Oper} {S : World → Prop} {o : Oper} {a : Act} (ty : TypeId) (x : Operand) (ho : o.op = .load ty x) (hw : Region.wanted o (yielded ops a.tmps) = true)
    (b off : Nat) (hx : a.eval x = .pointer (some ⟨b, off, none⟩)) (cs : List Value) (d : TypeDesc) (hc : ∀ w, S w → w.rangeAt b off cs)
    (hu : P.underlying ty = some d) (hd : d.isRow = true) (hi : (P.info? ty).map (·.size) = some cs.length) : YieldsIf P ops S o (.agg cs.toArray) a :=
  Or.inl ⟨hw, fun w h => by
    unfold execOp
    simp only [ho, hx, Sem.run_bind, Sem.run_pure, run_loadAt_mid w b off ty cs d (hc w h) hu hd hi, Result.andThen_ok]⟩
/-- has an object a wrong link? -/
noncomputable def Cl.wrg (objs : List (List Nat)) (x : List Nat) : Bool := decide (Cl.knd objs x = 3) && (Cl.the objs ((Cl.lks objs x).getD 0 []) && !decide (Cl.knd objs ((Cl.lks objs x).getD 0 []) = 2))
set_option maxRecDepth 100000 in
set_option maxHeartbeats 4000000 in
theorem wrg1_any {objs roots : List (List Nat)} {w : World} {ma bR : Nat} {ns : List Cl.Nd} (h : Nds objs roots w ma ns) (hR : Blk w bR 61 #[.map (some ma)]) (x : List Nat) (v : Value) (_hx : Id32 x) (hv : (Cl.at_ ns x).map (Cl.ndV objs) = some v) (hl : ∀ y ∈ Cl.lks objs x, Id32 y) :
    Calls Tryd.prog 43 #[.agg (u8s x), v, .pointer (some ⟨bR, 0, none⟩)] w fun e w' => e = .returned (.bool (Cl.wrg objs x)) ∧ Below w.heap.size w w' := by
  obtain ⟨A, c, rfl, hrk, hrch⟩ := h.val hv
  obtain ⟨w2, hw2⟩ : ∃ w2, w2 = (w.alloc (.cells (u8s x) 37)).alloc (.cells #[.bool (Cl.the objs x), .int .i64 (Cl.knd objs x), .slice A (Cl.lks objs x).length c] 68) := ⟨_, rfl⟩
  have z1 : (w.alloc (.cells (u8s x) 37)).heap.size = w.heap.size + 1 := by simp
  have b2 : Below w.heap.size w w2 := hw2 ▸ ((Below.refl _ _).alloc (Nat.le_refl _) _).alloc (by rw [z1]; omega) _
  have hN : Blk w2 (w.heap.size + 1) 68 #[.bool (Cl.the objs x), .int .i64 (Cl.knd objs x), .slice A (Cl.lks objs x).length c] := by
    rw [hw2]
    have h := Blk.new (w.alloc (.cells (u8s x) 37)) 68 #[.bool (Cl.the objs x), .int .i64 (Cl.knd objs x), .slice A (Cl.lks objs x).length c]
    rwa [z1] at h
  have p1 : w2.cell? ⟨w.heap.size + 1, 1, none⟩ = some (.int .i64 (Cl.knd objs x)) := hN.cell 1
  have p2 : w2.cell? ⟨w.heap.size + 1, 2, none⟩ = some (.slice A (Cl.lks objs x).length c) := hN.cell 2
  have pR : w2.cell? ⟨bR, 0, none⟩ = some (.map (some ma)) := (hR.below b2 hR.lt).cell 0
  have HB2 := Lib.hid b2
  have e2 := hw2.symm
  by_cases hk : Cl.knd objs x = 3
  · have hpos := kind3_links hk
    obtain ⟨A', c', hv', _, hA'⟩ := hrk.below b2 (Nat.le_refl _)
    injection hv' with f1 f2 f3
    obtain ⟨b, o, hAb, hbl, hxx⟩ := hA' hpos
    rw [← f1] at hAb
    subst hAb
    obtain ⟨y, hy⟩ : ∃ y, (Cl.lks objs x).getD 0 [] = y := ⟨_, rfl⟩
    have hym : y ∈ Cl.lks objs x := by rw [← hy, List.getD_eq_getElem?_getD, List.getElem?_eq_getElem hpos]; exact List.getElem_mem hpos
    have HIY := Lib.hid (hl y hym)
    have HRG : Hid (w2.drew.rangeAt b o (cellsB y)) := Lib.hid (fun j u hu => by
      have h1 := hxx (0 * 32 + j) u (cellsP_at hl hpos (by rw [hy]; exact hu))
      rw [Nat.zero_mul, Nat.zero_add] at h1
      exact h1)
    have hry : Cl.Rch objs roots y := Cl.Rch.link hrch hym
    obtain ⟨q, hq⟩ := Option.isSome_iff_exists.1 ((h.isSome y).2 hry)
    obtain ⟨A3, c3, rfl, _, _⟩ := h.val hq
    have q6' : ∀ w', Below w2.drew.heap.size w2.drew w' → (Instr.lookup 61 (.map (some ma)) (.agg (cellsB y).toArray) false).run Tryd.prog w' = .ok (.agg (ndC (Cl.the objs y) (Cl.knd objs y) (.slice A3 (Cl.lks objs y).length c3))) w' := fun w' hw => by
      have h6 := ((h.mp.below (w' := w2.drew) (below_drewN b2 1)).below hw).look Tryd.underlying61 (nd_zero w') HIY.out
      rw [hq] at h6
      simp only [Option.getD_some] at h6
      exact h6
    have HW : Hid (Cl.wrg objs x = (Cl.the objs y && !decide (Cl.knd objs y = 2))) := Lib.hid (by unfold Cl.wrg; rw [hy, hk]; simp)
    have CW : ∀ w, Calls Tryd.prog 44 #[.int .i64 3] w fun e w' => e = .returned (.int .i64 2) ∧ w = w' := fun w => wanted_any 3 w
    rw [hk] at p1 hw2 e2 hN ⊢
    have g0 : (0 : Int) < ((Cl.lks objs x).length : Int) := by omega
    have g0n : 0 < (Cl.lks objs x).length := hpos
    generalize Cl.the objs y = tb at q6' HW
    generalize hkb : Cl.knd objs y = kb at q6' HW
    generalize (Cl.lks objs y).length = ny at q6'
    have HLR : Hid (bR < w2.drew.heap.size) := Lib.hid (Nat.lt_of_lt_of_le hR.lt b2.size)
    have HLN : Hid (w.heap.size + 1 < w2.drew.heap.size) := Lib.hid hN.lt
    have HLB : Hid (b < w2.drew.heap.size) := Lib.hid hbl
    generalize (Cl.lks objs x).length = nx at p2 e2 g0 g0n ⊢
    generalize Cl.the objs x = tx at e2 ⊢
    unfold ndC
    clear h hR hv hl hrk hrch hw2 z1 b2 hN hpos hA' f1 f2 f3 hxx hbl hy hym hry hq hkb hk
    have HQ6 := Lib.hid q6'
    clear q6'
    have HT : Hid (∀ z : Bool, (if tb then (.bool z : Value) else .bool false) = .bool (tb && z)) := Lib.hid (fun z => by cases tb <;> rfl)
    go_enter Tryd.func43, Tryd.ntmps43
    go_wp2_with (go_at_call 44; refine pause ?_)
    unfold Paused
    refine (CW _).mono ?_
    rintro e w5 ⟨rfl, rfl⟩
    go_wp2_with fail
    try rw [e2]
    have HSX : Hid (Below w2.drew.heap.size w2.drew w2.drew) := Lib.hid (Below.refl _ _)
    refine wp_region_upto (S := fun w' => Below w2.drew.heap.size w2.drew w') (b := 7) (by kernel_rfl) ?_
    change Upto _ _ _ _ _ _ _ _ _ w2.drew
    refine Upto.take (i := 0) (v := ?_) rfl (by kernel_rfl) (by kernel_rfl) (by kernel_rfl) (by kernel_rfl) (fun _ _ _ h => h) (Or.inl ⟨by rfl, ?_⟩) HSX.out ?_
    rotate_left
    · intro w' hS; have h0 : w'.cell? ⟨bR, 0, none⟩ = some (.map (some ma)) := (hS.cell (p := ⟨bR, 0, none⟩) HLR.out).trans pR; go_simp; with_reducible rfl
    try simp only [Act.put, List.getElem_toArray, List.getElem_cons_zero, List.setIfInBounds_toArray, List.set_cons_zero, List.set_cons_succ]
    refine Upto.takeY (i := 1) (v := ?_) rfl (by kernel_rfl) (by kernel_rfl) (by kernel_rfl) (by kernel_rfl) (fun _ _ _ h => h) (Or.inl ⟨by rfl, ?_⟩) (fun _ => HSX.out) ?_
    rotate_left
    · intro w' _; go_simp; with_reducible rfl
    try simp only [Act.put, List.getElem_toArray, List.getElem_cons_zero, List.getElem_cons_succ, List.setIfInBounds_toArray, List.set_cons_zero, List.set_cons_succ]
    refine Upto.take (i := 2) (v := ?_) rfl (by kernel_rfl) (by kernel_rfl) (by kernel_rfl) (by kernel_rfl) (fun _ _ _ h => h) (Or.inl ⟨by rfl, ?_⟩) HSX.out ?_
    rotate_left
    · intro w' hS; have h0 : w'.cell? ⟨w.heap.size + 1, 2, none⟩ = some (.slice (some ⟨b, o, none⟩) nx c) := (hS.cell (p := ⟨w.heap.size + 1, 2, none⟩) HLN.out).trans p2; go_simp; with_reducible rfl
    try simp only [Act.put, List.getElem_toArray, List.getElem_cons_zero, List.getElem_cons_succ, List.setIfInBounds_toArray, List.set_cons_zero, List.set_cons_succ]
    refine Upto.takeY (i := 3) (v := ?_) rfl (by kernel_rfl) (by kernel_rfl) (by kernel_rfl) (by kernel_rfl) (fun _ _ _ h => h) (Or.inl ⟨by rfl, ?_⟩) (fun _ => HSX.out) ?_
    rotate_left
    · intro w' _; go_simp; with_reducible rfl
    try simp only [Act.put, List.getElem_toArray, List.getElem_cons_zero, List.getElem_cons_succ, List.setIfInBounds_toArray, List.set_cons_zero, List.set_cons_succ]
    refine Upto.take (i := 4) (v := .agg (cellsB y).toArray) rfl (by kernel_rfl) (by kernel_rfl) (by kernel_rfl) (by kernel_rfl) (fun _ _ _ h => h) (cl_takes_mid 37 (.tmp 16) rfl (by rfl) b o rfl (cellsB y) _ (fun w' hS j u hu => (hS.cell (p := ⟨b, o + j, none⟩) HLB.out).trans (HRG.out j u hu)) Tryd.underlying37 (by rfl) (by rw [cellsP1_len HIY.out]; exact cl_oid_load)) HSX.out ?_
    try simp only [Act.put, List.getElem_toArray, List.getElem_cons_zero, List.getElem_cons_succ, List.setIfInBounds_toArray, List.set_cons_zero, List.set_cons_succ]
    refine Upto.take (i := 5) (v := ?_) rfl (by kernel_rfl) (by kernel_rfl) (by kernel_rfl) (by kernel_rfl) (fun _ _ _ h => h) (Or.inl ⟨by rfl, ?_⟩) HSX.out ?_
    rotate_left
    · intro w' hS; have h0 := HQ6.out w' hS; go_simp; with_reducible rfl
    try simp only [Act.put, List.getElem_toArray, List.getElem_cons_zero, List.getElem_cons_succ, List.setIfInBounds_toArray, List.set_cons_zero, List.set_cons_succ]
    refine Upto.one (i := 6) (by kernel_rfl) rfl (by rfl) (fun K hK => ?_)
    go_simp
    refine hK _ _ (fun _ _ => (Below.refl _ _).alloc (Nat.le_refl _) _) ?_
    try simp only [Act.put, List.getElem_toArray, List.getElem_cons_zero, List.getElem_cons_succ, List.setIfInBounds_toArray, List.set_cons_zero, List.set_cons_succ]
    refine Upto.one (i := 7) (by kernel_rfl) rfl (by rfl) (fun K hK => ?_)
    refine wp_store_row 68 (.tmp 7) (.tmp 18) (by rfl) w2.heap.size (ndC tb kb (.slice A3 ny c3)) (by rfl) (by rfl) 68 #[.bool false, .int .i64 0, .slice none 0 0] (Blk.new w2 _ _).drew (by exact nd_size) (by rfl) (nd_one _ _ _ _ _) ?_
    refine hK _ _ (fun h => absurd rfl h) ?_
    have HB5 : Hid (Below w.heap.size w ((w2.alloc (.cells #[.bool false, .int .i64 0, .slice none 0 0] 68)).drew.setRow w2.heap.size (ndC tb kb (.slice A3 ny c3)))) := Lib.hid (below_row (below_drewN (HB2.out.alloc HB2.out.size _) 1) HB2.out.size _)
    have hX5 : Blk ((w2.alloc (.cells #[.bool false, .int .i64 0, .slice none 0 0] 68)).drew.setRow w2.heap.size (ndC tb kb (.slice A3 ny c3))) w2.heap.size 68 (ndC tb kb (.slice A3 ny c3)) := (Blk.new w2 _ _).drew.row _
    clear p1 p2 pR e2
    generalize (w2.alloc (.cells #[.bool false, .int .i64 0, .slice none 0 0] 68)).drew.setRow w2.heap.size (ndC tb kb (.slice A3 ny c3)) = w5 at HB5 hX5 ⊢
    generalize w2.heap.size = g5 at hX5 ⊢
    try simp only [Act.put, List.getElem_toArray, List.getElem_cons_zero, List.getElem_cons_succ]
    refine Upto.done (by kernel_rfl) ?_ _
    have s0 : w5.cell? ⟨g5, 0, none⟩ = some (.bool tb) := hX5.cell 0
    have s1 : w5.cell? ⟨g5, 1, none⟩ = some (.int .i64 kb) := hX5.cell 1
    try simp only [Act.put]
    cases tb with
    | false =>
      go_wp2
      go_ret
      exact ⟨by rw [HW.out]; rfl, HB5.out⟩
    | true =>
      by_cases hkb : kb = 2
      · subst hkb
        go_wp2
        go_ret
        exact ⟨by rw [HW.out]; rfl, HB5.out⟩
      · have g7 : (kb == 2) = false := by simp; exact hkb
        have g8 : (kb != 2) = true := by simp; exact hkb
        have HKB := Lib.hid hkb
        clear hkb
        go_wp2
        go_ret
        exact ⟨by rw [HW.out, decide_eq_false HKB.out]; rfl, HB5.out⟩
  · have HW : Hid (Cl.wrg objs x = false) := Lib.hid (by unfold Cl.wrg; simp [hk])
    have CW : ∀ w, Calls Tryd.prog 44 #[.int .i64 (Cl.knd objs x)] w fun e w' => e = .returned (.int .i64 0) ∧ w = w' := fun w => by have h := wanted_any (Cl.knd objs x) w; rwa [if_neg hk] at h
    generalize (Cl.lks objs x).length = nx at p2 e2 ⊢
    generalize Cl.the objs x = tx at e2 ⊢
    generalize Cl.knd objs x = kx at e2 p1 CW ⊢
    unfold ndC
    clear h hR hv hl hrk hrch hw2 z1 b2 hN hk
    go_enter Tryd.func43, Tryd.ntmps43
    go_wp2_with (go_at_call 44; refine pause ?_)
    unfold Paused
    refine (CW _).mono ?_
    rintro e w5 ⟨rfl, rfl⟩
    go_wp2
    go_ret
    exact ⟨by rw [HW.out]; rfl, HB2.out⟩
end Go.Proofs.YtlodalppnglclaaDoor
/- closure's calls: what is reached, missing, wrong, loose. -/
namespace Go.Proofs.YtlodalppnglclaaDoor
open Go Go.RowKit
/-- what the five calls are handed -/
structure ClIn (w0 : World) (A : Option Addr) (n c : Nat) (its : List Cl.T) (A2 : Option Addr) (n2 c2 : Nat) (roots : List (List Nat)) (a : Nat → Addr) : Prop where
  txt : ClT w0 (.slice A n c) its
  len : ∀ p ∈ its, p.text.length ≤ 100000
  tab : Tabs w0
  sen : CSents w0 a
  rk : RdK w0 (.slice A2 n2 c2) n2 (cellsP roots)
  rl : n2 = roots.length
  ri : ∀ x ∈ roots, Id32 x
  few : roots.length + 9 * its.length ≤ 1000
section
variable {w0 : World} {A : Option Addr} {n c : Nat} {its : List Cl.T} {A2 : Option Addr} {n2 c2 : Nat} {roots : List (List Nat)} {a : Nat → Addr}
theorem ClIn.byt (h : ClIn w0 A n c its A2 n2 c2 roots a) : ∀ t ∈ its.map (·.text), Sha.Byte t := fun t ht => by
  obtain ⟨p, hp, rfl⟩ := List.mem_map.1 ht
  exact (h.txt.rd p hp).2
theorem ClIn.stock (h : ClIn w0 A n c its A2 n2 c2 roots a) {w : World} (hb : Below w0.heap.size w0 w) : Calls Tryd.prog 25 #[.slice A n c] w (StkPost w its) :=
  stockOf_any A n c its w (h.txt.below hb) (by have := h.few; omega) h.len (h.tab.below hb (Nat.le_refl _))
theorem ClIn.walk (h : ClIn w0 A n c its A2 n2 c2 roots a) {w : World} (hb : Below w0.heap.size w0 w) {ms nms : Nat} (hm : MapO w ms nms (fun id => (Cl.fst its id).map (·.val))) : Calls Tryd.prog 26 #[.map (some ms), .slice A2 n2 c2] w (WalkPost (its.map (·.text)) roots w) := by
  have hp := pool_few (roots := roots) h.byt
  rw [List.length_map] at hp
  have hrk := h.rk.below hb (Nat.le_refl _)
  rw [h.rl] at hrk ⊢
  exact walk_any a A2 c2 roots its ms nms w0 w hb hm h.txt.rd h.sen (by have := h.few; omega) h.ri (by have := h.few; omega) hrk
theorem nds_of {objs roots : List (List Nat)} {w w' : World} {e : Ending} (h : WalkPost objs roots w e w') : ∃ ma ns, e = .returned (.map (some ma)) ∧ Nds objs roots w' ma ns ∧ Below w.heap.size w w' := by
  obtain ⟨ma, ns, h1, h2, h3, h4, h5, h6, _, h7⟩ := h
  exact ⟨ma, ns, h1, ⟨h2, h3, h4, h5, h6⟩, h7⟩
theorem eg_rch (args : Array Value) (w : World) : (callFunc 28 args).run Tryd.prog w = .ok (.enter 28 args) w := by kernel_rfl
theorem eg_mis (args : Array Value) (w : World) : (callFunc 42 args).run Tryd.prog w = .ok (.enter 42 args) w := by kernel_rfl
theorem eg_wrg (args : Array Value) (w : World) : (callFunc 43 args).run Tryd.prog w = .ok (.enter 43 args) w := by kernel_rfl
theorem eg_loo (args : Array Value) (w : World) : (callFunc 32 args).run Tryd.prog w = .ok (.enter 32 args) w := by kernel_rfl
theorem nd_shape {objs roots : List (List Nat)} {w : World} {ma : Nat} {ns : List Cl.Nd} (h : Nds objs roots w ma ns) : ∀ x v, (Cl.at_ ns x).map (Cl.ndV objs) = some v → ∃ tb kb A n c, v = .agg (ndC tb kb (.slice A n c)) := fun x v hv => by
  obtain ⟨A, c, he, _⟩ := h.val hv
  exact ⟨_, _, _, _, _, he⟩
theorem pick_rch {objs roots : List (List Nat)} {w : World} {ma : Nat} {ns : List Cl.Nd} (h : Nds objs roots w ma ns) : Calls Tryd.prog 27 #[.map (some ma), .func (.func 28) #[] #[]] w (SetPost (fun x => Cl.Rch objs roots x ∧ Cl.the objs x = true) w) :=
  (pickN_any 28 #[] (Cl.the objs) ma ns.length _ w h.mp (nd_shape h) h.few eg_rch (fun x v w' hx hv hb => by
    obtain ⟨A, c, rfl, _, _⟩ := h.val hv
    exact rch1_any x _ _ A _ c w')).mono fun e w' hp => SetPost.of hp (fun x hx => by rw [h.isSome x]) (Below.refl _ _)
theorem pick_mis {objs roots : List (List Nat)} {w : World} {ma : Nat} {ns : List Cl.Nd} (h : Nds objs roots w ma ns) : Calls Tryd.prog 27 #[.map (some ma), .func (.func 42) #[] #[]] w (SetPost (fun x => Cl.Rch objs roots x ∧ Cl.the objs x = false) w) :=
  (pickN_any 42 #[] (fun x => !Cl.the objs x) ma ns.length _ w h.mp (nd_shape h) h.few eg_mis (fun x v w' hx hv hb => by
    obtain ⟨A, c, rfl, _, _⟩ := h.val hv
    exact mis1_any x _ _ A _ c w')).mono fun e w' hp => SetPost.of hp (fun x hx => by rw [h.isSome x]; simp) (Below.refl _ _)
theorem missing_m {objs roots : List (List Nat)} {w : World} {ma : Nat} {ns : List Cl.Nd} (h : Nds objs roots w ma ns) : Calls Tryd.prog 29 #[.map (some ma)] w (SetPost (fun x => Cl.Rch objs roots x ∧ Cl.the objs x = false) w) := by
  have CP := pick_mis h
  unfold SetPost at CP
  clear h
  go_enter Tryd.func29, Tryd.ntmps29
  go_wp2_with (go_at_call 27; refine pause ?_)
  unfold Paused
  refine CP.mono ?_
  rintro e w' ⟨v, r, rfl, h2⟩
  have HF := Lib.hid h2
  clear h2 CP
  go_wp2
  go_ret
  exact ⟨v, r, rfl, HF.out⟩
theorem wrong_m {objs roots : List (List Nat)} {w : World} {ma : Nat} {ns : List Cl.Nd} (h : Nds objs roots w ma ns) (hb : ∀ t ∈ objs, Sha.Byte t) : Calls Tryd.prog 30 #[.map (some ma)] w (SetPost (fun x => Cl.Rch objs roots x ∧ Cl.wrg objs x = true) w) := by
  have b1 : Below w.heap.size w (w.alloc (.cells #[.map (some ma)] 61)) := (Below.refl _ _).alloc (Nat.le_refl _) _
  have hR : Blk (w.alloc (.cells #[.map (some ma)] 61)) w.heap.size 61 #[.map (some ma)] := Blk.new w _ _
  have h1 := h.below b1
  have CP : Calls Tryd.prog 27 #[.map (some ma), .func (.func 43) #[] #[.pointer (some ⟨w.heap.size, 0, none⟩)]] (w.alloc (.cells #[.map (some ma)] 61)) (SetPost (fun x => Cl.Rch objs roots x ∧ Cl.wrg objs x = true) w) :=
    (pickN_any 43 #[.pointer (some ⟨w.heap.size, 0, none⟩)] (Cl.wrg objs) ma ns.length _ _ h1.mp (nd_shape h1) h1.few eg_wrg (fun x v w' hx hv hb' => by
      exact wrg1_any (h1.below hb') (hR.below hb' hR.lt) x v hx hv (fun y hy => links_id32 hb hy))).mono fun e w' hp => SetPost.of hp (fun x hx => by rw [h1.isSome x]) b1
  unfold SetPost at CP
  have p0 : (w.alloc (.cells #[.map (some ma)] 61)).cell? ⟨w.heap.size, 0, none⟩ = some (.map (some ma)) := hR.cell 0
  clear h h1 hR b1 hb
  go_enter Tryd.func30, Tryd.ntmps30
  go_wp2_with (go_at_call 27; refine pause ?_)
  unfold Paused
  refine CP.mono ?_
  rintro e w' ⟨v, r, rfl, h2⟩
  have HF := Lib.hid h2
  clear h2 CP
  go_wp2
  go_ret
  exact ⟨v, r, rfl, HF.out⟩
set_option maxRecDepth 100000 in
theorem reached_any (h : ClIn w0 A n c its A2 n2 c2 roots a) (w : World) (hb : Below w0.heap.size w0 w) : Calls Tryd.prog 11 #[.slice A n c, .slice A2 n2 c2] w (SetPost (fun x => Cl.Rch (its.map (·.text)) roots x ∧ Cl.the (its.map (·.text)) x = true) w) := by
  have CS := h.stock hb
  unfold StkPost at CS
  have HW := Lib.hid (fun (w : World) (hb : Below w0.heap.size w0 w) (ms nms : Nat) (hm : MapO w ms nms (fun id => (Cl.fst its id).map (·.val))) => h.walk hb hm)
  have HB := Lib.hid hb
  clear h hb
  go_enter Tryd.func11, Tryd.ntmps11
  go_wp2_with (go_at_call 25; refine pause ?_)
  unfold Paused
  refine CS.mono ?_
  rintro e w1 ⟨m, nm, rfl, hm, _, _, hb1⟩
  have HM := Lib.hid hm
  have H1 := Lib.hid hb1
  clear hm hb1 CS
  go_wp2_with (go_at_call 26; refine pause ?_)
  unfold Paused
  refine (HW.out w1 (below_next HB.out H1.out) m nm HM.out).mono ?_
  intro e w2 hwp
  obtain ⟨ma, ns, rfl, hnd, hb2⟩ := nds_of hwp
  have CP := pick_rch hnd
  unfold SetPost at CP
  have H2 := Lib.hid (below_next H1.out hb2)
  clear hwp hnd hb2 HW HM
  go_wp2_with (go_at_call 27; refine pause ?_)
  unfold Paused
  refine CP.mono ?_
  rintro e w' ⟨v, r, rfl, h2, h3, h4, h5, h6⟩
  have HF := Lib.hid (And.intro h2 (And.intro h3 (And.intro h4 (And.intro h5 (below_next H2.out h6)))))
  clear h2 h3 h4 h5 h6 CP
  go_wp2
  go_ret
  exact ⟨v, r, rfl, HF.out⟩
set_option maxRecDepth 100000 in
theorem missing_any (h : ClIn w0 A n c its A2 n2 c2 roots a) (w : World) (hb : Below w0.heap.size w0 w) : Calls Tryd.prog 12 #[.slice A n c, .slice A2 n2 c2] w (SetPost (fun x => Cl.Rch (its.map (·.text)) roots x ∧ Cl.the (its.map (·.text)) x = false) w) := by
  have CS := h.stock hb
  unfold StkPost at CS
  have HW := Lib.hid (fun (w : World) (hb : Below w0.heap.size w0 w) (ms nms : Nat) (hm : MapO w ms nms (fun id => (Cl.fst its id).map (·.val))) => h.walk hb hm)
  have HB := Lib.hid hb
  have HBY := Lib.hid h.byt
  clear h hb
  go_enter Tryd.func12, Tryd.ntmps12
  go_wp2_with (go_at_call 25; refine pause ?_)
  unfold Paused
  refine CS.mono ?_
  rintro e w1 ⟨m, nm, rfl, hm, _, _, hb1⟩
  have HM := Lib.hid hm
  have H1 := Lib.hid hb1
  clear hm hb1 CS
  go_wp2_with (go_at_call 26; refine pause ?_)
  unfold Paused
  refine (HW.out w1 (below_next HB.out H1.out) m nm HM.out).mono ?_
  intro e w2 hwp
  obtain ⟨ma, ns, rfl, hnd, hb2⟩ := nds_of hwp
  have CP := missing_m hnd
  unfold SetPost at CP
  have H2 := Lib.hid (below_next H1.out hb2)
  clear hwp hnd hb2 HW HM
  go_wp2_with (go_at_call 29; refine pause ?_)
  unfold Paused
  refine CP.mono ?_
  rintro e w' ⟨v, r, rfl, h2, h3, h4, h5, h6⟩
  have HF := Lib.hid (And.intro h2 (And.intro h3 (And.intro h4 (And.intro h5 (below_next H2.out h6)))))
  clear h2 h3 h4 h5 h6 CP
  go_wp2
  go_ret
  exact ⟨v, r, rfl, HF.out⟩
set_option maxRecDepth 100000 in
theorem wrong_any (h : ClIn w0 A n c its A2 n2 c2 roots a) (w : World) (hb : Below w0.heap.size w0 w) : Calls Tryd.prog 13 #[.slice A n c, .slice A2 n2 c2] w (SetPost (fun x => Cl.Rch (its.map (·.text)) roots x ∧ Cl.wrg (its.map (·.text)) x = true) w) := by
  have CS := h.stock hb
  unfold StkPost at CS
  have HW := Lib.hid (fun (w : World) (hb : Below w0.heap.size w0 w) (ms nms : Nat) (hm : MapO w ms nms (fun id => (Cl.fst its id).map (·.val))) => h.walk hb hm)
  have HB := Lib.hid hb
  have HBY := Lib.hid h.byt
  clear h hb
  go_enter Tryd.func13, Tryd.ntmps13
  go_wp2_with (go_at_call 25; refine pause ?_)
  unfold Paused
  refine CS.mono ?_
  rintro e w1 ⟨m, nm, rfl, hm, _, _, hb1⟩
  have HM := Lib.hid hm
  have H1 := Lib.hid hb1
  clear hm hb1 CS
  go_wp2_with (go_at_call 26; refine pause ?_)
  unfold Paused
  refine (HW.out w1 (below_next HB.out H1.out) m nm HM.out).mono ?_
  intro e w2 hwp
  obtain ⟨ma, ns, rfl, hnd, hb2⟩ := nds_of hwp
  have CP := wrong_m hnd HBY.out
  unfold SetPost at CP
  have H2 := Lib.hid (below_next H1.out hb2)
  clear hwp hnd hb2 HW HM
  go_wp2_with (go_at_call 30; refine pause ?_)
  unfold Paused
  refine CP.mono ?_
  rintro e w' ⟨v, r, rfl, h2, h3, h4, h5, h6⟩
  have HF := Lib.hid (And.intro h2 (And.intro h3 (And.intro h4 (And.intro h5 (below_next H2.out h6)))))
  clear h2 h3 h4 h5 h6 CP
  go_wp2
  go_ret
  exact ⟨v, r, rfl, HF.out⟩
set_option maxRecDepth 100000 in
theorem loo1_any {objs roots : List (List Nat)} {w : World} {ma bR : Nat} {ns : List Cl.Nd} (h : Nds objs roots w ma ns) (hR : Blk w bR 61 #[.map (some ma)]) (x : List Nat) (v : Value) (hx : Id32 x) :
    Calls Tryd.prog 32 #[.agg (u8s x), v, .pointer (some ⟨bR, 0, none⟩)] w fun e w' => e = .returned (.bool (!(Cl.at_ ns x).isSome)) ∧ Below w.heap.size w w' := by
  have b1 : Below w.heap.size w (w.alloc (.cells (u8s x) 37)) := (Below.refl _ _).alloc (Nat.le_refl _) _
  have HI : Hid (Blk (w.alloc (.cells (u8s x) 37)) w.heap.size 37 (u8s x)) := Lib.hid (Blk.new w _ _)
  have pR : (w.alloc (.cells (u8s x) 37)).cell? ⟨bR, 0, none⟩ = some (.map (some ma)) := (hR.below b1 hR.lt).cell 0
  have q := (h.mp.below b1).look_ok Tryd.underlying61 (nd_zero _) hx
  have HB := Lib.hid b1
  have HX := Lib.hid hx
  obtain ⟨cs, hcs, h3, h1⟩ : ∃ cs : Array Value, ((Cl.at_ ns x).map (Cl.ndV objs)).getD (.agg (ndC false 0 (.slice none 0 0))) = .agg cs ∧ cs.size = 3 ∧ cs.all (·.oneCell') = true := by
    cases hat : (Cl.at_ ns x).map (Cl.ndV objs) with
    | none => exact ⟨_, rfl, rfl, nd_one _ _ _ _ _⟩
    | some u =>
      obtain ⟨A, c, he, _⟩ := h.val hat
      exact ⟨_, he, rfl, nd_one _ _ _ _ _⟩
  rw [hcs, Option.isSome_map] at q
  have H3 := Lib.hid h3
  have H1 := Lib.hid h1
  clear h hR b1 hx hcs h3 h1
  generalize (Cl.at_ ns x).isSome = has at q ⊢
  go_enter Tryd.func32, Tryd.ntmps32
  go_wp2_with (with_reducible (show wpList _ _ _ (Oper.mk _ (Op.load 37 _) _ _ _ _ :: _) _ _); refine pause ?_)
  unfold Paused
  refine wpList_row_w (by rfl) 37 (.tmp 3) (by rfl) w.heap.size (by rfl) 37 (u8s x) _ HI.out Tryd.underlying37 (by rfl) (by rw [u8s_size, HX.out.1]; exact cl_oid_load) ?_
  go_wp2_with (with_reducible (show wpList _ _ _ (Oper.mk _ (Op.store 68 _ _) _ _ _ _ :: _) _ _); refine pause ?_)
  unfold Paused
  change wpList _ _ _ _ _ ((w.alloc (.cells (u8s x) 37)).alloc (.cells #[.bool false, .int .i64 0, .slice none 0 0] 68))
  refine wpList_store_row (by rfl) 68 (.tmp 6) (.tmp 12) (by rfl) (w.alloc (.cells (u8s x) 37)).heap.size cs (by simp; rfl) (by rfl) 68 #[.bool false, .int .i64 0, .slice none 0 0] (Blk.new _ _ _) (by rw [H3.out]; exact nd_size) (by rw [H3.out]; rfl) H1.out ?_
  have HBx := Lib.hid (below_row (HB.out.alloc HB.out.size (.cells #[.bool false, .int .i64 0, .slice none 0 0] 68)) HB.out.size cs)
  generalize ((w.alloc (.cells (u8s x) 37)).alloc (.cells #[.bool false, .int .i64 0, .slice none 0 0] 68)).setRow (w.alloc (.cells (u8s x) 37)).heap.size cs = w4 at HBx ⊢
  simp only [Act.put]
  go_wp2
  go_ret
  exact ⟨rfl, HBx.out⟩
set_option maxRecDepth 100000 in
theorem loose_any (h : ClIn w0 A n c its A2 n2 c2 roots a) (w : World) (hb : Below w0.heap.size w0 w) : Calls Tryd.prog 14 #[.slice A n c, .slice A2 n2 c2] w (SetPost (fun x => Cl.the (its.map (·.text)) x = true ∧ ¬ Cl.Rch (its.map (·.text)) roots x) w) := by
  have CS := h.stock hb
  unfold StkPost at CS
  have HW := Lib.hid (fun (w : World) (hb : Below w0.heap.size w0 w) (ms nms : Nat) (hm : MapO w ms nms (fun id => (Cl.fst its id).map (·.val))) => h.walk hb hm)
  have HB := Lib.hid hb
  have HSH : Hid (∀ x v, (Cl.fst its x).map (·.val) = some v → ∃ A n c, v = .slice A n c) := Lib.hid (fun x v hv => by
    obtain ⟨p, hp, rfl⟩ := Option.map_eq_some_iff.1 hv
    obtain ⟨A, c, he, _⟩ := (h.txt.rd p (Cl.fst_mem hp).1).1
    exact ⟨_, _, _, he⟩)
  have HFW : Hid (its.length ≤ 1000) := Lib.hid (by have := h.few; omega)
  clear h hb
  go_enter Tryd.func14, Tryd.ntmps14
  go_wp2_with (go_at_call 25; refine pause ?_)
  unfold Paused
  refine CS.mono ?_
  rintro e w1 ⟨m, nm, rfl, hm, hnm, _, hb1⟩
  have HM := Lib.hid hm
  have H1 := Lib.hid hb1
  have HNM := Lib.hid hnm
  clear hm hb1 CS hnm
  go_wp2_with (go_at_call 26; refine pause ?_)
  unfold Paused
  refine (HW.out w1 (below_next HB.out H1.out) m nm HM.out).mono ?_
  intro e w2 hwp
  obtain ⟨ma, ns, rfl, hnd, hb2⟩ := nds_of hwp
  have b3 : Below w2.heap.size w2 (w2.alloc (.cells #[.map (some ma)] 61)) := (Below.refl _ _).alloc (Nat.le_refl _) _
  have hR : Blk (w2.alloc (.cells #[.map (some ma)] 61)) w2.heap.size 61 #[.map (some ma)] := Blk.new w2 _ _
  have p0 : (w2.alloc (.cells #[.map none] 61)).cell? ⟨w2.heap.size, 0, none⟩ = some (.map none) := (Blk.new w2 61 #[.map none]).cell 0
  have f0 : (w2.alloc (.cells #[.map none] 61)).frozen? ⟨w2.heap.size, 0, none⟩ = false := (Blk.new w2 61 #[.map none]).frozen 0
  have h3 := hnd.below b3
  have hM3 := (HM.out.below hb2).below b3
  have CP : Calls Tryd.prog 31 #[.map (some m), .func (.func 32) #[] #[.pointer (some ⟨w2.heap.size, 0, none⟩)]] (w2.alloc (.cells #[.map (some ma)] 61)) (SetPost (fun x => Cl.the (its.map (·.text)) x = true ∧ ¬ Cl.Rch (its.map (·.text)) roots x) w) :=
    (pickT_any 32 #[.pointer (some ⟨w2.heap.size, 0, none⟩)] (fun x => !(Cl.at_ ns x).isSome) m nm _ _ hM3 HSH.out (by have := HNM.out; have := HFW.out; omega) eg_loo (fun x v w' hx hv hb' => loo1_any (h3.below hb') (hR.below hb' hR.lt) x v hx)).mono fun e w' hp => SetPost.of hp (fun x hx => by
      have e1 : ((Cl.fst its x).map (·.val)).isSome = Cl.the (its.map (·.text)) x := by unfold Cl.the; rw [← Cl.fst_text, Option.isSome_map, Option.isSome_map]
      rw [e1, ← hnd.rch x, ← Cl.at_iff]
      simp) (below_next (below_next H1.out hb2) b3)
  unfold SetPost at CP
  clear hwp hnd hb2 HW HM b3 hR h3 hM3
  go_wp2_with (go_at_call 31; refine pause ?_)
  unfold Paused
  refine CP.mono ?_
  rintro e w' ⟨v, r, rfl, h2⟩
  have HF := Lib.hid h2
  clear h2 CP
  go_wp2
  go_ret
  exact ⟨v, r, rfl, HF.out⟩
end
end Go.Proofs.YtlodalppnglclaaDoor
