/- A map that is ranged over: those of its ids of which a function says so, rising. -/
import Derived.Test.YtlodalppnglclaaDoorMCl21s
import Derived.Test.YtlodalppnglclaaDoorMSort
namespace Go.Proofs.YtlodalppnglclaaDoor
open Go Go.RowKit Go.Maps
theorem RngO.few {w : World} {b r n cnt : Nat} {f : List Nat → Option Value} {left : List Nat → Bool} (h : RngO w b r n f left cnt) : cnt ≤ n := by
  obtain ⟨D, lf, h1, _⟩ := h
  obtain ⟨es, clock, since, seen, c0, _, _, hs, _, _, _, hc, _⟩ := h1
  rw [← hc]
  refine Nat.le_trans ?_ hs
  unfold leftOf
  exact Array.size_filter_le
theorem wpList_range_rngO {ops : Array Oper} {rest : List Oper} {o : Oper} {a : Act} {Q : Exit → Act → World → Prop} (w : World) (hg : o.guard = none) (m : Operand) (t e : TypeId) (hop : o.op = Op.range t m) (ht : Tryd.prog.underlying t = some (.map 37 e)) (b n : Nat) (f : List Nat → Option Value) (hm : a.eval m = .map (some b)) (h : MapO w b n f)
    (hK : ∀ w' cnt, RngO w' b w.heap.size n f (fun x => (f x).isSome) cnt → w.grownBy w' none → w'.heap.size = w.heap.size + 1 → wpList Tryd.prog ops Q rest (a.put o.dst (.pointer (some ⟨w.heap.size, 0, none⟩))) w') : wpList Tryd.prog ops Q (o :: rest) a w := by
  refine wpList_plain hg fun K' hK' => ?_
  obtain ⟨w', cnt, hrun, r1, r2, r3⟩ := h.range ht
  unfold Oper.wp
  simp [execOp, hop, hm, hrun, Result.andThen]
  exact hK' _ _ (hK w' cnt r1 r2 r3)
theorem wpList_next_rngO {ops : Array Oper} {rest : List Oper} {o : Oper} {a : Act} {Q : Exit → Act → World → Prop} (w : World) (hg : o.guard = none) (it : Operand) (hop : o.op = Op.next it false) (b r n cnt : Nat) (f : List Nat → Option Value) (left : List Nat → Bool) (hit : a.eval it = .pointer (some ⟨r, 0, none⟩)) (h : RngO w b r n f left cnt)
    (hDone : (∀ x, Id32 x → left x = false) → wpList Tryd.prog ops Q rest (a.put o.dst (.tuple #[.bool false])) w)
    (hMore : ∀ (x : List Nat) (v : Value) (w' : World) (cnt' : Nat), Id32 x → left x = true → f x = some v → RngO w' b r n f (fun y => left y && !decide (y = x)) cnt' → cnt' < cnt → w.grownBy w' (some r) → w'.heap.size = w.heap.size → (Instr.entry (.pointer (some ⟨r, 0, none⟩))).run Tryd.prog w' = .ok (.tuple #[.agg (u8s x), v]) w' → wpList Tryd.prog ops Q rest (a.put o.dst (.tuple #[.bool true, .agg (u8s x), v])) w') : wpList Tryd.prog ops Q (o :: rest) a w := by
  refine wpList_plain hg fun K' hK' => ?_
  unfold Oper.wp
  rcases h.next o.type with ⟨_, hl, hrun⟩ | ⟨x, v, w', cnt', e1, e2, e3, hrun, e5, e6, e7, e8, e9⟩
  · simp [execOp, hop, hit, hrun, Result.andThen]
    exact hK' _ _ (hDone hl)
  · simp [execOp, hop, hit, hrun, Result.andThen]
    exact hK' _ _ (hMore x v w' cnt' e1 e2 e3 e5 e6 e7 e8 e9)
theorem rdo_own {w : World} {B : Nat} {v : Value} {l : List (List Nat)} (h : w.ownsRow B 37 32 v l.length (cellsP l)) (hi : ∀ x ∈ l, Id32 x) : RdO w v l := by
  obtain ⟨A, c, hv, hc, hA⟩ := rdk_own h
  refine ⟨A, c, hv, hc, fun h0 => ?_⟩
  obtain ⟨b, o, ha, hl, hx⟩ := hA h0
  refine ⟨b, o, ha, hl, fun i hil j u hu => ?_⟩
  rw [Nat.add_assoc, Nat.mul_comm 32 i]
  exact hx (i * 32 + j) u (cellsP_at hi hil hu)
/-- how pick ends -/
def PickPost (f : List Nat → Option Value) (P : List Nat → Bool) (w : World) (e : Ending) (w' : World) : Prop :=
  ∃ v r, e = .returned v ∧ RdO w' v r ∧ (∀ x ∈ r, Id32 x) ∧ Sha.Rising r ∧ (∀ x, Id32 x → (x ∈ r ↔ ((f x).isSome = true ∧ P x = true))) ∧ Below w.heap.size w w'
/-- what pick's loop keeps -/
structure PW (w wr : World) (b r n N : Nat) (f : List Nat → Option Value) (P : List Nat → Bool) (left : List Nat → Bool) (cnt B : Nat) (v : Value) (l : List (List Nat)) : Prop where
  rg : RngO wr b r n f left cnt
  own : wr.ownsRow B 37 32 v l.length (cellsP l)
  bel : Below w.heap.size w wr
  ids : ∀ x ∈ l, Id32 x
  mem : ∀ x, Id32 x → (x ∈ l ↔ ((f x).isSome = true ∧ left x = false ∧ P x = true))
  lim : l.length + cnt ≤ N
  ord : w.heap.size ≤ r ∧ r < B ∧ b < B ∧ B ≤ wr.heap.size
section
variable {w wr w' : World} {b r n N : Nat} {f : List Nat → Option Value} {P : List Nat → Bool} {left : List Nat → Bool} {cnt B : Nat} {v : Value} {l : List (List Nat)}
theorem PW.below (h : PW w wr b r n N f P left cnt B v l) (hb : Below wr.heap.size wr w') : PW w w' b r n N f P left cnt B v l :=
  ⟨h.rg.below hb, own_below h.own hb, below_next h.bel hb, h.ids, h.mem, h.lim, by have := h.ord; have := hb.size; omega⟩
/-- an id has come that isn't wanted -/
theorem PW.skip {x : List Nat} {cnt' : Nat} (h : PW w wr b r n N f P left cnt B v l) (hrg : RngO w' b r n f (fun y => left y && !decide (y = x)) cnt') (hc : cnt' < cnt) (hg : wr.grownBy w' (some r)) (hs : w'.heap.size = wr.heap.size) (hp : P x = false) : PW w w' b r n N f P (fun y => left y && !decide (y = x)) cnt' B v l := by
  have ho := h.ord
  refine ⟨hrg, own_grow h.own hg (fun y hy e => by injection e with e; have := (own_in h.own hy).1; omega), cl_grow h.bel hg (fun y hy => by injection hy with hy; omega), h.ids, fun y hy => ?_, by have := h.lim; omega, by omega⟩
  rw [h.mem y hy]
  by_cases e : y = x
  · subst e; simp [hp]
  · simp [e]
/-- an id has come that is wanted: what holds ahead of the append -/
theorem PW.come {x : List Nat} {cnt' : Nat} (h : PW w wr b r n N f P left cnt B v l) (hrg : RngO w' b r n f (fun y => left y && !decide (y = x)) cnt') (hg : wr.grownBy w' (some r)) (hs : w'.heap.size = wr.heap.size) : RngO w' b r n f (fun y => left y && !decide (y = x)) cnt' ∧ w'.ownsRow B 37 32 v l.length (cellsP l) ∧ Below w.heap.size w w' ∧ B ≤ w'.heap.size := by
  have ho := h.ord
  exact ⟨hrg, own_grow h.own hg (fun y hy e => by injection e with e; have := (own_in h.own hy).1; omega), cl_grow h.bel hg (fun y hy => by injection hy with hy; omega), by omega⟩
theorem PW.put {x : List Nat} {cnt' : Nat} {wx w2 : World} {vx v2 : Value} (h : PW w wr b r n N f P left cnt B v l) (hid : Id32 x) (hlx : left x = true) (hfx : f x = some vx) (hc : cnt' < cnt) (hp : P x = true) (hrg : RngO wx b r n f (fun y => left y && !decide (y = x)) cnt') (hown : wx.ownsRow B 37 32 v l.length (cellsP l)) (hbx : Below w.heap.size w wx) (ho2 : w2.ownsRow B 37 32 v2 (l.length + 1) (cellsP l ++ cellsB x)) (hg : wx.grownBy w2 v.ownBlock) (hB : B ≤ wx.heap.size) : PW w w2 b r n N f P (fun y => left y && !decide (y = x)) cnt' B v2 (l ++ [x]) := by
  have ho := h.ord
  have far : ∀ y, y < B → some y ≠ v.ownBlock := fun y hy e => by have := (own_in hown e.symm).1; omega
  refine ⟨hrg.kept hg (far b ho.2.2.1) (far r ho.2.1), by rw [List.length_append, List.length_singleton, cellsP_snoc]; exact ho2, cl_grow hbx hg (fun y hy => by have := (own_in hown hy).1; omega), fun y hy => ?_, fun y hy => ?_, by rw [List.length_append, List.length_singleton]; have := h.lim; omega, by have := hg.size; omega⟩
  · rcases List.mem_append.1 hy with hy | hy
    · exact h.ids y hy
    · rw [List.mem_singleton.1 hy]; exact hid
  · rw [List.mem_append, List.mem_singleton, h.mem y hy]
    by_cases e : y = x
    · subst e; simp [hp, hfx]
    · simp [e]
end
set_option maxRecDepth 100000 in
set_option maxHeartbeats 8000000 in
theorem pickN_any (K : Nat) (cap : Array Value) (P : List Nat → Bool) (b n : Nat) (f : List Nat → Option Value) (w : World) (hm : MapO w b n f) (hf : ∀ x v, f x = some v → ∃ tb kb A n c, v = .agg (ndC tb kb (.slice A n c))) (hn : n ≤ 1000)
    (hK : ∀ args w, (callFunc K args).run Tryd.prog w = .ok (.enter K args) w)
    (hP : ∀ x v w', Id32 x → f x = some v → Below w.heap.size w w' → Calls Tryd.prog K (#[.agg (u8s x), v] ++ cap) w' fun e w'' => e = .returned (.bool (P x)) ∧ Below w'.heap.size w' w'') :
    Calls Tryd.prog 27 #[.map (some b), .func (.func K) #[] cap] w (PickPost f P w) := by
  have HF := Lib.hid hf
  have HP := Lib.hid hP
  have HN := Lib.hid hn
  have HM := Lib.hid hm
  clear hm hf hn hP
  go_enter Tryd.func27, Tryd.ntmps27
  go_wp2_with (with_reducible (show wpList _ _ _ (Oper.mk _ (Op.range _ _) _ _ _ _ :: _) _ _); refine pause ?_)
  unfold Paused
  refine wpList_range_rngO w (by rfl) (.tmp 8) 60 68 (by rfl) Tryd.underlying60 b n f (by rfl) HM.out ?_
  intro w1 cnt0 hrg hg1 hs1
  have HW0 : Hid (PW w w1 b w.heap.size n cnt0 f P (fun x => (f x).isSome) cnt0 (w.heap.size + 1) (.slice none 0 0) []) := Lib.hid ⟨hrg, World.ownsRow_nil _ _ _ _, cl_grow (Below.refl _ _) hg1 (fun x hx => by cases hx), fun x hx => (by cases hx), fun x hx => ⟨fun h => (by cases h), fun h => (by have h1 := h.1; rw [h.2.1] at h1; cases h1)⟩, by simp, by have := HM.out.lt; omega⟩
  have HC0 : Hid (cnt0 ≤ 1000) := Lib.hid (by have := hrg.few; have := HN.out; omega)
  clear hrg hg1 hs1
  go_wp2_with fail
  go_frame
  go_loopw [5] (fun v wr => ∃ left cnt l, Hid (PW w wr b w.heap.size n cnt0 f P left cnt (w.heap.size + 1) v l)) (fun _ wr => wr.rangeLeft b w.heap.size)
  case atStart => exact ⟨_, _, _, HW0⟩
  case round =>
    obtain ⟨left, cnt, l, HW⟩ := hrel
    obtain ⟨Av, cv, hvv⟩ := cl_own_slice HW.out.own
    subst hvv
    obtain ⟨nl, hnl⟩ : ∃ n, n = l.length := ⟨_, rfl⟩
    rw [← hnl] at HW ⊢
    have HNL := Lib.hid hnl
    clear hnl
    go_wp2_with (with_reducible (show wpList _ _ _ (Oper.mk _ (Op.next _ _) _ _ _ _ :: _) _ _); refine pause ?_)
    unfold Paused
    refine wpList_next_rngO wr (by rfl) (.tmp 9) (by rfl) b w.heap.size n cnt f left (by rfl) HW.out.rg ?_ ?_
    · intro hdone
      simp only [Act.put]
      have hmem : ∀ x, Id32 x → (x ∈ l ↔ ((f x).isSome = true ∧ P x = true)) := fun x hx => by rw [HW.out.mem x hx, hdone x hx]; simp
      have HMEM := Lib.hid hmem
      have CS := sort_any (.slice Av nl cv) l wr (by have h1 := HW.out.own; rw [HNL.out] at h1 ⊢; exact rdo_own h1 HW.out.ids) HW.out.ids (by have := HW.out.lim; have := HC0.out; omega)
      clear hdone hmem
      go_wp2_with (go_at_call 41; refine pause ?_)
      unfold Paused
      refine CS.mono ?_
      rintro e w5 ⟨r, hs⟩
      obtain ⟨b5, c5, rfl, hle, hlt5, hat5⟩ := hs.val
      have HFIN : Hid (PickPost f P w (.returned (.slice (some ⟨b5, 0, none⟩) r.length c5)) w5) := Lib.hid ⟨_, r, rfl, ⟨_, c5, rfl, hle, fun h0 => ⟨b5, 0, rfl, hlt5 h0, fun i hi => by rw [Nat.zero_add]; exact hat5 i hi⟩⟩, hs.oids, hs.rise, fun x hx => by rw [hs.mem x]; exact HMEM.out x hx, below_next HW.out.bel hs.bel⟩
      clear hs hle hlt5 hat5 CS
      go_wp2
      go_ret
      exact HFIN.out
    · intro x vx w1 cnt1 hid hlx hfx hrg1 hc1 hg1 hs1 hen
      obtain ⟨tb, kb, A1, n1, c1, hvx⟩ := HF.out x vx hfx
      have HID := Lib.hid hid
      have HLX := Lib.hid hlx
      have HFX := Lib.hid hfx
      have HRG := Lib.hid hrg1
      have HCC := Lib.hid hc1
      have HCM := Lib.hid (HW.out.come hrg1 hg1 hs1)
      have HSK : Hid (P x = false → PW w w1 b w.heap.size n cnt0 f P (fun y => left y && !decide (y = x)) cnt1 (w.heap.size + 1) (.slice Av nl cv) l) := Lib.hid (fun hp => HW.out.skip hrg1 hc1 hg1 hs1 hp)
      have hcnt : wr.rangeLeft b w.heap.size = cnt := HW.out.rg.left_eq
      have HCNT := Lib.hid hcnt
      have HVX := Lib.hid hvx
      subst hvx
      have HBX := Lib.hid HCM.out.2.2.1
      clear hid hlx hfx hrg1 hc1 hg1 hs1 hcnt
      simp only [Act.put]
      go_wp2_with (with_reducible (show wpList _ _ _ (Oper.mk _ (Op.store 37 _ _) _ _ _ _ :: _) _ _); refine pause ?_)
      unfold Paused
      change wpList _ _ _ _ _ ((w1.alloc (.cells (u8s (List.replicate 32 0)) 37)).alloc (.cells #[.bool false, .int .i64 0, .slice none 0 0] 68))
      have z1 : (w1.alloc (.cells (u8s (List.replicate 32 0)) 37)).heap.size = w1.heap.size + 1 := by simp
      have hbO : Blk ((w1.alloc (.cells (u8s (List.replicate 32 0)) 37)).alloc (.cells #[.bool false, .int .i64 0, .slice none 0 0] 68)) w1.heap.size 37 (u8s (List.replicate 32 0)) := (Blk.new w1 _ _).alloc _
      have hbN : Blk ((w1.alloc (.cells (u8s (List.replicate 32 0)) 37)).alloc (.cells #[.bool false, .int .i64 0, .slice none 0 0] 68)) (w1.heap.size + 1) 68 #[.bool false, .int .i64 0, .slice none 0 0] := by
        have h := Blk.new (w1.alloc (.cells (u8s (List.replicate 32 0)) 37)) 68 #[.bool false, .int .i64 0, .slice none 0 0]
        rwa [z1] at h
      have b2 : Below w1.heap.size w1 ((w1.alloc (.cells (u8s (List.replicate 32 0)) 37)).alloc (.cells #[.bool false, .int .i64 0, .slice none 0 0] 68)) := ((Below.refl _ _).alloc (Nat.le_refl _) _).alloc (by rw [z1]; omega) _
      clear hen
      generalize (w1.alloc (.cells (u8s (List.replicate 32 0)) 37)).alloc (.cells #[.bool false, .int .i64 0, .slice none 0 0] 68) = w2 at hbO hbN b2 ⊢
      refine wpList_store_row (by rfl) 37 (.tmp 6) (.tmp 13) (by rfl) w1.heap.size (u8s x) (by rfl) (by rfl) 37 (u8s (List.replicate 32 0)) hbO (by rw [u8s_size, HID.out.1]; exact cl_oid_load) (by rw [u8s_size, u8s_size, HID.out.1]; rfl) (u8s_one _) ?_
      have hbO3 : Blk (w2.setRow w1.heap.size (u8s x)) w1.heap.size 37 (u8s x) := hbO.row _
      have hbN3 : Blk (w2.setRow w1.heap.size (u8s x)) (w1.heap.size + 1) 68 #[.bool false, .int .i64 0, .slice none 0 0] := hbN.farRow (by omega) _
      have b3 : Below w1.heap.size w1 (w2.setRow w1.heap.size (u8s x)) := below_row b2 (Nat.le_refl _) _
      clear hbO hbN b2
      generalize w2.setRow w1.heap.size (u8s x) = w3 at hbO3 hbN3 b3 ⊢
      simp only [Act.put]
      go_wp2_with (with_reducible (show wpList _ _ _ (Oper.mk _ (Op.store 68 _ _) _ _ _ _ :: _) _ _); refine pause ?_)
      unfold Paused
      refine wpList_store_row (by rfl) 68 (.tmp 7) (.tmp 14) (by rfl) (w1.heap.size + 1) (ndC tb kb (.slice A1 n1 c1)) (by rfl) (by rfl) 68 #[.bool false, .int .i64 0, .slice none 0 0] hbN3 (by exact nd_size) (by rfl) (nd_one _ _ _ _ _) ?_
      have HI4 : Hid (Blk (w3.setRow (w1.heap.size + 1) (ndC tb kb (.slice A1 n1 c1))) w1.heap.size 37 (u8s x)) := Lib.hid (hbO3.farRow (by omega) _)
      have HN4 : Hid (Blk (w3.setRow (w1.heap.size + 1) (ndC tb kb (.slice A1 n1 c1))) (w1.heap.size + 1) 68 (ndC tb kb (.slice A1 n1 c1))) := Lib.hid (hbN3.row _)
      have HB4 : Hid (Below w1.heap.size w1 (w3.setRow (w1.heap.size + 1) (ndC tb kb (.slice A1 n1 c1)))) := Lib.hid (below_row b3 (by omega) _)
      clear hbO3 hbN3 b3 z1
      generalize w3.setRow (w1.heap.size + 1) (ndC tb kb (.slice A1 n1 c1)) = w4 at HI4 HN4 HB4 ⊢
      simp only [Act.put]
      go_wp2_with (with_reducible (show wpList _ _ _ (Oper.mk _ (Op.load 37 _) _ _ _ _ :: _) _ _); refine pause ?_)
      unfold Paused
      refine wpList_row_w (by rfl) 37 (.tmp 6) (by rfl) w1.heap.size (by rfl) 37 (u8s x) _ HI4.out Tryd.underlying37 (by rfl) (by rw [u8s_size, HID.out.1]; exact cl_oid_load) ?_
      go_wp2_with (with_reducible (show wpList _ _ _ (Oper.mk _ (Op.load 68 _) _ _ _ _ :: _) _ _); refine pause ?_)
      unfold Paused
      refine wpList_row_w (by rfl) 68 (.tmp 7) (by rfl) (w1.heap.size + 1) (by rfl) 68 (ndC tb kb (.slice A1 n1 c1)) _ HN4.out Tryd.underlying68 (by rfl) (by exact nd_size) ?_
      have CP := HP.out x (.agg (ndC tb kb (.slice A1 n1 c1))) w4 HID.out HFX.out (below_next HBX.out HB4.out)
      generalize w1.heap.size = g1 at HI4 ⊢
      cases hpx : P x with
      | false =>
        rw [hpx] at CP
        have HPX := Lib.hid hpx
        clear hpx
        go_wp2_with (with_reducible (refine CP.mono ?_); refine pause ?_)
        unfold Paused
        rintro e w6 ⟨rfl, hb6⟩
        have HN6 := Lib.hid ((HSK.out HPX.out).below (below_then HB4.out hb6))
        clear hb6 CP
        go_wp2
        go_roundw
        case rel => exact ⟨_, _, _, HN6⟩
        case measure => rw [HN6.out.rg.left_eq, HCNT.out]; exact HCC.out
      | true =>
        rw [hpx] at CP
        have HPX := Lib.hid hpx
        clear hpx
        go_wp2_with (with_reducible (refine CP.mono ?_); refine pause ?_)
        unfold Paused
        rintro e w6 ⟨rfl, hb6⟩
        have HB6 := Lib.hid (below_then HB4.out hb6)
        have HI6 := Lib.hid (HI4.out.below hb6 HI4.out.lt)
        clear hb6 CP
        obtain ⟨ip, hip, hpz, hps, hpb⟩ := info_parts ioid_info
        go_wp2_with (with_reducible (show wpList _ _ _ (Oper.mk _ (Op.load 37 _) _ _ _ _ :: _) _ _); refine pause ?_)
        unfold Paused
        refine wpList_row_w (by rfl) 37 (.tmp 6) (by rfl) g1 (by rfl) 37 (u8s x) _ HI6.out Tryd.underlying37 (by rfl) (by rw [u8s_size, HID.out.1]; exact cl_oid_load) ?_
        go_wp2_with (with_reducible (show wpList _ _ _ (Oper.mk _ (Op.buildSlice _ _ _) _ _ _ _ :: _) _ _); refine pause ?_)
        unfold Paused
        refine wpList_buildSliceK (by rfl) 23 37 1 _ (by rfl) (cellsB x).toArray ip (.agg (cellsB (List.replicate 32 0)).toArray) Tryd.underlying23 hip hpz (by rw [hps]; decide) (by rw [hps]; decide) _ (by kernel_rfl) (by rw [hps]; exact fill_one 32 (Value.agg (cellsB (List.replicate 32 0)).toArray).cells _ (cellsP1_len HID.out) (by rfl)) ?_
        have b7 : Below w6.heap.size w6 (w6.alloc (.cells (cellsB x).toArray 37)) := (Below.refl _ _).alloc (Nat.le_refl _) _
        have HX7 := Lib.hid (Blk.new w6 37 (cellsB x).toArray)
        have HB7 := Lib.hid (below_then HB6.out b7)
        clear b7
        generalize w6.alloc (.cells (cellsB x).toArray 37) = w7 at HX7 HB7 ⊢
        generalize w6.heap.size = g7 at HX7 ⊢
        have HO7 : Hid (w7.ownsRow (w.heap.size + 1) 37 32 (.slice Av nl cv) l.length (cellsP l)) := Lib.hid (own_below HCM.out.2.1 HB7.out)
        have HO7n : Hid (w7.ownsRow (w.heap.size + 1) 37 32 (.slice Av nl cv) nl (cellsP l)) := Lib.hid (by rw [HNL.out]; have h1 := HO7.out; rw [HNL.out] at h1; exact h1)
        have HLM : Hid (nl ≤ 1000) := Lib.hid (by have := HW.out.lim; have := HC0.out; have := HNL.out; omega)
        have HSZ : Hid (w.heap.size + 1 ≤ w7.heap.size) := Lib.hid (Nat.le_trans HCM.out.2.2.2 HB7.out.size)
        go_wp2_with (with_reducible (show wpList _ _ _ (Oper.mk _ (Op.call (Call.mk (Callee.builtin Builtin.append) _ _)) _ _ _ _ :: _) _ _); refine pause ?_)
        unfold Paused
        refine wpList_append_lies w7 (by rfl) (.tmp 19) (.tmp 21) 23 (by rfl) (w.heap.size + 1) 37 ip _ 32 32 Tryd.underlying23 hip hpz hps hpb (by rfl) (by decide) (.slice Av nl cv) nl (cellsP l) (by rfl) HO7n.out ⟨g7, 0, none⟩ 1 1 (cellsB x) (by rfl) (by rw [cellsP1_len HID.out]) (fun j u hj => by rw [Addr.add_mid, Nat.zero_add, HX7.out.cell j]; simpa using hj) (cellsB_one _) (by decide) (by have := HLM.out; unfold maxLen; omega) (by have := HLM.out; omega) HSZ.out w7.heap.size rfl ?_
        intro g8 c8 w8 ho8 hg8 hl8 _
        have HN8 : Hid (PW w w8 b w.heap.size n cnt0 f P (fun y => left y && !decide (y = x)) cnt1 (w.heap.size + 1) (.slice (some ⟨g8, 0, none⟩) (nl + 1) c8) (l ++ [x])) := Lib.hid (HW.out.put HID.out HLX.out HFX.out HCC.out HPX.out (HRG.out.below HB7.out) HO7.out (below_next HCM.out.2.2.1 HB7.out) (by rw [← HNL.out]; exact ho8) hg8 HSZ.out)
        clear ho8 hg8 hl8 hip hpz hps hpb
        simp only [Act.put]
        go_wp2
        go_roundw
        case rel => exact ⟨_, _, _, HN8⟩
        case measure => rw [HN8.out.rg.left_eq, HCNT.out]; exact HCC.out
set_option maxRecDepth 100000 in
set_option maxHeartbeats 8000000 in
theorem pickT_any (K : Nat) (cap : Array Value) (P : List Nat → Bool) (b n : Nat) (f : List Nat → Option Value) (w : World) (hm : MapO w b n f) (hf : ∀ x v, f x = some v → ∃ A n c, v = .slice A n c) (hn : n ≤ 1000)
    (hK : ∀ args w, (callFunc K args).run Tryd.prog w = .ok (.enter K args) w)
    (hP : ∀ x v w', Id32 x → f x = some v → Below w.heap.size w w' → Calls Tryd.prog K (#[.agg (u8s x), v] ++ cap) w' fun e w'' => e = .returned (.bool (P x)) ∧ Below w'.heap.size w' w'') :
    Calls Tryd.prog 31 #[.map (some b), .func (.func K) #[] cap] w (PickPost f P w) := by
  have HF := Lib.hid hf
  have HP := Lib.hid hP
  have HN := Lib.hid hn
  have HM := Lib.hid hm
  clear hm hf hn hP
  go_enter Tryd.func31, Tryd.ntmps31
  go_wp2_with (with_reducible (show wpList _ _ _ (Oper.mk _ (Op.range _ _) _ _ _ _ :: _) _ _); refine pause ?_)
  unfold Paused
  refine wpList_range_rngO w (by rfl) (.tmp 8) 62 40 (by rfl) Tryd.underlying62 b n f (by rfl) HM.out ?_
  intro w1 cnt0 hrg hg1 hs1
  have HW0 : Hid (PW w w1 b w.heap.size n cnt0 f P (fun x => (f x).isSome) cnt0 (w.heap.size + 1) (.slice none 0 0) []) := Lib.hid ⟨hrg, World.ownsRow_nil _ _ _ _, cl_grow (Below.refl _ _) hg1 (fun x hx => by cases hx), fun x hx => (by cases hx), fun x hx => ⟨fun h => (by cases h), fun h => (by have h1 := h.1; rw [h.2.1] at h1; cases h1)⟩, by simp, by have := HM.out.lt; omega⟩
  have HC0 : Hid (cnt0 ≤ 1000) := Lib.hid (by have := hrg.few; have := HN.out; omega)
  clear hrg hg1 hs1
  go_wp2_with fail
  go_frame
  go_loopw [5] (fun v wr => ∃ left cnt l, Hid (PW w wr b w.heap.size n cnt0 f P left cnt (w.heap.size + 1) v l)) (fun _ wr => wr.rangeLeft b w.heap.size)
  case atStart => exact ⟨_, _, _, HW0⟩
  case round =>
    obtain ⟨left, cnt, l, HW⟩ := hrel
    obtain ⟨Av, cv, hvv⟩ := cl_own_slice HW.out.own
    subst hvv
    obtain ⟨nl, hnl⟩ : ∃ n, n = l.length := ⟨_, rfl⟩
    rw [← hnl] at HW ⊢
    have HNL := Lib.hid hnl
    clear hnl
    go_wp2_with (with_reducible (show wpList _ _ _ (Oper.mk _ (Op.next _ _) _ _ _ _ :: _) _ _); refine pause ?_)
    unfold Paused
    refine wpList_next_rngO wr (by rfl) (.tmp 9) (by rfl) b w.heap.size n cnt f left (by rfl) HW.out.rg ?_ ?_
    · intro hdone
      simp only [Act.put]
      have hmem : ∀ x, Id32 x → (x ∈ l ↔ ((f x).isSome = true ∧ P x = true)) := fun x hx => by rw [HW.out.mem x hx, hdone x hx]; simp
      have HMEM := Lib.hid hmem
      have CS := sort_any (.slice Av nl cv) l wr (by have h1 := HW.out.own; rw [HNL.out] at h1 ⊢; exact rdo_own h1 HW.out.ids) HW.out.ids (by have := HW.out.lim; have := HC0.out; omega)
      clear hdone hmem
      go_wp2_with (go_at_call 41; refine pause ?_)
      unfold Paused
      refine CS.mono ?_
      rintro e w5 ⟨r, hs⟩
      obtain ⟨b5, c5, rfl, hle, hlt5, hat5⟩ := hs.val
      have HFIN : Hid (PickPost f P w (.returned (.slice (some ⟨b5, 0, none⟩) r.length c5)) w5) := Lib.hid ⟨_, r, rfl, ⟨_, c5, rfl, hle, fun h0 => ⟨b5, 0, rfl, hlt5 h0, fun i hi => by rw [Nat.zero_add]; exact hat5 i hi⟩⟩, hs.oids, hs.rise, fun x hx => by rw [hs.mem x]; exact HMEM.out x hx, below_next HW.out.bel hs.bel⟩
      clear hs hle hlt5 hat5 CS
      go_wp2
      go_ret
      exact HFIN.out
    · intro x vx w1 cnt1 hid hlx hfx hrg1 hc1 hg1 hs1 hen
      obtain ⟨A1, n1, c1, hvx⟩ := HF.out x vx hfx
      have HID := Lib.hid hid
      have HLX := Lib.hid hlx
      have HFX := Lib.hid hfx
      have HRG := Lib.hid hrg1
      have HCC := Lib.hid hc1
      have HCM := Lib.hid (HW.out.come hrg1 hg1 hs1)
      have HSK : Hid (P x = false → PW w w1 b w.heap.size n cnt0 f P (fun y => left y && !decide (y = x)) cnt1 (w.heap.size + 1) (.slice Av nl cv) l) := Lib.hid (fun hp => HW.out.skip hrg1 hc1 hg1 hs1 hp)
      have hcnt : wr.rangeLeft b w.heap.size = cnt := HW.out.rg.left_eq
      have HCNT := Lib.hid hcnt
      have HVX := Lib.hid hvx
      subst hvx
      have HBX := Lib.hid HCM.out.2.2.1
      clear hid hlx hfx hrg1 hc1 hg1 hs1 hcnt
      simp only [Act.put]
      go_wp2_with (with_reducible (show wpList _ _ _ (Oper.mk _ (Op.store 37 _ _) _ _ _ _ :: _) _ _); refine pause ?_)
      unfold Paused
      change wpList _ _ _ _ _ (w1.alloc (.cells (u8s (List.replicate 32 0)) 37))
      refine wpList_store_row (by rfl) 37 (.tmp 6) (.tmp 13) (by rfl) w1.heap.size (u8s x) (by rfl) (by rfl) 37 (u8s (List.replicate 32 0)) (Blk.new w1 _ _) (by rw [u8s_size, HID.out.1]; exact cl_oid_load) (by rw [u8s_size, u8s_size, HID.out.1]; rfl) (u8s_one _) ?_
      have HI4 : Hid (Blk ((w1.alloc (.cells (u8s (List.replicate 32 0)) 37)).setRow w1.heap.size (u8s x)) w1.heap.size 37 (u8s x)) := Lib.hid ((Blk.new w1 _ _).row _)
      have HB4 : Hid (Below w1.heap.size w1 ((w1.alloc (.cells (u8s (List.replicate 32 0)) 37)).setRow w1.heap.size (u8s x))) := Lib.hid (below_row ((Below.refl _ _).alloc (Nat.le_refl _) _) (Nat.le_refl _) _)
      clear hen
      generalize (w1.alloc (.cells (u8s (List.replicate 32 0)) 37)).setRow w1.heap.size (u8s x) = w4 at HI4 HB4 ⊢
      simp only [Act.put]
      go_wp2_with (with_reducible (show wpList _ _ _ (Oper.mk _ (Op.load 37 _) _ _ _ _ :: _) _ _); refine pause ?_)
      unfold Paused
      refine wpList_row_w (by rfl) 37 (.tmp 6) (by rfl) w1.heap.size (by rfl) 37 (u8s x) _ HI4.out Tryd.underlying37 (by rfl) (by rw [u8s_size, HID.out.1]; exact cl_oid_load) ?_
      have CP := HP.out x (.slice A1 n1 c1) w4 HID.out HFX.out (below_next HBX.out HB4.out)
      generalize w1.heap.size = g1 at HI4 ⊢
      cases hpx : P x with
      | false =>
        rw [hpx] at CP
        have HPX := Lib.hid hpx
        clear hpx
        go_wp2_with (with_reducible (refine CP.mono ?_); refine pause ?_)
        unfold Paused
        rintro e w6 ⟨rfl, hb6⟩
        have HN6 := Lib.hid ((HSK.out HPX.out).below (below_then HB4.out hb6))
        clear hb6 CP
        go_wp2
        go_roundw
        case rel => exact ⟨_, _, _, HN6⟩
        case measure => rw [HN6.out.rg.left_eq, HCNT.out]; exact HCC.out
      | true =>
        rw [hpx] at CP
        have HPX := Lib.hid hpx
        clear hpx
        go_wp2_with (with_reducible (refine CP.mono ?_); refine pause ?_)
        unfold Paused
        rintro e w6 ⟨rfl, hb6⟩
        have HB6 := Lib.hid (below_then HB4.out hb6)
        have HI6 := Lib.hid (HI4.out.below hb6 HI4.out.lt)
        clear hb6 CP
        obtain ⟨ip, hip, hpz, hps, hpb⟩ := info_parts ioid_info
        go_wp2_with (with_reducible (show wpList _ _ _ (Oper.mk _ (Op.load 37 _) _ _ _ _ :: _) _ _); refine pause ?_)
        unfold Paused
        refine wpList_row_w (by rfl) 37 (.tmp 6) (by rfl) g1 (by rfl) 37 (u8s x) _ HI6.out Tryd.underlying37 (by rfl) (by rw [u8s_size, HID.out.1]; exact cl_oid_load) ?_
        go_wp2_with (with_reducible (show wpList _ _ _ (Oper.mk _ (Op.buildSlice _ _ _) _ _ _ _ :: _) _ _); refine pause ?_)
        unfold Paused
        refine wpList_buildSliceK (by rfl) 23 37 1 _ (by rfl) (cellsB x).toArray ip (.agg (cellsB (List.replicate 32 0)).toArray) Tryd.underlying23 hip hpz (by rw [hps]; decide) (by rw [hps]; decide) _ (by kernel_rfl) (by rw [hps]; exact fill_one 32 (Value.agg (cellsB (List.replicate 32 0)).toArray).cells _ (cellsP1_len HID.out) (by rfl)) ?_
        have b7 : Below w6.heap.size w6 (w6.alloc (.cells (cellsB x).toArray 37)) := (Below.refl _ _).alloc (Nat.le_refl _) _
        have HX7 := Lib.hid (Blk.new w6 37 (cellsB x).toArray)
        have HB7 := Lib.hid (below_then HB6.out b7)
        clear b7
        generalize w6.alloc (.cells (cellsB x).toArray 37) = w7 at HX7 HB7 ⊢
        generalize w6.heap.size = g7 at HX7 ⊢
        have HO7 : Hid (w7.ownsRow (w.heap.size + 1) 37 32 (.slice Av nl cv) l.length (cellsP l)) := Lib.hid (own_below HCM.out.2.1 HB7.out)
        have HO7n : Hid (w7.ownsRow (w.heap.size + 1) 37 32 (.slice Av nl cv) nl (cellsP l)) := Lib.hid (by rw [HNL.out]; have h1 := HO7.out; rw [HNL.out] at h1; exact h1)
        have HLM : Hid (nl ≤ 1000) := Lib.hid (by have := HW.out.lim; have := HC0.out; have := HNL.out; omega)
        have HSZ : Hid (w.heap.size + 1 ≤ w7.heap.size) := Lib.hid (Nat.le_trans HCM.out.2.2.2 HB7.out.size)
        go_wp2_with (with_reducible (show wpList _ _ _ (Oper.mk _ (Op.call (Call.mk (Callee.builtin Builtin.append) _ _)) _ _ _ _ :: _) _ _); refine pause ?_)
        unfold Paused
        refine wpList_append_lies w7 (by rfl) (.tmp 19) (.tmp 21) 23 (by rfl) (w.heap.size + 1) 37 ip _ 32 32 Tryd.underlying23 hip hpz hps hpb (by rfl) (by decide) (.slice Av nl cv) nl (cellsP l) (by rfl) HO7n.out ⟨g7, 0, none⟩ 1 1 (cellsB x) (by rfl) (by rw [cellsP1_len HID.out]) (fun j u hj => by rw [Addr.add_mid, Nat.zero_add, HX7.out.cell j]; simpa using hj) (cellsB_one _) (by decide) (by have := HLM.out; unfold maxLen; omega) (by have := HLM.out; omega) HSZ.out w7.heap.size rfl ?_
        intro g8 c8 w8 ho8 hg8 hl8 _
        have HN8 : Hid (PW w w8 b w.heap.size n cnt0 f P (fun y => left y && !decide (y = x)) cnt1 (w.heap.size + 1) (.slice (some ⟨g8, 0, none⟩) (nl + 1) c8) (l ++ [x])) := Lib.hid (HW.out.put HID.out HLX.out HFX.out HCC.out HPX.out (HRG.out.below HB7.out) HO7.out (below_next HCM.out.2.2.1 HB7.out) (by rw [← HNL.out]; exact ho8) hg8 HSZ.out)
        clear ho8 hg8 hl8 hip hpz hps hpb
        simp only [Act.put]
        go_wp2
        go_roundw
        case rel => exact ⟨_, _, _, HN8⟩
        case measure => rw [HN8.out.rg.left_eq, HCNT.out]; exact HCC.out
end Go.Proofs.YtlodalppnglclaaDoor
