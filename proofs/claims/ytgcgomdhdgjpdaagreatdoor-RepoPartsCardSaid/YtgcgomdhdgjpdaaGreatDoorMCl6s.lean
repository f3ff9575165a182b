/- A map that is ranged over: those of its ids of which a function says so, rising. -/
import Derived.Maps.RangeWalk
import Derived.Test.YtgcgomdhdgjpdaaGreatDoorMCl5s
import Derived.Test.YtgcgomdhdgjpdaaGreatDoorMTexts2s
import Derived.Test.YtgcgomdhdgjpdaaGreatDoorMOct11s
namespace Go.Proofs.YtgcgomdhdgjpdaaGreatDoor
open Go Go.RowKit Go.Maps
theorem RngO.few {w : World} {b r n cnt : Nat} {f : List Nat → Option Value} {left : List Nat → Bool} (h : RngO w b r n f left cnt) : cnt ≤ n := by
 obtain ⟨D, lf, h1, _⟩ := h
 obtain ⟨es, clock, since, seen, c0, _, _, hs, _, _, _, hc, _⟩ := h1
 rw [← hc]
 refine Nat.le_trans ?_ hs
 unfold leftOf
 exact Array.size_filter_le
theorem wpList_range_rngO {ops : Array Oper} {rest : List Oper} {o : Oper} {a : Act} {Q : Exit → Act → World → Prop} (w : World) (hg : o.guard = none) (m : Operand) (t e : TypeId) (hop : o.op = Op.range t m) (ht : Tryz.prog.underlying t = some (.map 41 e)) (b n : Nat) (f : List Nat → Option Value) (hm : a.eval m = .map (some b)) (h : MapO w b n f)
  (hK : ∀ w' cnt, RngO w' b w.heap.size n f (fun x => (f x).isSome) cnt → w.grownBy w' none → w'.heap.size = w.heap.size + 1 → wpList Tryz.prog ops Q rest (a.put o.dst (.pointer (some ⟨w.heap.size, 0, none⟩))) w') : wpList Tryz.prog ops Q (o :: rest) a w := by
 refine wpList_plain hg fun K' hK' => ?_
 obtain ⟨w', cnt, hrun, r1, r2, r3⟩ := h.range ht
 unfold Oper.wp
 simp [execOp, hop, hm, hrun, Result.andThen]
 exact hK' _ _ (hK w' cnt r1 r2 r3)
theorem wpList_next_rngO {ops : Array Oper} {rest : List Oper} {o : Oper} {a : Act} {Q : Exit → Act → World → Prop} (w : World) (hg : o.guard = none) (it : Operand) (hop : o.op = Op.next it false) (b r n cnt : Nat) (f : List Nat → Option Value) (left : List Nat → Bool) (hit : a.eval it = .pointer (some ⟨r, 0, none⟩)) (h : RngO w b r n f left cnt)
  (hDone : (∀ x, Id32 x → left x = false) → wpList Tryz.prog ops Q rest (a.put o.dst (.tuple #[.bool false])) w)
  (hMore : ∀ (x : List Nat) (v : Value) (w' : World) (cnt' : Nat), Id32 x → left x = true → f x = some v → RngO w' b r n f (fun y => left y && !decide (y = x)) cnt' → cnt' < cnt → w.grownBy w' (some r) → w'.heap.size = w.heap.size → (Instr.entry (.pointer (some ⟨r, 0, none⟩))).run Tryz.prog w' = .ok (.tuple #[.agg (u8s x), v]) w' → wpList Tryz.prog ops Q rest (a.put o.dst (.tuple #[.bool true, .agg (u8s x), v])) w') : wpList Tryz.prog ops Q (o :: rest) a w := by
 refine wpList_plain hg fun K' hK' => ?_
 unfold Oper.wp
 rcases h.next o.type with ⟨_, hl, hrun⟩ | ⟨x, v, w', cnt', e1, e2, e3, hrun, e5, e6, e7, e8, e9⟩
 ·simp [execOp, hop, hit, hrun, Result.andThen]
  exact hK' _ _ (hDone hl)
 ·simp [execOp, hop, hit, hrun, Result.andThen]
  exact hK' _ _ (hMore x v w' cnt' e1 e2 e3 e5 e6 e7 e8 e9)
theorem rdo_own {w : World} {B : Nat} {v : Value} {l : List (List Nat)} (h : w.ownsRow B 41 32 v l.length (cellsP l)) (hi : ∀ x ∈ l, Id32 x) : RdO w v l := by
 obtain ⟨A, c, hv, hc, hA⟩ := rdk_own h
 refine ⟨A, c, hv, hc, fun h0 => ?_⟩
 obtain ⟨b, o, ha, hl, hx⟩ := hA h0
 refine ⟨b, o, ha, hl, fun i hil j u hu => ?_⟩
 rw [Nat.add_assoc, Nat.mul_comm 32 i]
 exact hx (i * 32 + j) u (cellsP_at hi hil hu)
def PickPost (f : List Nat → Option Value) (P : List Nat → Bool) (w : World) (e : Ending) (w' : World) : Prop :=
 ∃ v r, e = .returned v ∧ RdO w' v r ∧ (∀ x ∈ r, Id32 x) ∧ Sha.Rising r ∧ (∀ x, Id32 x → (x ∈ r ↔ ((f x).isSome = true ∧ P x = true))) ∧ Below w.heap.size w w'
structure PW (w wr : World) (b r n N : Nat) (f : List Nat → Option Value) (P : List Nat → Bool) (left : List Nat → Bool) (cnt B : Nat) (v : Value) (l : List (List Nat)) : Prop where
 rg : RngO wr b r n f left cnt
 own : wr.ownsRow B 41 32 v l.length (cellsP l)
 bel : Below w.heap.size w wr
 ids : ∀ x ∈ l, Id32 x
 mem : ∀ x, Id32 x → (x ∈ l ↔ ((f x).isSome = true ∧ left x = false ∧ P x = true))
 lim : l.length + cnt ≤ N
 ord : w.heap.size ≤ r ∧ r < B ∧ b < B ∧ B ≤ wr.heap.size
section
variable {w wr w' : World} {b r n N : Nat} {f : List Nat → Option Value} {P : List Nat → Bool} {left : List Nat → Bool} {cnt B : Nat} {v : Value} {l : List (List Nat)}
theorem PW.below (h : PW w wr b r n N f P left cnt B v l) (hb : Below wr.heap.size wr w') : PW w w' b r n N f P left cnt B v l :=
 ⟨h.rg.below hb, own_below h.own hb, below_next h.bel hb, h.ids, h.mem, h.lim, by have := h.ord; have := hb.size; omega⟩
theorem PW.skip {x : List Nat} {cnt' : Nat} (h : PW w wr b r n N f P left cnt B v l) (hrg : RngO w' b r n f (fun y => left y && !decide (y = x)) cnt') (hc : cnt' < cnt) (hg : wr.grownBy w' (some r)) (hs : w'.heap.size = wr.heap.size) (hp : P x = false) : PW w w' b r n N f P (fun y => left y && !decide (y = x)) cnt' B v l := by
 have ho := h.ord
 refine ⟨hrg, own_grow h.own hg (fun y hy e => by injection e with e; have := (own_in h.own hy).1; omega), cl_grow h.bel hg (fun y hy => by injection hy with hy; omega), h.ids, fun y hy => ?_, by have := h.lim; omega, by omega⟩
 rw [h.mem y hy]
 by_cases e : y = x
 ·subst e; simp [hp]
 ·simp [e]
theorem PW.come {x : List Nat} {cnt' : Nat} (h : PW w wr b r n N f P left cnt B v l) (hrg : RngO w' b r n f (fun y => left y && !decide (y = x)) cnt') (hg : wr.grownBy w' (some r)) (hs : w'.heap.size = wr.heap.size) : RngO w' b r n f (fun y => left y && !decide (y = x)) cnt' ∧ w'.ownsRow B 41 32 v l.length (cellsP l) ∧ Below w.heap.size w w' ∧ B ≤ w'.heap.size := by
 have ho := h.ord
 exact ⟨hrg, own_grow h.own hg (fun y hy e => by injection e with e; have := (own_in h.own hy).1; omega), cl_grow h.bel hg (fun y hy => by injection hy with hy; omega), by omega⟩
theorem PW.put {x : List Nat} {cnt' : Nat} {wx w2 : World} {vx v2 : Value} (h : PW w wr b r n N f P left cnt B v l) (hid : Id32 x) (hlx : left x = true) (hfx : f x = some vx) (hc : cnt' < cnt) (hp : P x = true) (hrg : RngO wx b r n f (fun y => left y && !decide (y = x)) cnt') (hown : wx.ownsRow B 41 32 v l.length (cellsP l)) (hbx : Below w.heap.size w wx) (ho2 : w2.ownsRow B 41 32 v2 (l.length + 1) (cellsP l ++ cellsB x)) (hg : wx.grownBy w2 v.ownBlock) (hB : B ≤ wx.heap.size) : PW w w2 b r n N f P (fun y => left y && !decide (y = x)) cnt' B v2 (l ++ [x]) := by
 have ho := h.ord
 have far : ∀ y, y < B → some y ≠ v.ownBlock := fun y hy e => by have := (own_in hown e.symm).1; omega
 refine ⟨hrg.kept hg (far b ho.2.2.1) (far r ho.2.1), by rw [List.length_append, List.length_singleton, cellsP_snoc]; exact ho2, cl_grow hbx hg (fun y hy => by have := (own_in hown hy).1; omega), fun y hy => ?_, fun y hy => ?_, by rw [List.length_append, List.length_singleton]; have := h.lim; omega, by have := hg.size; omega⟩
 ·rcases List.mem_append.1 hy with hy | hy
  ·exact h.ids y hy
  ·rw [List.mem_singleton.1 hy]; exact hid
 ·rw [List.mem_append, List.mem_singleton, h.mem y hy]
  by_cases e : y = x
  ·subst e; simp [hp, hfx]
  ·simp [e]
end
set_option maxRecDepth 100000 in
set_option maxHeartbeats 8000000 in
theorem pickN_any (K : Nat) (cap : Array Value) (P : List Nat → Bool) (b n : Nat) (f : List Nat → Option Value) (w : World) (hm : MapO w b n f) (hf : ∀ x v, f x = some v → ∃ tb kb A n c, v = .agg (ndC tb kb (.slice A n c))) (hn : n ≤ 1000)
  (hK : ∀ args w, (callFunc K args).run Tryz.prog w = .ok (.enter K args) w)
  (hP : ∀ x v w', Id32 x → f x = some v → Below w.heap.size w w' → Calls Tryz.prog K (#[.agg (u8s x), v] ++ cap) w' fun e w'' => e = .returned (.bool (P x)) ∧ Below w'.heap.size w' w'') :
  Calls Tryz.prog 112 #[.map (some b), .func (.func K) #[] cap] w (PickPost f P w) := by
 have HF := Lib.hid hf
 have HP := Lib.hid hP
 have HN := Lib.hid hn
 have HM := Lib.hid hm
 clear hm hf hn hP
 go_enter Tryz.func112, Tryz.ntmps112
 go_wp2_with (with_reducible (show wpList _ _ _ (Oper.mk _ (Op.range _ _) _ _ _ _ :: _) _ _); refine pause ?_)
 unfold Paused
 refine wpList_range_rngO w (by rfl) (.tmp 8) 158 191 (by rfl) Tryz.underlying158 b n f (by rfl) HM.out ?_
 intro w1 cnt0 hrg hg1 hs1
 have HW0 : Hid (PW w w1 b w.heap.size n cnt0 f P (fun x => (f x).isSome) cnt0 (w.heap.size + 1) (.slice none 0 0) []) := Lib.hid ⟨hrg, World.ownsRow_nil _ _ _ _, cl_grow (Below.refl _ _) hg1 (fun x hx => by cases hx), fun x hx => (by cases hx), fun x hx => ⟨fun h => (by cases h), fun h => (by have h1 := h.1; rw [h.2.1] at h1; cases h1)⟩, by simp, by have := HM.out.lt; omega⟩
 have HC0 : Hid (cnt0 ≤ 1000) := Lib.hid (by have := hrg.few; have := HN.out; omega)
 clear hrg hg1 hs1
 go_wp2_with fail
 go_frame
 go_loopw [5] (fun v wr => ∃ left cnt l, Hid (PW w wr b w.heap.size n cnt0 f P left cnt (w.heap.size + 1) v l)) (fun _ wr => wr.rangeLeft b w.heap.size)
 case atStart => exact ⟨_, _, _, HW0⟩
 case round =>
  obtain ⟨left, cnt, l, HW⟩ := hrel
  obtain ⟨Av, cv, hvv⟩ := cl_own_slice HW.out.own
  subst hvv
  obtain ⟨nl, hnl⟩ : ∃ n, n = l.length := ⟨_, rfl⟩
  rw [← hnl] at HW ⊢
  have HNL := Lib.hid hnl
  clear hnl
  go_wp2_with (with_reducible (show wpList _ _ _ (Oper.mk _ (Op.next _ _) _ _ _ _ :: _) _ _); refine pause ?_)
  unfold Paused
  refine wpList_next_rngO wr (by rfl) (.tmp 9) (by rfl) b w.heap.size n cnt f left (by rfl) HW.out.rg ?_ ?_
  ·intro hdone
   simp only [Act.put]
   have hmem : ∀ x, Id32 x → (x ∈ l ↔ ((f x).isSome = true ∧ P x = true)) := fun x hx => by rw [HW.out.mem x hx, hdone x hx]; simp
   have HMEM := Lib.hid hmem
   have CS := sort_any (.slice Av nl cv) l wr (by have h1 := HW.out.own; rw [HNL.out] at h1 ⊢; exact rdo_own h1 HW.out.ids) HW.out.ids (by have := HW.out.lim; have := HC0.out; omega)
   clear hdone hmem
   go_wp2_with (go_at_call 51; refine pause ?_)
   unfold Paused
   refine CS.mono ?_
   rintro e w5 ⟨r, hs⟩
   obtain ⟨b5, c5, rfl, hle, hlt5, hat5⟩ := hs.val
   have HFIN : Hid (PickPost f P w (.returned (.slice (some ⟨b5, 0, none⟩) r.length c5)) w5) := Lib.hid ⟨_, r, rfl, ⟨_, c5, rfl, hle, fun h0 => ⟨b5, 0, rfl, hlt5 h0, fun i hi => by rw [Nat.zero_add]; exact hat5 i hi⟩⟩, hs.oids, hs.rise, fun x hx => by rw [hs.mem x]; exact HMEM.out x hx, below_next HW.out.bel hs.bel⟩
   clear hs hle hlt5 hat5 CS
   go_wp2
   go_ret
   exact HFIN.out
  ·intro x vx w1 cnt1 hid hlx hfx hrg1 hc1 hg1 hs1 hen
   obtain ⟨tb, kb, A1, n1, c1, hvx⟩ := HF.out x vx hfx
   have HID := Lib.hid hid
   have HLX := Lib.hid hlx
   have HFX := Lib.hid hfx
   have HRG := Lib.hid hrg1
   have HCC := Lib.hid hc1
   have HCM := Lib.hid (HW.out.come hrg1 hg1 hs1)
   have HSK : Hid (P x = false → PW w w1 b w.heap.size n cnt0 f P (fun y => left y && !decide (y = x)) cnt1 (w.heap.size + 1) (.slice Av nl cv) l) := Lib.hid (fun hp => HW.out.skip hrg1 hc1 hg1 hs1 hp)
   have hcnt : wr.rangeLeft b w.heap.size = cnt := HW.out.rg.left_eq
   have HCNT := Lib.hid hcnt
   have HVX := Lib.hid hvx
   subst hvx
   have HBX := Lib.hid HCM.out.2.2.1
   clear hid hlx hfx hrg1 hc1 hg1 hs1 hcnt
   simp only [Act.put]
   go_wp2_with (with_reducible (show wpList _ _ _ (Oper.mk _ (Op.store 41 _ _) _ _ _ _ :: _) _ _); refine pause ?_)
   unfold Paused
   change wpList _ _ _ _ _ ((w1.alloc (.cells (u8s (List.replicate 32 0)) 41)).alloc (.cells #[.bool false, .int .i64 0, .slice none 0 0] 191))
   have z1 : (w1.alloc (.cells (u8s (List.replicate 32 0)) 41)).heap.size = w1.heap.size + 1 := by simp
   have hbO : Blk ((w1.alloc (.cells (u8s (List.replicate 32 0)) 41)).alloc (.cells #[.bool false, .int .i64 0, .slice none 0 0] 191)) w1.heap.size 41 (u8s (List.replicate 32 0)) := (Blk.new w1 _ _).alloc _
   have hbN : Blk ((w1.alloc (.cells (u8s (List.replicate 32 0)) 41)).alloc (.cells #[.bool false, .int .i64 0, .slice none 0 0] 191)) (w1.heap.size + 1) 191 #[.bool false, .int .i64 0, .slice none 0 0] := by
    have h := Blk.new (w1.alloc (.cells (u8s (List.replicate 32 0)) 41)) 191 #[.bool false, .int .i64 0, .slice none 0 0]
    rwa [z1] at h
   have b2 : Below w1.heap.size w1 ((w1.alloc (.cells (u8s (List.replicate 32 0)) 41)).alloc (.cells #[.bool false, .int .i64 0, .slice none 0 0] 191)) := ((Below.refl _ _).alloc (Nat.le_refl _) _).alloc (by rw [z1]; omega) _
   clear hen
   generalize (w1.alloc (.cells (u8s (List.replicate 32 0)) 41)).alloc (.cells #[.bool false, .int .i64 0, .slice none 0 0] 191) = w2 at hbO hbN b2 ⊢
   refine wpList_store_row (by rfl) 41 (.tmp 6) (.tmp 13) (by rfl) w1.heap.size (u8s x) (by rfl) (by rfl) 41 (u8s (List.replicate 32 0)) hbO (by rw [u8s_size, HID.out.1]; exact cl_oid_load) (by rw [u8s_size, u8s_size, HID.out.1]; rfl) (u8s_one _) ?_
   have hbO3 : Blk (w2.setRow w1.heap.size (u8s x)) w1.heap.size 41 (u8s x) := hbO.row _
   have hbN3 : Blk (w2.setRow w1.heap.size (u8s x)) (w1.heap.size + 1) 191 #[.bool false, .int .i64 0, .slice none 0 0] := hbN.farRow (by omega) _
   have b3 : Below w1.heap.size w1 (w2.setRow w1.heap.size (u8s x)) := below_row b2 (Nat.le_refl _) _
   clear hbO hbN b2
   generalize w2.setRow w1.heap.size (u8s x) = w3 at hbO3 hbN3 b3 ⊢
   simp only [Act.put]
   go_wp2_with (with_reducible (show wpList _ _ _ (Oper.mk _ (Op.store 191 _ _) _ _ _ _ :: _) _ _); refine pause ?_)
   unfold Paused
   refine wpList_store_row (by rfl) 191 (.tmp 7) (.tmp 14) (by rfl) (w1.heap.size + 1) (ndC tb kb (.slice A1 n1 c1)) (by rfl) (by rfl) 191 #[.bool false, .int .i64 0, .slice none 0 0] hbN3 (by exact nd_size) (by rfl) (nd_one _ _ _ _ _) ?_
   have HI4 : Hid (Blk (w3.setRow (w1.heap.size + 1) (ndC tb kb (.slice A1 n1 c1))) w1.heap.size 41 (u8s x)) := Lib.hid (hbO3.farRow (by omega) _)
   have HN4 : Hid (Blk (w3.setRow (w1.heap.size + 1) (ndC tb kb (.slice A1 n1 c1))) (w1.heap.size + 1) 191 (ndC tb kb (.slice A1 n1 c1))) := Lib.hid (hbN3.row _)
   have HB4 : Hid (Below w1.heap.size w1 (w3.setRow (w1.heap.size + 1) (ndC tb kb (.slice A1 n1 c1)))) := Lib.hid (below_row b3 (by omega) _)
   clear hbO3 hbN3 b3 z1
   generalize w3.setRow (w1.heap.size + 1) (ndC tb kb (.slice A1 n1 c1)) = w4 at HI4 HN4 HB4 ⊢
   simp only [Act.put]
   go_wp2_with (with_reducible (show wpList _ _ _ (Oper.mk _ (Op.load 41 _) _ _ _ _ :: _) _ _); refine pause ?_)
   unfold Paused
   refine wpList_row_w (by rfl) 41 (.tmp 6) (by rfl) w1.heap.size (by rfl) 41 (u8s x) _ HI4.out Tryz.underlying41 (by rfl) (by rw [u8s_size, HID.out.1]; exact cl_oid_load) ?_
   go_wp2_with (with_reducible (show wpList _ _ _ (Oper.mk _ (Op.load 191 _) _ _ _ _ :: _) _ _); refine pause ?_)
   unfold Paused
   refine wpList_row_w (by rfl) 191 (.tmp 7) (by rfl) (w1.heap.size + 1) (by rfl) 191 (ndC tb kb (.slice A1 n1 c1)) _ HN4.out Tryz.underlying191 (by rfl) (by exact nd_size) ?_
   have CP := HP.out x (.agg (ndC tb kb (.slice A1 n1 c1))) w4 HID.out HFX.out (below_next HBX.out HB4.out)
   generalize w1.heap.size = g1 at HI4 ⊢
   cases hpx : P x with
   | false =>
    rw [hpx] at CP
    have HPX := Lib.hid hpx
    clear hpx
    go_wp2_with (with_reducible (refine CP.mono ?_); refine pause ?_)
    unfold Paused
    rintro e w6 ⟨rfl, hb6⟩
    have HN6 := Lib.hid ((HSK.out HPX.out).below (below_then HB4.out hb6))
    clear hb6 CP
    go_wp2
    go_roundw
    case rel => exact ⟨_, _, _, HN6⟩
    case measure => rw [HN6.out.rg.left_eq, HCNT.out]; exact HCC.out
   | true =>
    rw [hpx] at CP
    have HPX := Lib.hid hpx
    clear hpx
    go_wp2_with (with_reducible (refine CP.mono ?_); refine pause ?_)
    unfold Paused
    rintro e w6 ⟨rfl, hb6⟩
    have HB6 := Lib.hid (below_then HB4.out hb6)
    have HI6 := Lib.hid (HI4.out.below hb6 HI4.out.lt)
    clear hb6 CP
    obtain ⟨ip, hip, hpz, hps, hpb⟩ := info_parts ioid_info
    go_wp2_with (with_reducible (show wpList _ _ _ (Oper.mk _ (Op.load 41 _) _ _ _ _ :: _) _ _); refine pause ?_)
    unfold Paused
    refine wpList_row_w (by rfl) 41 (.tmp 6) (by rfl) g1 (by rfl) 41 (u8s x) _ HI6.out Tryz.underlying41 (by rfl) (by rw [u8s_size, HID.out.1]; exact cl_oid_load) ?_
    go_wp2_with (with_reducible (show wpList _ _ _ (Oper.mk _ (Op.buildSlice _ _ _) _ _ _ _ :: _) _ _); refine pause ?_)
    unfold Paused
    refine wpList_buildSliceK (by rfl) 106 41 1 _ (by rfl) (cellsB x).toArray ip (.agg (cellsB (List.replicate 32 0)).toArray) Tryz.underlying106 hip hpz (by rw [hps]; decide) (by rw [hps]; decide) _ (by kernel_rfl) (by rw [hps]; exact fill_one 32 (Value.agg (cellsB (List.replicate 32 0)).toArray).cells _ (cellsP1_len HID.out) (by rfl)) ?_
    have b7 : Below w6.heap.size w6 (w6.alloc (.cells (cellsB x).toArray 41)) := (Below.refl _ _).alloc (Nat.le_refl _) _
    have HX7 := Lib.hid (Blk.new w6 41 (cellsB x).toArray)
    have HB7 := Lib.hid (below_then HB6.out b7)
    clear b7
    generalize w6.alloc (.cells (cellsB x).toArray 41) = w7 at HX7 HB7 ⊢
    generalize w6.heap.size = g7 at HX7 ⊢
    have HO7 : Hid (w7.ownsRow (w.heap.size + 1) 41 32 (.slice Av nl cv) l.length (cellsP l)) := Lib.hid (own_below HCM.out.2.1 HB7.out)
    have HO7n : Hid (w7.ownsRow (w.heap.size + 1) 41 32 (.slice Av nl cv) nl (cellsP l)) := Lib.hid (by rw [HNL.out]; have h1 := HO7.out; rw [HNL.out] at h1; exact h1)
    have HLM : Hid (nl ≤ 1000) := Lib.hid (by have := HW.out.lim; have := HC0.out; have := HNL.out; omega)
    have HSZ : Hid (w.heap.size + 1 ≤ w7.heap.size) := Lib.hid (Nat.le_trans HCM.out.2.2.2 HB7.out.size)
    go_wp2_with (with_reducible (show wpList _ _ _ (Oper.mk _ (Op.call (Call.mk (Callee.builtin Builtin.append) _ _)) _ _ _ _ :: _) _ _); refine pause ?_)
    unfold Paused
    refine wpList_append_lies w7 (by rfl) (.tmp 19) (.tmp 21) 106 (by rfl) (w.heap.size + 1) 41 ip _ 32 32 Tryz.underlying106 hip hpz hps hpb (by rfl) (by decide) (.slice Av nl cv) nl (cellsP l) (by rfl) HO7n.out ⟨g7, 0, none⟩ 1 1 (cellsB x) (by rfl) (by rw [cellsP1_len HID.out]) (fun j u hj => by rw [Addr.add_mid, Nat.zero_add, HX7.out.cell j]; simpa using hj) (cellsB_one _) (by decide) (by have := HLM.out; unfold maxLen; omega) (by have := HLM.out; omega) HSZ.out w7.heap.size rfl ?_
    intro g8 c8 w8 ho8 hg8 hl8 _
    have HN8 : Hid (PW w w8 b w.heap.size n cnt0 f P (fun y => left y && !decide (y = x)) cnt1 (w.heap.size + 1) (.slice (some ⟨g8, 0, none⟩) (nl + 1) c8) (l ++ [x])) := Lib.hid (HW.out.put HID.out HLX.out HFX.out HCC.out HPX.out (HRG.out.below HB7.out) HO7.out (below_next HCM.out.2.2.1 HB7.out) (by rw [← HNL.out]; exact ho8) hg8 HSZ.out)
    clear ho8 hg8 hl8 hip hpz hps hpb
    simp only [Act.put]
    go_wp2
    go_roundw
    case rel => exact ⟨_, _, _, HN8⟩
    case measure => rw [HN8.out.rg.left_eq, HCNT.out]; exact HCC.out
end Go.Proofs.YtgcgomdhdgjpdaaGreatDoor
/- closure's five calls. -/
namespace Go.Proofs.YtgcgomdhdgjpdaaGreatDoor
open Go Go.RowKit
structure Nds (objs roots : List (List Nat)) (w : World) (ma : Nat) (ns : List Cl.Nd) : Prop where
 mp : MapO w ma ns.length (fun id => (Cl.at_ ns id).map (Cl.ndV objs))
 lk : ∀ p ∈ ns, ∃ B, w.ownsRow B 41 32 p.val (Cl.lks objs p.id).length (cellsP (Cl.lks objs p.id))
 ids : ∀ p ∈ ns, Id32 p.id
 rch : ∀ x, x ∈ ns.map (·.id) ↔ Cl.Rch objs roots x
 few : ns.length ≤ 1000
theorem Nds.below {objs roots : List (List Nat)} {w w' : World} {ma : Nat} {ns : List Cl.Nd} (h : Nds objs roots w ma ns) (hb : Below w.heap.size w w') : Nds objs roots w' ma ns :=
 ⟨h.mp.below hb, fun p hp => by obtain ⟨B, hB⟩ := h.lk p hp; exact ⟨B, own_below hB hb⟩, h.ids, h.rch, h.few⟩
theorem Nds.val {objs roots : List (List Nat)} {w : World} {ma : Nat} {ns : List Cl.Nd} (h : Nds objs roots w ma ns) {x : List Nat} {v : Value} (hv : (Cl.at_ ns x).map (Cl.ndV objs) = some v) : ∃ A c, v = .agg (ndC (Cl.the objs x) (Cl.knd objs x) (.slice A (Cl.lks objs x).length c)) ∧ RdK w (.slice A (Cl.lks objs x).length c) (Cl.lks objs x).length (cellsP (Cl.lks objs x)) ∧ Cl.Rch objs roots x := by
 obtain ⟨p, hp, rfl⟩ := Option.map_eq_some_iff.1 hv
 obtain ⟨h1, h2⟩ := Cl.at_mem hp
 obtain ⟨B, hB⟩ := h.lk p h1
 obtain ⟨A, c, hpv⟩ := cl_own_slice hB
 subst h2
 refine ⟨A, c, by unfold Cl.ndV; rw [hpv], by rw [← hpv]; exact rdk_own hB, (h.rch _).1 (List.mem_map.2 ⟨p, h1, rfl⟩)⟩
theorem Nds.isSome {objs roots : List (List Nat)} {w : World} {ma : Nat} {ns : List Cl.Nd} (h : Nds objs roots w ma ns) (x : List Nat) : ((Cl.at_ ns x).map (Cl.ndV objs)).isSome = true ↔ Cl.Rch objs roots x := by
 rw [Option.isSome_map, Cl.at_iff]
 exact h.rch x
def SetPost (Q : List Nat → Prop) (w : World) (e : Ending) (w' : World) : Prop :=
 ∃ v r, e = .returned v ∧ RdO w' v r ∧ (∀ x ∈ r, Id32 x) ∧ Sha.Rising r ∧ (∀ x, Id32 x → (x ∈ r ↔ Q x)) ∧ Below w.heap.size w w'
theorem SetPost.of {f : List Nat → Option Value} {P : List Nat → Bool} {Q : List Nat → Prop} {w0 w w' : World} {e : Ending} (h : PickPost f P w e w') (hq : ∀ x, Id32 x → (((f x).isSome = true ∧ P x = true) ↔ Q x)) (hb : Below w0.heap.size w0 w) : SetPost Q w0 e w' := by
 obtain ⟨v, r, h1, h2, h3, h4, h5, h6⟩ := h
 exact ⟨v, r, h1, h2, h3, h4, fun x hx => by rw [h5 x hx]; exact hq x hx, below_next hb h6⟩
theorem mis1_any (x : List Nat) (tb : Bool) (kb : Int) (A : Option Addr) (n c : Nat) (w : World) :
  Calls Tryz.prog 113 #[.agg (u8s x), .agg (ndC tb kb (.slice A n c))] w fun e w' => e = .returned (.bool (!tb)) ∧ Below w.heap.size w w' := by
 have z1 : (w.alloc (.cells (u8s x) 41)).heap.size = w.heap.size + 1 := by simp
 have p0 : ((w.alloc (.cells (u8s x) 41)).alloc (.cells #[.bool tb, .int .i64 kb, .slice A n c] 191)).cell? ⟨w.heap.size + 1, 0, none⟩ = some (.bool tb) := by
  have h := Blk.new (w.alloc (.cells (u8s x) 41)) 191 #[.bool tb, .int .i64 kb, .slice A n c]
  rw [z1] at h
  exact h.cell 0
 have HB : Hid (Below w.heap.size w ((w.alloc (.cells (u8s x) 41)).alloc (.cells #[.bool tb, .int .i64 kb, .slice A n c] 191))) := Lib.hid (((Below.refl _ _).alloc (Nat.le_refl _) _).alloc (by rw [z1]; omega) _)
 unfold ndC
 clear z1
 go_enter Tryz.func113, Tryz.ntmps113
 go_wp2
 go_ret
 exact ⟨rfl, HB.out⟩
theorem kind3_links {objs : List (List Nat)} {x : List Nat} (h : Cl.knd objs x = 3) : 0 < (Cl.lks objs x).length := by
 unfold Cl.knd at h
 unfold Cl.lks
 cases ho : Cl.obAt objs x with
 | none => rw [ho] at h; cases h
 | some o =>
  rw [ho] at h
  simp only at h
  have ha : aimsB o.kind = true := by rw [h]; rfl
  show 0 < o.links.length
  unfold Ob.links
  rw [ha]
  simp
  omega
theorem cl_takes_mid {P : Program} {ops : Array Oper} {S : World → Prop} {o : Oper} {a : Act} (ty : TypeId) (x : Operand) (ho : o.op = .load ty x) (hw : Region.wanted o (yielded ops a.tmps) = true)
  (b off : Nat) (hx : a.eval x = .pointer (some ⟨b, off, none⟩)) (cs : List Value) (d : TypeDesc) (hc : ∀ w, S w → w.rangeAt b off cs)
  (hu : P.underlying ty = some d) (hd : d.isRow = true) (hi : (P.info? ty).map (·.size) = some cs.length) : YieldsIf P ops S o (.agg cs.toArray) a :=
 Or.inl ⟨hw, fun w h => by
  unfold execOp
  simp only [ho, hx, Sem.run_bind, Sem.run_pure, run_loadAt_mid w b off ty cs d (hc w h) hu hd hi, Result.andThen_ok]⟩
noncomputable def Cl.wrg (objs : List (List Nat)) (x : List Nat) : Bool := decide (Cl.knd objs x = 3) && (Cl.the objs ((Cl.lks objs x).getD 0 []) && !decide (Cl.knd objs ((Cl.lks objs x).getD 0 []) = 2))
set_option maxRecDepth 100000 in
set_option maxHeartbeats 4000000 in
theorem wrg1_any {objs roots : List (List Nat)} {w : World} {ma bR : Nat} {ns : List Cl.Nd} (h : Nds objs roots w ma ns) (hR : Blk w bR 159 #[.map (some ma)]) (x : List Nat) (v : Value) (_hx : Id32 x) (hv : (Cl.at_ ns x).map (Cl.ndV objs) = some v) (hl : ∀ y ∈ Cl.lks objs x, Id32 y) :
  Calls Tryz.prog 114 #[.agg (u8s x), v, .pointer (some ⟨bR, 0, none⟩)] w fun e w' => e = .returned (.bool (Cl.wrg objs x)) ∧ Below w.heap.size w w' := by
 obtain ⟨A, c, rfl, hrk, hrch⟩ := h.val hv
 obtain ⟨w2, hw2⟩ : ∃ w2, w2 = (w.alloc (.cells (u8s x) 41)).alloc (.cells #[.bool (Cl.the objs x), .int .i64 (Cl.knd objs x), .slice A (Cl.lks objs x).length c] 191) := ⟨_, rfl⟩
 have z1 : (w.alloc (.cells (u8s x) 41)).heap.size = w.heap.size + 1 := by simp
 have b2 : Below w.heap.size w w2 := hw2 ▸ ((Below.refl _ _).alloc (Nat.le_refl _) _).alloc (by rw [z1]; omega) _
 have hN : Blk w2 (w.heap.size + 1) 191 #[.bool (Cl.the objs x), .int .i64 (Cl.knd objs x), .slice A (Cl.lks objs x).length c] := by
  rw [hw2]
  have h := Blk.new (w.alloc (.cells (u8s x) 41)) 191 #[.bool (Cl.the objs x), .int .i64 (Cl.knd objs x), .slice A (Cl.lks objs x).length c]
  rwa [z1] at h
 have p1 : w2.cell? ⟨w.heap.size + 1, 1, none⟩ = some (.int .i64 (Cl.knd objs x)) := hN.cell 1
 have p2 : w2.cell? ⟨w.heap.size + 1, 2, none⟩ = some (.slice A (Cl.lks objs x).length c) := hN.cell 2
 have pR : w2.cell? ⟨bR, 0, none⟩ = some (.map (some ma)) := (hR.below b2 hR.lt).cell 0
 have HB2 := Lib.hid b2
 have e2 := hw2.symm
 by_cases hk : Cl.knd objs x = 3
 ·have hpos := kind3_links hk
  obtain ⟨A', c', hv', _, hA'⟩ := hrk.below b2 (Nat.le_refl _)
  injection hv' with f1 f2 f3
  obtain ⟨b, o, hAb, hbl, hxx⟩ := hA' hpos
  rw [← f1] at hAb
  subst hAb
  obtain ⟨y, hy⟩ : ∃ y, (Cl.lks objs x).getD 0 [] = y := ⟨_, rfl⟩
  have hym : y ∈ Cl.lks objs x := by rw [← hy, List.getD_eq_getElem?_getD, List.getElem?_eq_getElem hpos]; exact List.getElem_mem hpos
  have HIY := Lib.hid (hl y hym)
  have HRG : Hid (w2.drew.rangeAt b o (cellsB y)) := Lib.hid (fun j u hu => by
   have h1 := hxx (0 * 32 + j) u (cellsP_at hl hpos (by rw [hy]; exact hu))
   rw [Nat.zero_mul, Nat.zero_add] at h1
   exact h1)
  have hry : Cl.Rch objs roots y := Cl.Rch.link hrch hym
  obtain ⟨q, hq⟩ := Option.isSome_iff_exists.1 ((h.isSome y).2 hry)
  obtain ⟨A3, c3, rfl, _, _⟩ := h.val hq
  have q6' : ∀ w', Below w2.drew.heap.size w2.drew w' → (Instr.lookup 159 (.map (some ma)) (.agg (cellsB y).toArray) false).run Tryz.prog w' = .ok (.agg (ndC (Cl.the objs y) (Cl.knd objs y) (.slice A3 (Cl.lks objs y).length c3))) w' := fun w' hw => by
   have h6 := ((h.mp.below (w' := w2.drew) (below_drewN b2 1)).below hw).look Tryz.underlying159 (nd_zero w') HIY.out
   rw [hq] at h6
   simp only [Option.getD_some] at h6
   exact h6
  have HW : Hid (Cl.wrg objs x = (Cl.the objs y && !decide (Cl.knd objs y = 2))) := Lib.hid (by unfold Cl.wrg; rw [hy, hk]; simp)
  have CW : ∀ w, Calls Tryz.prog 115 #[.int .i64 3] w fun e w' => e = .returned (.int .i64 2) ∧ w = w' := fun w => wanted_any 3 w
  rw [hk] at p1 hw2 e2 hN ⊢
  have g0 : (0 : Int) < ((Cl.lks objs x).length : Int) := by omega
  have g0n : 0 < (Cl.lks objs x).length := hpos
  generalize Cl.the objs y = tb at q6' HW
  generalize hkb : Cl.knd objs y = kb at q6' HW
  generalize (Cl.lks objs y).length = ny at q6'
  have HLR : Hid (bR < w2.drew.heap.size) := Lib.hid (Nat.lt_of_lt_of_le hR.lt b2.size)
  have HLN : Hid (w.heap.size + 1 < w2.drew.heap.size) := Lib.hid hN.lt
  have HLB : Hid (b < w2.drew.heap.size) := Lib.hid hbl
  generalize (Cl.lks objs x).length = nx at p2 e2 g0 g0n ⊢
  generalize Cl.the objs x = tx at e2 ⊢
  unfold ndC
  clear h hR hv hl hrk hrch hw2 z1 b2 hN hpos hA' f1 f2 f3 hxx hbl hy hym hry hq hkb hk
  have HQ6 := Lib.hid q6'
  clear q6'
  have HT : Hid (∀ z : Bool, (if tb then (.bool z : Value) else .bool false) = .bool (tb && z)) := Lib.hid (fun z => by cases tb <;> rfl)
  go_enter Tryz.func114, Tryz.ntmps114
  go_wp2_with (go_at_call 115; refine pause ?_)
  unfold Paused
  refine (CW _).mono ?_
  rintro e w5 ⟨rfl, rfl⟩
  go_wp2_with fail
  try rw [e2]
  have HSX : Hid (Below w2.drew.heap.size w2.drew w2.drew) := Lib.hid (Below.refl _ _)
  refine wp_region_upto (S := fun w' => Below w2.drew.heap.size w2.drew w') (b := 7) (by kernel_rfl) ?_
  change Upto _ _ _ _ _ _ _ _ _ w2.drew
  refine Upto.take (i := 0) (v := ?_) rfl (by kernel_rfl) (by kernel_rfl) (by kernel_rfl) (by kernel_rfl) (fun _ _ _ h => h) (Or.inl ⟨by rfl, ?_⟩) HSX.out ?_
  rotate_left
  ·intro w' hS; have h0 : w'.cell? ⟨bR, 0, none⟩ = some (.map (some ma)) := (hS.cell (p := ⟨bR, 0, none⟩) HLR.out).trans pR; go_simp; with_reducible rfl
  try simp only [Act.put, List.getElem_toArray, List.getElem_cons_zero, List.setIfInBounds_toArray, List.set_cons_zero, List.set_cons_succ]
  refine Upto.takeY (i := 1) (v := ?_) rfl (by kernel_rfl) (by kernel_rfl) (by kernel_rfl) (by kernel_rfl) (fun _ _ _ h => h) (Or.inl ⟨by rfl, ?_⟩) (fun _ => HSX.out) ?_
  rotate_left
  ·intro w' _; go_simp; with_reducible rfl
  try simp only [Act.put, List.getElem_toArray, List.getElem_cons_zero, List.getElem_cons_succ, List.setIfInBounds_toArray, List.set_cons_zero, List.set_cons_succ]
  refine Upto.take (i := 2) (v := ?_) rfl (by kernel_rfl) (by kernel_rfl) (by kernel_rfl) (by kernel_rfl) (fun _ _ _ h => h) (Or.inl ⟨by rfl, ?_⟩) HSX.out ?_
  rotate_left
  ·intro w' hS; have h0 : w'.cell? ⟨w.heap.size + 1, 2, none⟩ = some (.slice (some ⟨b, o, none⟩) nx c) := (hS.cell (p := ⟨w.heap.size + 1, 2, none⟩) HLN.out).trans p2; go_simp; with_reducible rfl
  try simp only [Act.put, List.getElem_toArray, List.getElem_cons_zero, List.getElem_cons_succ, List.setIfInBounds_toArray, List.set_cons_zero, List.set_cons_succ]
  refine Upto.takeY (i := 3) (v := ?_) rfl (by kernel_rfl) (by kernel_rfl) (by kernel_rfl) (by kernel_rfl) (fun _ _ _ h => h) (Or.inl ⟨by rfl, ?_⟩) (fun _ => HSX.out) ?_
  rotate_left
  ·intro w' _; go_simp; with_reducible rfl
  try simp only [Act.put, List.getElem_toArray, List.getElem_cons_zero, List.getElem_cons_succ, List.setIfInBounds_toArray, List.set_cons_zero, List.set_cons_succ]
  refine Upto.take (i := 4) (v := .agg (cellsB y).toArray) rfl (by kernel_rfl) (by kernel_rfl) (by kernel_rfl) (by kernel_rfl) (fun _ _ _ h => h) (cl_takes_mid 41 (.tmp 16) rfl (by rfl) b o rfl (cellsB y) _ (fun w' hS j u hu => (hS.cell (p := ⟨b, o + j, none⟩) HLB.out).trans (HRG.out j u hu)) Tryz.underlying41 (by rfl) (by rw [cellsP1_len HIY.out]; exact cl_oid_load)) HSX.out ?_
  try simp only [Act.put, List.getElem_toArray, List.getElem_cons_zero, List.getElem_cons_succ, List.setIfInBounds_toArray, List.set_cons_zero, List.set_cons_succ]
  refine Upto.take (i := 5) (v := ?_) rfl (by kernel_rfl) (by kernel_rfl) (by kernel_rfl) (by kernel_rfl) (fun _ _ _ h => h) (Or.inl ⟨by rfl, ?_⟩) HSX.out ?_
  rotate_left
  ·intro w' hS; have h0 := HQ6.out w' hS; go_simp; with_reducible rfl
  try simp only [Act.put, List.getElem_toArray, List.getElem_cons_zero, List.getElem_cons_succ, List.setIfInBounds_toArray, List.set_cons_zero, List.set_cons_succ]
  refine Upto.one (i := 6) (by kernel_rfl) rfl (by rfl) (fun K hK => ?_)
  go_simp
  refine hK _ _ (fun _ _ => (Below.refl _ _).alloc (Nat.le_refl _) _) ?_
  try simp only [Act.put, List.getElem_toArray, List.getElem_cons_zero, List.getElem_cons_succ, List.setIfInBounds_toArray, List.set_cons_zero, List.set_cons_succ]
  refine Upto.one (i := 7) (by kernel_rfl) rfl (by rfl) (fun K hK => ?_)
  refine wp_store_row 191 (.tmp 7) (.tmp 18) (by rfl) w2.heap.size (ndC tb kb (.slice A3 ny c3)) (by rfl) (by rfl) 191 #[.bool false, .int .i64 0, .slice none 0 0] (Blk.new w2 _ _).drew (by exact nd_size) (by rfl) (nd_one _ _ _ _ _) ?_
  refine hK _ _ (fun h => absurd rfl h) ?_
  have HB5 : Hid (Below w.heap.size w ((w2.alloc (.cells #[.bool false, .int .i64 0, .slice none 0 0] 191)).drew.setRow w2.heap.size (ndC tb kb (.slice A3 ny c3)))) := Lib.hid (below_row (below_drewN (HB2.out.alloc HB2.out.size _) 1) HB2.out.size _)
  have hX5 : Blk ((w2.alloc (.cells #[.bool false, .int .i64 0, .slice none 0 0] 191)).drew.setRow w2.heap.size (ndC tb kb (.slice A3 ny c3))) w2.heap.size 191 (ndC tb kb (.slice A3 ny c3)) := (Blk.new w2 _ _).drew.row _
  clear p1 p2 pR e2
  generalize (w2.alloc (.cells #[.bool false, .int .i64 0, .slice none 0 0] 191)).drew.setRow w2.heap.size (ndC tb kb (.slice A3 ny c3)) = w5 at HB5 hX5 ⊢
  generalize w2.heap.size = g5 at hX5 ⊢
  try simp only [Act.put, List.getElem_toArray, List.getElem_cons_zero, List.getElem_cons_succ]
  refine Upto.done (by kernel_rfl) ?_ _
  have s0 : w5.cell? ⟨g5, 0, none⟩ = some (.bool tb) := hX5.cell 0
  have s1 : w5.cell? ⟨g5, 1, none⟩ = some (.int .i64 kb) := hX5.cell 1
  try simp only [Act.put]
  cases tb with
  | false =>
   go_wp2
   go_ret
   exact ⟨by rw [HW.out]; rfl, HB5.out⟩
  | true =>
   by_cases hkb : kb = 2
   ·subst hkb
    go_wp2
    go_ret
    exact ⟨by rw [HW.out]; rfl, HB5.out⟩
   ·have g7 : (kb == 2) = false := by simp; exact hkb
    have g8 : (kb != 2) = true := by simp; exact hkb
    have HKB := Lib.hid hkb
    clear hkb
    go_wp2
    go_ret
    exact ⟨by rw [HW.out, decide_eq_false HKB.out]; rfl, HB5.out⟩
 ·have HW : Hid (Cl.wrg objs x = false) := Lib.hid (by unfold Cl.wrg; simp [hk])
  have CW : ∀ w, Calls Tryz.prog 115 #[.int .i64 (Cl.knd objs x)] w fun e w' => e = .returned (.int .i64 0) ∧ w = w' := fun w => by have h := wanted_any (Cl.knd objs x) w; rwa [if_neg hk] at h
  generalize (Cl.lks objs x).length = nx at p2 e2 ⊢
  generalize Cl.the objs x = tx at e2 ⊢
  generalize Cl.knd objs x = kx at e2 p1 CW ⊢
  unfold ndC
  clear h hR hv hl hrk hrch hw2 z1 b2 hN hk
  go_enter Tryz.func114, Tryz.ntmps114
  go_wp2_with (go_at_call 115; refine pause ?_)
  unfold Paused
  refine (CW _).mono ?_
  rintro e w5 ⟨rfl, rfl⟩
  go_wp2
  go_ret
  exact ⟨by rw [HW.out]; rfl, HB2.out⟩
end Go.Proofs.YtgcgomdhdgjpdaaGreatDoor
