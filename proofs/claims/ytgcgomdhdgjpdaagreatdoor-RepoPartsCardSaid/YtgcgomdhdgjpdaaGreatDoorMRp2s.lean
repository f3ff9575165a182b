/- maps.Copy at a repository's two maps. -/
import Derived.Maps.RangeWalk
import Derived.Test.YtgcgomdhdgjpdaaGreatDoorMRp1s
import Derived.Test.YtgcgomdhdgjpdaaGreatDoorMZers
import Derived.Test.YtgcgomdhdgjpdaaGreatDoorMLawOpen3s
namespace Go.Proofs.YtgcgomdhdgjpdaaGreatDoor
open Go Go.RowKit Go.Maps
theorem mapS_ok {w : World} {b n : Nat} {f g : ByteArray → Option Value} (h : MapS w b n f) (e : ∀ i, okS i → f i = g i) : MapS w b n g := by
 obtain ⟨D, h1, h2⟩ := h
 exact ⟨D, h1, fun i hi => by rw [← e i hi]; exact h2 i hi⟩
theorem mapS_ext {w : World} {b n : Nat} {f g : ByteArray → Option Value} (h : MapS w b n f) (e : ∀ i, f i = g i) : MapS w b n g := by rwa [show f = g from funext e] at h
theorem mapO_ok {w : World} {b n : Nat} {f g : List Nat → Option Value} (h : MapO w b n f) (e : ∀ i, Id32 i → f i = g i) : MapO w b n g := h.ext e
theorem mapO_ext {w : World} {b n : Nat} {f g : List Nat → Option Value} (h : MapO w b n f) (e : ∀ i, f i = g i) : MapO w b n g := by rwa [show f = g from funext e] at h
theorem RngO.fewR {w : World} {b r n cnt : Nat} {f : List Nat → Option Value} {left : List Nat → Bool} (h : RngO w b r n f left cnt) : cnt ≤ n := by
 obtain ⟨D, lf, h1, _⟩ := h
 obtain ⟨es, clock, since, seen, c0, _, _, hs, _, _, _, hc, _⟩ := h1
 rw [← hc]
 refine Nat.le_trans ?_ hs
 unfold leftOf
 exact Array.size_filter_le
theorem wpList_range_rngSR {ops : Array Oper} {rest : List Oper} {o : Oper} {a : Act} {Q : Exit → Act → World → Prop} (w : World) (hg : o.guard = none) (m : Operand) (t e : TypeId) (hop : o.op = Op.range t m) (ht : Tryz.prog.underlying t = some (.map 9 e)) (b n : Nat) (f : ByteArray → Option Value) (hm : a.eval m = .map (some b)) (h : MapS w b n f)
  (hK : ∀ w' cnt, RngS w' b w.heap.size n f (fun x => (f x).isSome) cnt → w.grownBy w' none → w'.heap.size = w.heap.size + 1 → wpList Tryz.prog ops Q rest (a.put o.dst (.pointer (some ⟨w.heap.size, 0, none⟩))) w') : wpList Tryz.prog ops Q (o :: rest) a w := by
 refine wpList_plain hg fun K' hK' => ?_
 obtain ⟨w', cnt, hrun, r1, r2, r3⟩ := h.range ht
 unfold Oper.wp
 simp [execOp, hop, hm, hrun, Result.andThen]
 exact hK' _ _ (hK w' cnt r1 r2 r3)
theorem wpList_next_rngSR {ops : Array Oper} {rest : List Oper} {o : Oper} {a : Act} {Q : Exit → Act → World → Prop} (w : World) (hg : o.guard = none) (it : Operand) (hop : o.op = Op.next it false) (b r n cnt : Nat) (f : ByteArray → Option Value) (left : ByteArray → Bool) (hit : a.eval it = .pointer (some ⟨r, 0, none⟩)) (h : RngS w b r n f left cnt)
  (hDone : (∀ x, okS x → left x = false) → wpList Tryz.prog ops Q rest (a.put o.dst (.tuple #[.bool false])) w)
  (hMore : ∀ (x : ByteArray) (v : Value) (w' : World) (cnt' : Nat), okS x → left x = true → f x = some v → RngS w' b r n f (fun y => left y && !decide (y = x)) cnt' → cnt' < cnt → w.grownBy w' (some r) → w'.heap.size = w.heap.size → (Instr.entry (.pointer (some ⟨r, 0, none⟩))).run Tryz.prog w' = .ok (.tuple #[.string x, v]) w' → wpList Tryz.prog ops Q rest (a.put o.dst (.tuple #[.bool true, .string x, v])) w') : wpList Tryz.prog ops Q (o :: rest) a w := by
 refine wpList_plain hg fun K' hK' => ?_
 unfold Oper.wp
 rcases h.next o.type with ⟨_, hl, hrun⟩ | ⟨x, v, w', cnt', e1, e2, e3, hrun, e5, e6, e7, e8, e9⟩
 ·simp [execOp, hop, hit, hrun, Result.andThen]
  exact hK' _ _ (hDone hl)
 ·simp [execOp, hop, hit, hrun, Result.andThen]
  exact hK' _ _ (hMore x v w' cnt' e1 e2 e3 e5 e6 e7 e8 e9)
def SrcS (w : World) (v : Value) (n : Nat) (f : ByteArray → Option Value) : Prop := (v = .map none ∧ ∀ i, f i = none) ∨ ∃ b, v = .map (some b) ∧ MapS w b n f
theorem SrcS.below {w w' : World} {v : Value} {n : Nat} {f : ByteArray → Option Value} (h : SrcS w v n f) (hb : Below w.heap.size w w') : SrcS w' v n f := by
 rcases h with h | ⟨b, h1, h2⟩
 ·exact Or.inl h
 ·exact Or.inr ⟨b, h1, h2.below hb⟩
structure CqS (w wr : World) (bd b r n : Nat) (g f : ByteArray → Option Value) (left : ByteArray → Bool) (cnt N n' : Nat) : Prop where
 rg : RngS wr b r n f left cnt
 map : MapS wr bd n' (fun i => if ((f i).isSome && !left i) = true then f i else g i)
 lim : n' + cnt ≤ N
 grn : w.grownBy wr (some bd)
 ord : bd < w.heap.size ∧ b < w.heap.size ∧ r = w.heap.size ∧ b ≠ bd
theorem wpList_range_rngOR {ops : Array Oper} {rest : List Oper} {o : Oper} {a : Act} {Q : Exit → Act → World → Prop} (w : World) (hg : o.guard = none) (m : Operand) (t e : TypeId) (hop : o.op = Op.range t m) (ht : Tryz.prog.underlying t = some (.map 41 e)) (b n : Nat) (f : List Nat → Option Value) (hm : a.eval m = .map (some b)) (h : MapO w b n f)
  (hK : ∀ w' cnt, RngO w' b w.heap.size n f (fun x => (f x).isSome) cnt → w.grownBy w' none → w'.heap.size = w.heap.size + 1 → wpList Tryz.prog ops Q rest (a.put o.dst (.pointer (some ⟨w.heap.size, 0, none⟩))) w') : wpList Tryz.prog ops Q (o :: rest) a w := by
 refine wpList_plain hg fun K' hK' => ?_
 obtain ⟨w', cnt, hrun, r1, r2, r3⟩ := h.range ht
 unfold Oper.wp
 simp [execOp, hop, hm, hrun, Result.andThen]
 exact hK' _ _ (hK w' cnt r1 r2 r3)
theorem wpList_next_rngOR {ops : Array Oper} {rest : List Oper} {o : Oper} {a : Act} {Q : Exit → Act → World → Prop} (w : World) (hg : o.guard = none) (it : Operand) (hop : o.op = Op.next it false) (b r n cnt : Nat) (f : List Nat → Option Value) (left : List Nat → Bool) (hit : a.eval it = .pointer (some ⟨r, 0, none⟩)) (h : RngO w b r n f left cnt)
  (hDone : (∀ x, Id32 x → left x = false) → wpList Tryz.prog ops Q rest (a.put o.dst (.tuple #[.bool false])) w)
  (hMore : ∀ (x : List Nat) (v : Value) (w' : World) (cnt' : Nat), Id32 x → left x = true → f x = some v → RngO w' b r n f (fun y => left y && !decide (y = x)) cnt' → cnt' < cnt → w.grownBy w' (some r) → w'.heap.size = w.heap.size → (Instr.entry (.pointer (some ⟨r, 0, none⟩))).run Tryz.prog w' = .ok (.tuple #[.agg (u8s x), v]) w' → wpList Tryz.prog ops Q rest (a.put o.dst (.tuple #[.bool true, .agg (u8s x), v])) w') : wpList Tryz.prog ops Q (o :: rest) a w := by
 refine wpList_plain hg fun K' hK' => ?_
 unfold Oper.wp
 rcases h.next o.type with ⟨_, hl, hrun⟩ | ⟨x, v, w', cnt', e1, e2, e3, hrun, e5, e6, e7, e8, e9⟩
 ·simp [execOp, hop, hit, hrun, Result.andThen]
  exact hK' _ _ (hDone hl)
 ·simp [execOp, hop, hit, hrun, Result.andThen]
  exact hK' _ _ (hMore x v w' cnt' e1 e2 e3 e5 e6 e7 e8 e9)
def SrcO (w : World) (v : Value) (n : Nat) (f : List Nat → Option Value) : Prop := (v = .map none ∧ ∀ i, f i = none) ∨ ∃ b, v = .map (some b) ∧ MapO w b n f
theorem SrcO.below {w w' : World} {v : Value} {n : Nat} {f : List Nat → Option Value} (h : SrcO w v n f) (hb : Below w.heap.size w w') : SrcO w' v n f := by
 rcases h with h | ⟨b, h1, h2⟩
 ·exact Or.inl h
 ·exact Or.inr ⟨b, h1, h2.below hb⟩
structure CqO (w wr : World) (bd b r n : Nat) (g f : List Nat → Option Value) (left : List Nat → Bool) (cnt N n' : Nat) : Prop where
 rg : RngO wr b r n f left cnt
 map : MapO wr bd n' (fun i => if ((f i).isSome && !left i) = true then f i else g i)
 lim : n' + cnt ≤ N
 grn : w.grownBy wr (some bd)
 ord : bd < w.heap.size ∧ b < w.heap.size ∧ r = w.heap.size ∧ b ≠ bd
section
variable {w wr w' : World} {bd b r n cnt cnt' N n' : Nat} {g f : ByteArray → Option Value} {left : ByteArray → Bool} {x : ByteArray}
structure CmS (w wr : World) (bd b r n : Nat) (g f : ByteArray → Option Value) (left : ByteArray → Bool) (x : ByteArray) (cnt cnt' N n' : Nat) : Prop where
 rg : RngS wr b r n f (fun y => left y && !decide (y = x)) cnt'
 map : MapS wr bd n' (fun i => if ((f i).isSome && !left i) = true then f i else g i)
 cn : cnt' < cnt
 lim : n' + cnt ≤ N
 grn : w.grownBy wr (some bd)
 ord : bd < w.heap.size ∧ b < w.heap.size ∧ r = w.heap.size ∧ b ≠ bd
theorem CqS.come (h : CqS w wr bd b r n g f left cnt N n') (hrg : RngS w' b r n f (fun y => left y && !decide (y = x)) cnt') (hc : cnt' < cnt) (hg : wr.grownBy w' (some r)) : CmS w w' bd b r n g f left x cnt cnt' N n' :=
 ⟨hrg, h.map.kept hg (fun e => by injection e with e; have := h.ord; omega), hc, h.lim, ⟨hg.os.trans h.grn.os, hg.tape.trans h.grn.tape, hg.output.trans h.grn.output, Nat.le_trans h.grn.size hg.size, fun k hk hne => (hg.block k (Nat.lt_of_lt_of_le hk h.grn.size) (fun e => by injection e with e; have := h.ord; omega)).trans (h.grn.block k hk hne)⟩, h.ord⟩
theorem CmS.below' (h : CmS w wr bd b r n g f left x cnt cnt' N n') (hb : Below wr.heap.size wr w') : CmS w w' bd b r n g f left x cnt cnt' N n' :=
 ⟨h.rg.below hb, h.map.below hb, h.cn, h.lim, ⟨hb.os.trans h.grn.os, hb.tape.trans h.grn.tape, hb.output.trans h.grn.output, Nat.le_trans h.grn.size hb.size, fun k hk hne => (hb.block k (Nat.lt_of_lt_of_le hk h.grn.size)).trans (h.grn.block k hk hne)⟩, h.ord⟩
theorem CmS.put (h : CmS w wr bd b r n g f left x cnt cnt' N n') {v : Value} (hf : f x = some v) (hm : MapS w' bd (n' + 1) (updS (fun i => if ((f i).isSome && !left i) = true then f i else g i) x (some v))) (hg : wr.grownBy w' (some bd)) : CqS w w' bd b r n g f (fun y => left y && !decide (y = x)) cnt' N (n' + 1) := by
 refine ⟨h.rg.kept hg (fun e => by injection e with e; exact h.ord.2.2.2 e) (fun e => by injection e with e; have := h.ord; omega), ?_, by have := h.lim; have := h.cn; omega, ⟨hg.os.trans h.grn.os, hg.tape.trans h.grn.tape, hg.output.trans h.grn.output, Nat.le_trans h.grn.size hg.size, fun k hk hne => (hg.block k (Nat.lt_of_lt_of_le hk h.grn.size) hne).trans (h.grn.block k hk hne)⟩, h.ord⟩
 refine mapS_ext hm fun i => ?_
 unfold updS
 by_cases e : i = x
 ·subst e
  rw [if_pos rfl]
  simp [hf]
 ·rw [if_neg e]
  simp [e]
theorem CmS.all (h : CmS w wr bd b r n g f left x cnt cnt' N n') : MapS wr bd n' (fun i => if ((f i).isSome && !left i) = true then f i else g i) ∧ cnt' < cnt ∧ n' + cnt ≤ N ∧ ∀ v, f x = some v → ∀ w', MapS w' bd (n' + 1) (updS (fun i => if ((f i).isSome && !left i) = true then f i else g i) x (some v)) → wr.grownBy w' (some bd) → CqS w w' bd b r n g f (fun y => left y && !decide (y = x)) cnt' N (n' + 1) :=
 ⟨h.map, h.cn, h.lim, fun _ hf _ hm hg => h.put hf hm hg⟩
end
set_option maxRecDepth 100000 in
set_option maxHeartbeats 4000000 in
theorem copyS_any (bd nd n : Nat) (v : Value) (g f : ByteArray → Option Value) (w : World) (hd : MapS w bd nd g) (hs : SrcS w v n f) (hne : v ≠ .map (some bd)) (hv : ∀ x v, f x = some v → ∃ id, Id32 id ∧ v = .agg (u8s id)) (hr : nd + n ≤ 100000) :
  Calls Tryz.prog 40 #[.map (some bd), v] w fun e w' => e = .returned (.tuple #[]) ∧ (∃ n', MapS w' bd n' (fun i => if (f i).isSome = true then f i else g i) ∧ n' ≤ nd + n) ∧ w.grownBy w' (some bd) := by
 rcases hs with ⟨rfl, hf⟩ | ⟨b, rfl, hs⟩
 ·have hrg := run_range_nilMap (P := Tryz.prog) w 62 _ _ Tryz.underlying62
  have hnx : ∀ ty, (Instr.next (.pointer (some ⟨w.heap.size, 0, none⟩)) false ty).run Tryz.prog (w.alloc (.mapIter none 0 #[] 0)) = _ := fun ty => run_next_nilMap _ ty 0 0 #[]
  have HM : Hid (∃ n', MapS (w.alloc (.mapIter none 0 #[] 0)) bd n' (fun i => if (f i).isSome = true then f i else g i) ∧ n' ≤ nd + n) := Lib.hid ⟨nd, mapS_ext (hd.below ((Below.refl _ _).alloc (Nat.le_refl _) _)) (fun i => by rw [hf i]; rfl), by omega⟩
  have HG : Hid (w.grownBy (w.alloc (.mapIter none 0 #[] 0)) (some bd)) := Lib.hid (World.grownBy_alloc w _ _)
  clear hd hv hf
  go_enter Tryz.func40, Tryz.ntmps40
  go_wp2
  go_loopw [] (fun wr => wr = w.alloc (.mapIter none 0 #[] 0)) (fun _ => 0)
  case atStart => rfl
  case round =>
   subst hrel
   go_wp2
   go_end0
   exact ⟨rfl, HM.out, HG.out⟩
 have HV := Lib.hid hv
 have HM := Lib.hid hs
 have HR := Lib.hid hr
 have HD := Lib.hid hd
 have HNE : Hid (b ≠ bd) := Lib.hid (fun e => hne (by rw [e]))
 clear hv hs hr hd hne
 go_enter Tryz.func40, Tryz.ntmps40
 go_wp2_with (with_reducible (show wpList _ _ _ (Oper.mk _ (Op.range _ _) _ _ _ _ :: _) _ _); refine pause ?_)
 unfold Paused
 refine wpList_range_rngSR w (by rfl) (.tmp 6) 62 _ (by rfl) Tryz.underlying62 b n f (by rfl) HM.out ?_
 intro w1 cnt0 hrg hg1 hs1
 have HC0 : Hid (CqS w w1 bd b w.heap.size n g f (fun x => (f x).isSome) cnt0 (nd + cnt0) nd) := Lib.hid ⟨hrg, mapS_ext (HD.out.kept hg1 (by simp)) (fun i => by cases (f i).isSome <;> simp), Nat.le_refl _, ⟨hg1.os, hg1.tape, hg1.output, hg1.size, fun k hk _ => hg1.block k hk (by simp)⟩, HD.out.lt, HM.out.lt, rfl, HNE.out⟩
 have HF : Hid (cnt0 ≤ n) := Lib.hid hrg.few
 clear hrg hg1 hs1 HD HM
 go_wp2_with fail
 go_frame
 go_loopw [] (fun wr => ∃ left cnt n', Hid (CqS w wr bd b w.heap.size n g f left cnt (nd + cnt0) n')) (fun wr => wr.rangeLeft b w.heap.size)
 case atStart => exact ⟨_, _, _, HC0⟩
 case round =>
  obtain ⟨left, cnt, n', HC⟩ := hrel
  have HL0 : Hid (wr.rangeLeft b w.heap.size = cnt) := Lib.hid HC.out.rg.left_eq
  clear HC0
  clear w1
  go_wp2_with (with_reducible (show wpList _ _ _ (Oper.mk _ (Op.next _ _) _ _ _ _ :: _) _ _); refine pause ?_)
  unfold Paused
  refine wpList_next_rngSR wr (by rfl) (.tmp 7) (by rfl) b w.heap.size n cnt f left (by rfl) HC.out.rg ?_ ?_
  ·intro hdone
   simp only [Act.put]
   have HFIN : Hid (∃ n', MapS wr bd n' (fun i => if (f i).isSome = true then f i else g i) ∧ n' ≤ nd + n) := Lib.hid ⟨n', mapS_ok HC.out.map (fun i hi => by rw [hdone i hi]; simp), by have := HC.out.lim; have := HF.out; omega⟩
   have HG := Lib.hid HC.out.grn
   clear hdone HC HL0
   go_wp2
   go_end0
   exact ⟨rfl, HFIN.out, HG.out⟩
  intro x v w1 cnt' hid hlx hfx hrg1 hc1 hg1 hs1 hen
  obtain ⟨id, hidd, hvx⟩ := HV.out x v hfx
  subst hvx
  have HI := Lib.hid hidd
  have HX := Lib.hid hid
  have HFX := Lib.hid hfx
  have HLX := Lib.hid hlx
  have HRG := Lib.hid hrg1
  have HC1 := Lib.hid hc1
  have HG1 := Lib.hid hg1
  clear hid hlx hfx hrg1 hc1 hg1 hs1 hidd
  simp only [Act.put]
  go_wp2_with (with_reducible (show wpList _ _ _ (Oper.mk _ (Op.store 41 _ _) _ _ _ _ :: _) _ _); refine pause ?_)
  unfold Paused
  change wpList _ _ _ _ _ (w1.alloc (.cells (u8s (List.replicate 32 0)) 41))
  refine wpList_store_row (by rfl) 41 (.tmp 5) (.tmp 12) (by rfl) w1.heap.size (u8s id) (by rfl) (by rfl) 41 (u8s (List.replicate 32 0)) (Blk.new w1 _ _) (by rw [u8s_size, HI.out.1]; exact cl_oid_load) (by rw [u8s_size, u8s_size, HI.out.1]; rfl) (u8s_one _) ?_
  have b3 : Below w1.heap.size w1 ((w1.alloc (.cells (u8s (List.replicate 32 0)) 41)).setRow w1.heap.size (u8s id)) := below_row ((Below.refl _ _).alloc (Nat.le_refl _) _) (Nat.le_refl _) _
  have HB3 : Hid (Blk ((w1.alloc (.cells (u8s (List.replicate 32 0)) 41)).setRow w1.heap.size (u8s id)) w1.heap.size 41 (u8s id)) := Lib.hid ((Blk.new w1 _ _).row _)
  have HCm := Lib.hid (((HC.out.come HRG.out HC1.out HG1.out).below' b3).all)
  clear hen b3 HC HRG HG1
  generalize (w1.alloc (.cells (u8s (List.replicate 32 0)) 41)).setRow w1.heap.size (u8s id) = w3 at HB3 HCm ⊢
  generalize w1.heap.size = g1 at HB3 ⊢
  clear w1
  simp only [Act.put]
  go_wp2_with (with_reducible (show wpList _ _ _ (Oper.mk _ (Op.load 41 _) _ _ _ _ :: _) _ _); refine pause ?_)
  unfold Paused
  refine wpList_row_w (by rfl) 41 (.tmp 5) (by rfl) g1 (by rfl) 41 (u8s id) _ HB3.out Tryz.underlying41 (by rfl) (by rw [u8s_size, HI.out.1]; exact cl_oid_load) ?_
  obtain ⟨w4, hrun, hm4, hg4⟩ := HCm.out.1.store (t := 62) (e := 41) Tryz.underlying62 (by have := HCm.out.2.2.1; have := HR.out; have := HF.out; unfold maxLen; omega) HX.out (.agg (u8s id))
  have HN4 := Lib.hid (HCm.out.2.2.2 _ HFX.out w4 hm4 hg4)
  have HCT := Lib.hid HCm.out.2.1
  clear hm4 hg4 HCm
  go_wp2
  go_roundw
  case rel => exact ⟨_, _, _, HN4⟩
  case measure => rw [HN4.out.rg.left_eq, HL0.out]; exact HCT.out
section
variable {w wr w' : World} {bd b r n cnt cnt' N n' : Nat} {g f : List Nat → Option Value} {left : List Nat → Bool} {x : List Nat}
structure CmO (w wr : World) (bd b r n : Nat) (g f : List Nat → Option Value) (left : List Nat → Bool) (x : List Nat) (cnt cnt' N n' : Nat) : Prop where
 rg : RngO wr b r n f (fun y => left y && !decide (y = x)) cnt'
 map : MapO wr bd n' (fun i => if ((f i).isSome && !left i) = true then f i else g i)
 cn : cnt' < cnt
 lim : n' + cnt ≤ N
 grn : w.grownBy wr (some bd)
 ord : bd < w.heap.size ∧ b < w.heap.size ∧ r = w.heap.size ∧ b ≠ bd
theorem CqO.come (h : CqO w wr bd b r n g f left cnt N n') (hrg : RngO w' b r n f (fun y => left y && !decide (y = x)) cnt') (hc : cnt' < cnt) (hg : wr.grownBy w' (some r)) : CmO w w' bd b r n g f left x cnt cnt' N n' :=
 ⟨hrg, h.map.kept hg (fun e => by injection e with e; have := h.ord; omega), hc, h.lim, ⟨hg.os.trans h.grn.os, hg.tape.trans h.grn.tape, hg.output.trans h.grn.output, Nat.le_trans h.grn.size hg.size, fun k hk hne => (hg.block k (Nat.lt_of_lt_of_le hk h.grn.size) (fun e => by injection e with e; have := h.ord; omega)).trans (h.grn.block k hk hne)⟩, h.ord⟩
theorem CmO.below' (h : CmO w wr bd b r n g f left x cnt cnt' N n') (hb : Below wr.heap.size wr w') : CmO w w' bd b r n g f left x cnt cnt' N n' :=
 ⟨h.rg.below hb, h.map.below hb, h.cn, h.lim, ⟨hb.os.trans h.grn.os, hb.tape.trans h.grn.tape, hb.output.trans h.grn.output, Nat.le_trans h.grn.size hb.size, fun k hk hne => (hb.block k (Nat.lt_of_lt_of_le hk h.grn.size)).trans (h.grn.block k hk hne)⟩, h.ord⟩
theorem CmO.put (h : CmO w wr bd b r n g f left x cnt cnt' N n') {v : Value} (hf : f x = some v) (hm : MapO w' bd (n' + 1) (updO (fun i => if ((f i).isSome && !left i) = true then f i else g i) x v)) (hg : wr.grownBy w' (some bd)) : CqO w w' bd b r n g f (fun y => left y && !decide (y = x)) cnt' N (n' + 1) := by
 refine ⟨h.rg.kept hg (fun e => by injection e with e; exact h.ord.2.2.2 e) (fun e => by injection e with e; have := h.ord; omega), ?_, by have := h.lim; have := h.cn; omega, ⟨hg.os.trans h.grn.os, hg.tape.trans h.grn.tape, hg.output.trans h.grn.output, Nat.le_trans h.grn.size hg.size, fun k hk hne => (hg.block k (Nat.lt_of_lt_of_le hk h.grn.size) hne).trans (h.grn.block k hk hne)⟩, h.ord⟩
 refine mapO_ext hm fun i => ?_
 unfold updO
 by_cases e : i = x
 ·subst e
  rw [if_pos rfl]
  simp [hf]
 ·rw [if_neg e]
  simp [e]
theorem CmO.all (h : CmO w wr bd b r n g f left x cnt cnt' N n') : MapO wr bd n' (fun i => if ((f i).isSome && !left i) = true then f i else g i) ∧ cnt' < cnt ∧ n' + cnt ≤ N ∧ ∀ v, f x = some v → ∀ w', MapO w' bd (n' + 1) (updO (fun i => if ((f i).isSome && !left i) = true then f i else g i) x v) → wr.grownBy w' (some bd) → CqO w w' bd b r n g f (fun y => left y && !decide (y = x)) cnt' N (n' + 1) :=
 ⟨h.map, h.cn, h.lim, fun _ hf _ hm hg => h.put hf hm hg⟩
end
set_option maxRecDepth 100000 in
set_option maxHeartbeats 4000000 in
theorem copyO_any (bd nd n : Nat) (v : Value) (g f : List Nat → Option Value) (w : World) (hd : MapO w bd nd g) (hs : SrcO w v n f) (hne : v ≠ .map (some bd)) (hv : ∀ x v, f x = some v → ∃ A n c, v = .slice A n c) (hr : nd + n ≤ 100000) :
  Calls Tryz.prog 41 #[.map (some bd), v] w fun e w' => e = .returned (.tuple #[]) ∧ (∃ n', MapO w' bd n' (fun i => if (f i).isSome = true then f i else g i) ∧ n' ≤ nd + n) ∧ w.grownBy w' (some bd) := by
 rcases hs with ⟨rfl, hf⟩ | ⟨b, rfl, hs⟩
 ·have hrg := run_range_nilMap (P := Tryz.prog) w 63 _ _ Tryz.underlying63
  have hnx : ∀ ty, (Instr.next (.pointer (some ⟨w.heap.size, 0, none⟩)) false ty).run Tryz.prog (w.alloc (.mapIter none 0 #[] 0)) = _ := fun ty => run_next_nilMap _ ty 0 0 #[]
  have HM : Hid (∃ n', MapO (w.alloc (.mapIter none 0 #[] 0)) bd n' (fun i => if (f i).isSome = true then f i else g i) ∧ n' ≤ nd + n) := Lib.hid ⟨nd, mapO_ext (hd.below ((Below.refl _ _).alloc (Nat.le_refl _) _)) (fun i => by rw [hf i]; rfl), by omega⟩
  have HG : Hid (w.grownBy (w.alloc (.mapIter none 0 #[] 0)) (some bd)) := Lib.hid (World.grownBy_alloc w _ _)
  clear hd hv hf
  go_enter Tryz.func41, Tryz.ntmps41
  go_wp2
  go_loopw [] (fun wr => wr = w.alloc (.mapIter none 0 #[] 0)) (fun _ => 0)
  case atStart => rfl
  case round =>
   subst hrel
   go_wp2
   go_end0
   exact ⟨rfl, HM.out, HG.out⟩
 have HV := Lib.hid hv
 have HM := Lib.hid hs
 have HR := Lib.hid hr
 have HD := Lib.hid hd
 have HNE : Hid (b ≠ bd) := Lib.hid (fun e => hne (by rw [e]))
 clear hv hs hr hd hne
 go_enter Tryz.func41, Tryz.ntmps41
 go_wp2_with (with_reducible (show wpList _ _ _ (Oper.mk _ (Op.range _ _) _ _ _ _ :: _) _ _); refine pause ?_)
 unfold Paused
 refine wpList_range_rngOR w (by rfl) (.tmp 6) 63 _ (by rfl) Tryz.underlying63 b n f (by rfl) HM.out ?_
 intro w1 cnt0 hrg hg1 hs1
 have HC0 : Hid (CqO w w1 bd b w.heap.size n g f (fun x => (f x).isSome) cnt0 (nd + cnt0) nd) := Lib.hid ⟨hrg, mapO_ext (HD.out.kept hg1 (by simp)) (fun i => by cases (f i).isSome <;> simp), Nat.le_refl _, ⟨hg1.os, hg1.tape, hg1.output, hg1.size, fun k hk _ => hg1.block k hk (by simp)⟩, HD.out.lt, HM.out.lt, rfl, HNE.out⟩
 have HF : Hid (cnt0 ≤ n) := Lib.hid hrg.fewR
 clear hrg hg1 hs1 HD HM
 go_wp2_with fail
 go_frame
 go_loopw [] (fun wr => ∃ left cnt n', Hid (CqO w wr bd b w.heap.size n g f left cnt (nd + cnt0) n')) (fun wr => wr.rangeLeft b w.heap.size)
 case atStart => exact ⟨_, _, _, HC0⟩
 case round =>
  obtain ⟨left, cnt, n', HC⟩ := hrel
  have HL0 : Hid (wr.rangeLeft b w.heap.size = cnt) := Lib.hid HC.out.rg.left_eq
  clear HC0
  clear w1
  go_wp2_with (with_reducible (show wpList _ _ _ (Oper.mk _ (Op.next _ _) _ _ _ _ :: _) _ _); refine pause ?_)
  unfold Paused
  refine wpList_next_rngOR wr (by rfl) (.tmp 7) (by rfl) b w.heap.size n cnt f left (by rfl) HC.out.rg ?_ ?_
  ·intro hdone
   simp only [Act.put]
   have HFIN : Hid (∃ n', MapO wr bd n' (fun i => if (f i).isSome = true then f i else g i) ∧ n' ≤ nd + n) := Lib.hid ⟨n', mapO_ok HC.out.map (fun i hi => by rw [hdone i hi]; simp), by have := HC.out.lim; have := HF.out; omega⟩
   have HG := Lib.hid HC.out.grn
   clear hdone HC HL0
   go_wp2
   go_end0
   exact ⟨rfl, HFIN.out, HG.out⟩
  intro x v w1 cnt' hid hlx hfx hrg1 hc1 hg1 hs1 hen
  obtain ⟨Av, nv, cv, hvx⟩ := HV.out x v hfx
  subst hvx
  have HX := Lib.hid hid
  have HFX := Lib.hid hfx
  have HLX := Lib.hid hlx
  have HRG := Lib.hid hrg1
  have HC1 := Lib.hid hc1
  have HG1 := Lib.hid hg1
  clear hid hlx hfx hrg1 hc1 hg1 hs1
  simp only [Act.put]
  go_wp2_with (with_reducible (show wpList _ _ _ (Oper.mk _ (Op.store 41 _ _) _ _ _ _ :: _) _ _); refine pause ?_)
  unfold Paused
  change wpList _ _ _ _ _ (w1.alloc (.cells (u8s (List.replicate 32 0)) 41))
  refine wpList_store_row (by rfl) 41 (.tmp 4) (.tmp 11) (by rfl) w1.heap.size (u8s x) (by rfl) (by rfl) 41 (u8s (List.replicate 32 0)) (Blk.new w1 _ _) (by rw [u8s_size, HX.out.1]; exact cl_oid_load) (by rw [u8s_size, u8s_size, HX.out.1]; rfl) (u8s_one _) ?_
  have b3 : Below w1.heap.size w1 ((w1.alloc (.cells (u8s (List.replicate 32 0)) 41)).setRow w1.heap.size (u8s x)) := below_row ((Below.refl _ _).alloc (Nat.le_refl _) _) (Nat.le_refl _) _
  have HB3 : Hid (Blk ((w1.alloc (.cells (u8s (List.replicate 32 0)) 41)).setRow w1.heap.size (u8s x)) w1.heap.size 41 (u8s x)) := Lib.hid ((Blk.new w1 _ _).row _)
  have HCm := Lib.hid (((HC.out.come HRG.out HC1.out HG1.out).below' b3).all)
  clear hen b3 HC HRG HG1
  generalize (w1.alloc (.cells (u8s (List.replicate 32 0)) 41)).setRow w1.heap.size (u8s x) = w3 at HB3 HCm ⊢
  generalize w1.heap.size = g1 at HB3 ⊢
  clear w1
  simp only [Act.put]
  go_wp2_with (with_reducible (show wpList _ _ _ (Oper.mk _ (Op.load 41 _) _ _ _ _ :: _) _ _); refine pause ?_)
  unfold Paused
  refine wpList_row_w (by rfl) 41 (.tmp 4) (by rfl) g1 (by rfl) 41 (u8s x) _ HB3.out Tryz.underlying41 (by rfl) (by rw [u8s_size, HX.out.1]; exact cl_oid_load) ?_
  obtain ⟨w4, hrun, hm4, hg4⟩ := HCm.out.1.store (t := 63) (e := 46) Tryz.underlying63 (by have := HCm.out.2.2.1; have := HR.out; have := HF.out; unfold maxLen; omega) HX.out (.slice Av nv cv)
  have HN4 := Lib.hid (HCm.out.2.2.2 _ HFX.out w4 hm4 hg4)
  have HCT := Lib.hid HCm.out.2.1
  clear hm4 hg4 HCm
  go_wp2
  go_roundw
  case rel => exact ⟨_, _, _, HN4⟩
  case measure => rw [HN4.out.rg.left_eq, HL0.out]; exact HCT.out
end Go.Proofs.YtgcgomdhdgjpdaaGreatDoor
/- A repository's cells: what New, Seq, Has and Ref answer. -/
namespace Go.Proofs.YtgcgomdhdgjpdaaGreatDoor
open Go Go.RowKit Go.Maps
theorem SrcO.look_ok {w : World} {v z : Value} {n : Nat} {f : List Nat → Option Value} {x : List Nat} {t e : TypeId} (h : SrcO w v n f) (ht : Tryz.prog.underlying t = some (.map 41 e)) (hz : (zeroValue e).run Tryz.prog w = .ok z w) (hi : Id32 x) :
  (Instr.lookup t v (.agg (u8s x)) true).run Tryz.prog w = .ok (.tuple #[(f x).getD z, .bool (f x).isSome]) w := by
 rcases h with ⟨rfl, h0⟩ | ⟨b, rfl, h⟩
 ·rw [h0 x]
  simpa using Maps.look_nil (w := w) true oid_law ht hz (oid_key hi)
 ·exact h.look_ok ht hz hi
theorem SrcS.look {w : World} {v z : Value} {n : Nat} {f : ByteArray → Option Value} {i : ByteArray} {t e : TypeId} (h : SrcS w v n f) (ht : Tryz.prog.underlying t = some (.map 9 e)) (hz : (zeroValue e).run Tryz.prog w = .ok z w) (hi : okS i) :
  (Instr.lookup t v (.string i) false).run Tryz.prog w = .ok ((f i).getD z) w := by
 rcases h with ⟨rfl, h0⟩ | ⟨b, rfl, h⟩
 ·rw [h0 i]
  simpa using Maps.look_nil (w := w) false str_law ht hz (skey_of hi)
 ·exact h.look ht hz hi
def rpC (j : Value) (ls : List Nat) (rf ob : Value) : List Value := j :: (ls.map (fun (n : Nat) => Value.int .i64 (n : Int)) ++ [rf, ob])
structure RpM (w : World) (r : Nat) (j : Value) (ls : List Nat) (rf ob : Value) : Prop where
 blk : Blk w r 67 (rpC j ls rf ob).toArray
 len : ls.length = 8
section
variable {w w' : World} {r : Nat} {j rf ob : Value} {ls : List Nat}
theorem RpM.below (h : RpM w r j ls rf ob) {B : Nat} (hb : Below B w w') (hr : r < B) : RpM w' r j ls rf ob := ⟨h.blk.below hb hr, h.len⟩
theorem RpM.lt (h : RpM w r j ls rf ob) : r < w.heap.size := h.blk.lt
theorem RpM.at0 (h : RpM w r j ls rf ob) : w.cell? ⟨r, 0, none⟩ = some j := by rw [h.blk.cell]; rfl
theorem RpM.at_ (h : RpM w r j ls rf ob) {i : Nat} (hi : i < 8) : w.cell? ⟨r, 1 + i, none⟩ = some (.int .i64 ((ls.getD i 0 : Nat) : Int)) := by
 rw [h.blk.cell, Nat.add_comm]
 have h8 : i < ls.length := by rw [h.len]; exact hi
 rw [List.getElem?_toArray]
 unfold rpC
 rw [List.getElem?_cons_succ, List.getElem?_append_left (by rw [List.length_map]; exact h8), List.getElem?_map, List.getElem?_eq_getElem h8, List.getD_eq_getElem?_getD, List.getElem?_eq_getElem h8]
 rfl
theorem RpM.refs (h : RpM w r j ls rf ob) : w.cell? ⟨r, 9, none⟩ = some rf := by
 rw [h.blk.cell]
 have h8 := h.len
 simp [rpC, h8]
theorem RpM.objs (h : RpM w r j ls rf ob) : w.cell? ⟨r, 10, none⟩ = some ob := by
 rw [h.blk.cell]
 have h8 := h.len
 simp [rpC, h8]
end
set_option maxRecDepth 100000 in
theorem seq_any (r : Nat) (A : Option Addr) (n c : Nat) (ls : List Nat) (rf ob : Value) (w : World) (h : RpM w r (.slice A n c) ls rf ob) :
  Calls Tryz.prog 9 #[.pointer (some ⟨r, 0, none⟩)] w fun e w' => e = .returned (.int .i64 (n : Int)) ∧ w = w' := by
 have c0 := h.at0
 clear h
 go_enter Tryz.func9, Tryz.ntmps9
 go_wp2
 go_ret
 exact ⟨rfl, rfl⟩
theorem oid_zero (w : World) : (zeroValue 41).run Tryz.prog w = .ok (.agg (u8s (List.replicate 32 0))) w := by kernel_rfl
set_option maxRecDepth 100000 in
set_option maxHeartbeats 2000000 in
theorem has_any (r : Nat) (j rf ob : Value) (ls : List Nat) (n : Nat) (f : List Nat → Option Value) (id : List Nat) (w : World) (h : RpM w r j ls rf ob) (hs : SrcO w ob n f) (hid : Id32 id) :
  Calls Tryz.prog 13 #[.pointer (some ⟨r, 0, none⟩), .agg (u8s id)] w fun e w' => e = .returned (.bool (f id).isSome) ∧ Below w.heap.size w w' := by
 obtain ⟨w1, hw1⟩ : ∃ w1, w1 = w.alloc (.cells (u8s id) 41) := ⟨_, rfl⟩
 have b1 : Below w.heap.size w w1 := by rw [hw1]; exact (Below.refl _ w).alloc (Nat.le_refl _) _
 have hb : Blk w1 w.heap.size 41 (u8s id) := by rw [hw1]; exact Blk.new w _ _
 have c10 := (h.below b1 h.lt).objs
 have qL : ∀ m, (Instr.lookup 63 ob (.agg (u8s id)) true).run Tryz.prog (w1.drewN m) = .ok (.tuple #[(f id).getD (.slice none 0 0), .bool (f id).isSome]) (w1.drewN m) := fun m => (hs.below (below_drewN b1 m)).look_ok Tryz.underlying63 (cl_zero_bytes _) hid
 have hb' : ∀ m, Blk (w1.drewN m) w.heap.size 41 (u8s id) := fun m => hb
 have l1 : ∀ m, (Instr.loadAt 41 (.pointer (some ⟨w.heap.size, 0, none⟩))).run Tryz.prog (w1.drewN m) = .ok (.agg (u8s id)) (w1.drewN m) := fun m => by
  simp only [Instr.loadAt, Instr.sureAddr, Sem.run_bind, Sem.run_pure, Result.andThen_ok, run_loadVar_row (w1.drewN m) w.heap.size 41 41 (u8s id) (0, 0) _ (hb' m) Tryz.underlying41 rfl (by rw [u8s_size, hid.1]; exact cl_oid_load)]
 have B1 := Lib.hid b1
 clear hb hb' h hs hid b1
 generalize (f id).isSome = β at qL ⊢
 go_enter Tryz.func13, Tryz.ntmps13
 go_wp2_with fail
 rw [← hw1]
 clear hw1
 refine wp_region_quiet_lit (by kernel_rfl) (by kernel_rfl) ?_
 repeat (first
  | go_big_quiet_step (fail)
  | (go_big_quiet_want; refine quiet_load 41 (.tmp 3) rfl _ rfl _ (by rintro _ ⟨m, rfl⟩; exact l1 m) ?_; go_big_quiet_on; simp only [Act.put, List.setIfInBounds_toArray, List.set_cons_zero, List.set_cons_succ]))
 refine wpQuiet_nil ?_
 rintro _ ⟨nq, rfl⟩
 go_wp2
 go_ret
 exact ⟨rfl, below_drewN B1.out nq⟩
end Go.Proofs.YtgcgomdhdgjpdaaGreatDoor
