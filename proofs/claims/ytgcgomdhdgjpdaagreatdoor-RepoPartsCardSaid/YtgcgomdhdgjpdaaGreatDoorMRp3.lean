/- Iterators over a repository's two maps, each of which may be nil; the ids that they give, collected. -/
import Derived.Maps.RangeWalk
import Derived.Test.YtgcgomdhdgjpdaaGreatDoorMRp2s
import Derived.Test.YtgcgomdhdgjpdaaGreatDoorMOb18s
import Derived.RangeFuncBox
import Derived.RangeFuncLeaves
import Derived.RangeFuncNested
import Derived.Shelf.Abstract
import Derived.Sort.MapsRangeIn
import Derived.OwnWalkIn
import Derived.TacticsInMore
import Derived.LoopNIn
import Derived.LoopIn
namespace Go.Proofs.YtgcgomdhdgjpdaaGreatDoor
open Go Go.RowKit Go.Maps Go.Shelf
attribute [local go_sem] Oper.semAt_some
theorem wpListIn_row {F : Fence} {m : Nat} {P : Program} {ops : Array Oper} {rest : List Oper} {o : Oper} {a : Act} {Q : Exit → Act → World → Prop} {w : World} (hg : o.guard = none) (ty : TypeId) (x : Operand) (ho : o.op = .load ty x) (g : Nat) (hx : a.eval x = .pointer (some ⟨g, 0, none⟩)) (t : TypeId) (cs : Array Value) (d : TypeDesc) (hb : Blk w g t cs)
  (hu : P.underlying ty = some d) (hd : (match d with | .struct _ | .array _ _ => true | _ => false) = true) (hi : (P.info? ty).map (·.size) = some cs.size)
  (h : wpListIn F m P ops Q rest (a.put o.dst (.agg cs)) w) : wpListIn F m P ops Q (o :: rest) a w := by
 refine wpListIn_plain hg fun K hK => ?_
 unfold Oper.wpIn
 refine ⟨by simp [Oper.about, ho], ?_⟩
 rw [Oper.semAt_plain F _ _ (by rw [ho]; intro c hc; cases hc)]
 unfold execOp
 simp only [ho, hx, Instr.loadAt, Instr.sureAddr, Sem.run_bind, Sem.run_pure, Result.andThen_ok, run_loadVar_row w g t ty cs (0, 0) d hb hu hd hi]
 exact hK _ _ h
theorem wpListIn_store_row {F : Fence} {m : Nat} {P : Program} {ops : Array Oper} {rest : List Oper} {o : Oper} {a : Act} {Q : Exit → Act → World → Prop} {w : World} (hg : o.guard = none) (ty : TypeId) (x y : Operand) (ho : o.op = .store ty x y) (g : Nat) (cells : Array Value) (hx : a.eval x = .pointer (some ⟨g, 0, none⟩)) (hy : a.eval y = .agg cells) (t : TypeId) (old : Array Value) (hb : Blk w g t old)
  (hi : (P.info? ty).map (·.size) = some cells.size) (hold : old.size = cells.size) (h1 : cells.all (·.oneCell') = true)
  (h : wpListIn F m P ops Q rest (a.put o.dst undef) (w.setRow g cells)) : wpListIn F m P ops Q (o :: rest) a w := by
 refine wpListIn_plain hg fun K hK => ?_
 unfold Oper.wpIn
 refine ⟨by simp [Oper.about, ho], ?_⟩
 rw [Oper.semAt_plain F _ _ (by rw [ho]; intro c hc; cases hc)]
 unfold execOp
 simp only [ho, hx, hy, Instr.storeAt, Instr.sureAddr, Sem.run_bind, Sem.run_pure, Result.andThen_ok, run_storeVar_row w g t ty old cells hb hi hold h1]
 exact hK _ _ h
theorem wpListIn_range_rngO {F : Fence} {m : Nat} {ops : Array Oper} {rest : List Oper} {o : Oper} {a : Act} {Q : Exit → Act → World → Prop} (w : World) (hg : o.guard = none) (mo : Operand) (t e : TypeId) (hop : o.op = Op.range t mo) (ht : Tryz.prog.underlying t = some (.map 41 e)) (b n : Nat) (f : List Nat → Option Value) (hm : a.eval mo = .map (some b)) (h : MapO w b n f)
  (hK : ∀ w' cnt, RngO w' b w.heap.size n f (fun x => (f x).isSome) cnt → w.grownBy w' none → w'.heap.size = w.heap.size + 1 → wpListIn F m Tryz.prog ops Q rest (a.put o.dst (.pointer (some ⟨w.heap.size, 0, none⟩))) w') : wpListIn F m Tryz.prog ops Q (o :: rest) a w := by
 refine wpListIn_plain hg fun K' hK' => ?_
 obtain ⟨w', cnt, hrun, r1, r2, r3⟩ := h.range ht
 unfold Oper.wpIn
 refine ⟨by simp [Oper.about, hop], ?_⟩
 rw [Oper.semAt_plain F _ _ (by rw [hop]; intro c hc; cases hc)]
 simp [execOp, hop, hm, hrun, Result.andThen]
 exact hK' _ _ (hK w' cnt r1 r2 r3)
theorem wpListIn_next_rngO {F : Fence} {m : Nat} {ops : Array Oper} {rest : List Oper} {o : Oper} {a : Act} {Q : Exit → Act → World → Prop} (w : World) (hg : o.guard = none) (it : Operand) (hop : o.op = Op.next it false) (b r n cnt : Nat) (f : List Nat → Option Value) (left : List Nat → Bool) (hit : a.eval it = .pointer (some ⟨r, 0, none⟩)) (h : RngO w b r n f left cnt)
  (hDone : (∀ x, Id32 x → left x = false) → wpListIn F m Tryz.prog ops Q rest (a.put o.dst (.tuple #[.bool false])) w)
  (hMore : ∀ (x : List Nat) (v : Value) (w' : World) (cnt' : Nat), Id32 x → left x = true → f x = some v → RngO w' b r n f (fun y => left y && !decide (y = x)) cnt' → cnt' < cnt → w.grownBy w' (some r) → w'.heap.size = w.heap.size → (Instr.entry (.pointer (some ⟨r, 0, none⟩))).run Tryz.prog w' = .ok (.tuple #[.agg (u8s x), v]) w' → wpListIn F m Tryz.prog ops Q rest (a.put o.dst (.tuple #[.bool true, .agg (u8s x), v])) w') : wpListIn F m Tryz.prog ops Q (o :: rest) a w := by
 refine wpListIn_plain hg fun K' hK' => ?_
 unfold Oper.wpIn
 refine ⟨by simp [Oper.about, hop], ?_⟩
 rw [Oper.semAt_plain F _ _ (by rw [hop]; intro c hc; cases hc)]
 rcases h.next o.type with ⟨_, hl, hrun⟩ | ⟨x, v, w', cnt', e1, e2, e3, hrun, e5, e6, e7, e8, e9⟩
 ·simp [execOp, hop, hit, hrun, Result.andThen]
  exact hK' _ _ (hDone hl)
 ·simp [execOp, hop, hit, hrun, Result.andThen]
  exact hK' _ _ (hMore x v w' cnt' e1 e2 e3 e5 e6 e7 e8 e9)
theorem RngO.walks {w w' : World} {b r n cnt : Nat} {f : List Nat → Option Value} {left : List Nat → Bool} (h : RngO w b r n f left cnt) (hk : KeepsWalks w w') : RngO w' b r n f left cnt := by
 obtain ⟨D, lf, h1, h2⟩ := h
 exact ⟨D, lf, h1.of_walks hk, h2⟩
theorem RngO.iter {w : World} {b r n cnt : Nat} {f : List Nat → Option Value} {left : List Nat → Bool} (h : RngO w b r n f left cnt) : ∃ o : Obj, w.heap[r]? = some o ∧ o.isWalk = true := by
 obtain ⟨D, lf, h1, h2⟩ := h
 exact h1.iter_walk
theorem wpListIn_range_rngS {F : Fence} {m : Nat} {ops : Array Oper} {rest : List Oper} {o : Oper} {a : Act} {Q : Exit → Act → World → Prop} (w : World) (hg : o.guard = none) (mo : Operand) (t e : TypeId) (hop : o.op = Op.range t mo) (ht : Tryz.prog.underlying t = some (.map 9 e)) (b n : Nat) (f : ByteArray → Option Value) (hm : a.eval mo = .map (some b)) (h : MapS w b n f)
  (hK : ∀ w' cnt, RngS w' b w.heap.size n f (fun x => (f x).isSome) cnt → w.grownBy w' none → w'.heap.size = w.heap.size + 1 → wpListIn F m Tryz.prog ops Q rest (a.put o.dst (.pointer (some ⟨w.heap.size, 0, none⟩))) w') : wpListIn F m Tryz.prog ops Q (o :: rest) a w := by
 refine wpListIn_plain hg fun K' hK' => ?_
 obtain ⟨w', cnt, hrun, r1, r2, r3⟩ := h.range ht
 unfold Oper.wpIn
 refine ⟨by simp [Oper.about, hop], ?_⟩
 rw [Oper.semAt_plain F _ _ (by rw [hop]; intro c hc; cases hc)]
 simp [execOp, hop, hm, hrun, Result.andThen]
 exact hK' _ _ (hK w' cnt r1 r2 r3)
theorem wpListIn_next_rngS {F : Fence} {m : Nat} {ops : Array Oper} {rest : List Oper} {o : Oper} {a : Act} {Q : Exit → Act → World → Prop} (w : World) (hg : o.guard = none) (it : Operand) (hop : o.op = Op.next it false) (b r n cnt : Nat) (f : ByteArray → Option Value) (left : ByteArray → Bool) (hit : a.eval it = .pointer (some ⟨r, 0, none⟩)) (h : RngS w b r n f left cnt)
  (hDone : (∀ x, okS x → left x = false) → wpListIn F m Tryz.prog ops Q rest (a.put o.dst (.tuple #[.bool false])) w)
  (hMore : ∀ (x : ByteArray) (v : Value) (w' : World) (cnt' : Nat), okS x → left x = true → f x = some v → RngS w' b r n f (fun y => left y && !decide (y = x)) cnt' → cnt' < cnt → w.grownBy w' (some r) → w'.heap.size = w.heap.size → (Instr.entry (.pointer (some ⟨r, 0, none⟩))).run Tryz.prog w' = .ok (.tuple #[.string x, v]) w' → wpListIn F m Tryz.prog ops Q rest (a.put o.dst (.tuple #[.bool true, .string x, v])) w') : wpListIn F m Tryz.prog ops Q (o :: rest) a w := by
 refine wpListIn_plain hg fun K' hK' => ?_
 unfold Oper.wpIn
 refine ⟨by simp [Oper.about, hop], ?_⟩
 rw [Oper.semAt_plain F _ _ (by rw [hop]; intro c hc; cases hc)]
 rcases h.next o.type with ⟨_, hl, hrun⟩ | ⟨x, v, w', cnt', e1, e2, e3, hrun, e5, e6, e7, e8, e9⟩
 ·simp [execOp, hop, hit, hrun, Result.andThen]
  exact hK' _ _ (hDone hl)
 ·simp [execOp, hop, hit, hrun, Result.andThen]
  exact hK' _ _ (hMore x v w' cnt' e1 e2 e3 e5 e6 e7 e8 e9)
theorem RngS.walks {w w' : World} {b r n cnt : Nat} {f : ByteArray → Option Value} {left : ByteArray → Bool} (h : RngS w b r n f left cnt) (hk : KeepsWalks w w') : RngS w' b r n f left cnt := by
 obtain ⟨D, lf, h1, h2⟩ := h
 exact ⟨D, lf, h1.of_walks hk, h2⟩
theorem RngS.iter {w : World} {b r n cnt : Nat} {f : ByteArray → Option Value} {left : ByteArray → Bool} (h : RngS w b r n f left cnt) : ∃ o : Obj, w.heap[r]? = some o ∧ o.isWalk = true := by
 obtain ⟨D, lf, h1, h2⟩ := h
 exact h1.iter_walk
structure IdT where
 bs : List Nat
 ok : Id32 bs
def IdT.enc (x : IdT) : Array Value := #[.agg (u8s x.1)]
def ids (ys : List IdT) : List (List Nat) := ys.map (·.1)
theorem ids_snoc (ys : List IdT) (x : IdT) : ids (ys ++ [x]) = ids ys ++ [x.1] := by simp [ids]
theorem ids_all (ys : List IdT) : ∀ x ∈ ids ys, Id32 x := by
 intro x hx
 obtain ⟨y, _, rfl⟩ := List.mem_map.1 hx
 exact y.2
def KpW (n₀ : Nat) (A B : World) : Prop := Below n₀ A B ∧ KeepsWalks A B
theorem kpw_t {n₀ : Nat} {A B C : World} (h : KpW n₀ A B) (k : KpW n₀ B C) : KpW n₀ A C := ⟨h.1.trans k.1, h.2.trans k.2⟩
theorem kpw_b {n₀ : Nat} {w : World} (hn : n₀ ≤ w.heap.size) (W : World) (l : Nat) (o o' : Obj) (hl : w.heap.size ≤ l) (h : W.heap[l]? = some o) (h1 : o.isCells = false) (h2 : o.isWalk = false) : KpW n₀ W (W.putObj l o') := ⟨belowK_b hn W l o o' hl h h1 h2, walksK_b W l o o' hl h h1 h2⟩
def KeysOf (f : List Nat → Option Value) (ys : List IdT) : Prop := (ids ys).Nodup ∧ ∀ x, Id32 x → (x ∈ ids ys ↔ (f x).isSome = true)
def ValsOf (n : Nat) (f : ByteArray → Option Value) (ys : List IdT) : Prop := ys.length ≤ n ∧ (∀ y ∈ ids ys, ∃ i, okS i ∧ f i = some (.agg (u8s y))) ∧ ∀ i v, okS i → f i = some v → ∃ y ∈ ids ys, v = .agg (u8s y)
structure KwO (wr : World) (f : List Nat → Option Value) (r b n : Nat) (left : List Nat → Bool) (cnt : Nat) (pre : List IdT) : Prop where
 rg : RngO wr b r n f left cnt
 lim : pre.length + cnt ≤ n
 nod : (ids pre).Nodup
 mem : ∀ x, Id32 x → (x ∈ ids pre ↔ (f x).isSome = true ∧ left x = false)
structure KwS (wr : World) (f : ByteArray → Option Value) (r b n : Nat) (left : ByteArray → Bool) (cnt : Nat) (pre : List IdT) : Prop where
 rg : RngS wr b r n f left cnt
 lim : pre.length + cnt ≤ n
 say : ∀ y ∈ ids pre, ∃ i, okS i ∧ f i = some (.agg (u8s y))
 all : ∀ i v, okS i → f i = some v → left i = false → ∃ y ∈ ids pre, v = .agg (u8s y)
theorem KwO.put {wr w2 : World} {f : List Nat → Option Value} {r b n cnt cnt' : Nat} {left : List Nat → Bool} {pre : List IdT} (h : KwO wr f r b n left cnt pre) {x : List Nat} {v : Value} (hid : Id32 x) (hl : left x = true) (hf : f x = some v) (hc : cnt' < cnt) (hr : RngO w2 b r n f (fun y => left y && !decide (y = x)) cnt') :
  KwO w2 f r b n (fun y => left y && !decide (y = x)) cnt' (pre ++ [⟨x, hid⟩]) := by
 have hnx : x ∉ ids pre := fun hx => by have h1 := ((h.mem x hid).1 hx).2; rw [hl] at h1; cases h1
 refine ⟨hr, by have := h.lim; simp; omega, ?_, fun z hz => ?_⟩
 ·rw [ids_snoc, List.nodup_append]
  refine ⟨h.nod, by simp, fun a ha b hb => ?_⟩
  rw [List.mem_singleton] at hb
  subst hb
  exact fun e => hnx (e ▸ ha)
 ·rw [ids_snoc, List.mem_append, List.mem_singleton, h.mem z hz]
  by_cases e : z = x
  ·subst e; simp [hf]
  ·simp [e]
theorem KwS.put {wr w2 : World} {f : ByteArray → Option Value} {r b n cnt cnt' : Nat} {left : ByteArray → Bool} {pre : List IdT} (h : KwS wr f r b n left cnt pre) {x : ByteArray} {y : List Nat} (hx : okS x) (hid : Id32 y) (hf : f x = some (.agg (u8s y))) (hc : cnt' < cnt) (hr : RngS w2 b r n f (fun z => left z && !decide (z = x)) cnt') :
  KwS w2 f r b n (fun z => left z && !decide (z = x)) cnt' (pre ++ [⟨y, hid⟩]) := by
 refine ⟨hr, by have := h.lim; simp; omega, fun z hz => ?_, fun i v hi hv hl => ?_⟩
 ·rw [ids_snoc, List.mem_append, List.mem_singleton] at hz
  rcases hz with hz | rfl
  ·exact h.say z hz
  ·exact ⟨x, hx, hf⟩
 ·rw [ids_snoc]
  by_cases e : i = x
  ·subst e
   rw [hf] at hv
   injection hv with hv
   exact ⟨y, by simp, hv.symm⟩
  ·obtain ⟨z, hz, e2⟩ := h.all i v hi hv (by simpa [e] using hl)
   exact ⟨z, List.mem_append_left _ hz, e2⟩
set_option maxRecDepth 100000 in
set_option maxHeartbeats 4000000 in
theorem keysO1_in (m : Nat) (hn : 1 ≤ m) (l Bs n₀ b n : Nat) (f : List Nat → Option Value) (J Jx : List IdT → World → Prop)
  (hY : ∀ pre x W, J pre W → pre.length < n → YieldAt Fence.wide (m - 1) Tryz.prog l (IdT.enc x) W fun e W' => (e = .returned (.bool true) ∧ J (pre ++ [x]) W' ∧ KpW n₀ W W') ∨ (e = .returned (.bool false) ∧ Jx (pre ++ [x]) W'))
  (W : World) (hJ : AbidesFrom W.heap.size J) (hBs : W.cell? ⟨Bs, 0, none⟩ = some (.map (some b))) (hm : MapO W b n f) (h0 : J [] W) :
  CallsIn Fence.wide m Tryz.prog 70 #[.func (.yield l) #[] #[], .pointer (some ⟨Bs, 0, none⟩)] W fun e W' => (∃ v, e = .returned v) ∧ ((∃ ys, KeysOf f ys ∧ J ys W') ∨ (∃ pre, True ∧ Jx pre W')) := by
 have HY := Lib.hid hY
 have HJ := Lib.hid hJ
 have HMP := Lib.hid hm
 clear hY hJ hm
 refine callsIn_of_wp Tryz.func70 rfl trivial ?_ rfl
 simp only [Tryz.ntmps70, List.size_toArray, List.length_cons, List.length_nil, Nat.reduceAdd, Nat.reduceSub, Array.replicate_succ, Array.replicate_zero, List.push_toArray, List.append_toArray, List.nil_append, List.cons_append]
 gi_wp2_with (first
  | (gi_at_range; refine wpListIn_range_rngO W rfl _ 63 46 rfl Tryz.underlying63 b n f rfl HMP.out ?_; intro w0 cnt0 hrg0 hg0 hs0)
  | gi_in)
 go_frame
 gi_loopw [3] (fun _ wr => ∃ (left : List Nat → Bool) (cnt : Nat) (pre : List IdT), Hid (KwO wr f W.heap.size b n left cnt pre) ∧ Hid (J pre wr)) (fun _ wr => wr.rangeLeft b W.heap.size)
 case atStart => exact ⟨_, _, [], Lib.hid ⟨hrg0, by have := hrg0.fewR; simpa using this, List.nodup_nil, fun x hx => ⟨fun h => (by cases h), fun h => (by have h1 := h.1; rw [h.2] at h1; cases h1)⟩⟩, Lib.hid (HJ.out [] W w0 none h0 hg0 (fun r e => by cases e))⟩
 case round =>
  obtain ⟨left, cnt, pre, HK, HJs⟩ := hrel
  gi_wp2_with (first
   | (gi_at_next; refine wpListIn_next_rngO wr rfl _ rfl b W.heap.size n cnt f left rfl HK.out.rg ?_ ?_)
   | gi_in)
  ·intro hdone
   have HDN := Lib.hid hdone
   clear hdone
   gi_wp2
   go_end0
   exact ⟨⟨_, rfl⟩, Or.inl ⟨pre, ⟨HK.out.nod, fun x hx => by rw [HK.out.mem x hx, HDN.out x hx]; simp⟩, HJs.out⟩⟩
  ·intro x v w2 cnt2 hok hlx hfx hrg2 hlt hg2 hs2 hen
   have hid : Id32 x := hok
   have HID := Lib.hid hid
   have HJ2 : Hid (J pre w2) := Lib.hid (HJ.out pre wr w2 (some W.heap.size) HJs.out hg2 (fun r e => by cases e; exact ⟨Nat.le_refl _, HK.out.rg.iter⟩))
   have HRG := Lib.hid hrg2
   have HCN := Lib.hid hlt
   have HLM : Hid (pre.length < n) := Lib.hid (by have := HK.out.lim; omega)
   have HOK := Lib.hid hok
   have HLX := Lib.hid hlx
   have HFX := Lib.hid hfx
   have HLE : Hid (wr.rangeLeft b W.heap.size = cnt) := Lib.hid HK.out.rg.left_eq
   clear hok hlx hfx hrg2 hlt hg2 hs2
   gi_wp2_with (with_reducible (show wpListIn _ _ _ _ _ (Oper.mk _ (Op.store 41 _ _) _ _ _ _ :: _) _ _); refine pause ?_)
   unfold Paused
   change wpListIn _ _ _ _ _ _ _ (w2.alloc (.cells (u8s (List.replicate 32 0)) 41))
   have hbO : Blk (w2.alloc (.cells (u8s (List.replicate 32 0)) 41)) w2.heap.size 41 (u8s (List.replicate 32 0)) := Blk.new w2 _ _
   have b2 : Below w2.heap.size w2 (w2.alloc (.cells (u8s (List.replicate 32 0)) 41)) := (Below.refl _ _).alloc (Nat.le_refl _) _
   clear hen
   generalize w2.alloc (.cells (u8s (List.replicate 32 0)) 41) = w3 at hbO b2 ⊢
   refine wpListIn_store_row rfl 41 (.tmp 3) (.tmp 9) rfl w2.heap.size (u8s x) rfl rfl 41 (u8s (List.replicate 32 0)) hbO (by rw [u8s_size, HID.out.1]; exact cl_oid_load) (by rw [u8s_size, u8s_size, HID.out.1]; rfl) (u8s_one _) ?_
   have HI4 : Hid (Blk (w3.setRow w2.heap.size (u8s x)) w2.heap.size 41 (u8s x)) := Lib.hid (hbO.row _)
   have hb4 : Below w2.heap.size w2 (w3.setRow w2.heap.size (u8s x)) := below_row b2 (Nat.le_refl _) _
   clear hbO b2
   generalize w3.setRow w2.heap.size (u8s x) = w4 at HI4 hb4 ⊢
   have HJ4 : Hid (J pre w4) := Lib.hid (HJ.out pre w2 w4 none HJ2.out (only_of_below hb4 none) (fun r e => by cases e))
   have HR4 : Hid (RngO w4 b W.heap.size n f (fun y => left y && !decide (y = x)) cnt2) := Lib.hid (HRG.out.below hb4)
   clear hb4 HJ2 HRG
   generalize w2.heap.size = g2 at HI4 ⊢
   simp only [Act.put]
   gi_wp2_with (with_reducible (show wpListIn _ _ _ _ _ (Oper.mk _ (Op.load 41 _) _ _ _ _ :: _) _ _); refine pause ?_)
   unfold Paused
   refine wpListIn_row rfl 41 (.tmp 3) rfl g2 rfl 41 (u8s x) _ HI4.out Tryz.underlying41 rfl (by rw [u8s_size, HID.out.1]; exact cl_oid_load) ?_
   obtain ⟨fn, tmps, assign, body, hyl, hR⟩ := HY.out pre ⟨x, HID.out⟩ w4 HJ4.out HLM.out
   simp only [IdT.enc] at hyl
   gi_wp2
   refine hR.mono ?_
   rintro e W3 (⟨rfl, hJ3, hk3⟩ | ⟨rfl, hJx3⟩)
   ·have HKN : Hid (KwO W3 f W.heap.size b n (fun y => left y && !decide (y = x)) cnt2 (pre ++ [⟨x, HID.out⟩])) := Lib.hid (HK.out.put HID.out HLX.out HFX.out HCN.out (HR4.out.walks hk3.2))
    have HJ3 := Lib.hid hJ3
    clear hJ3 hk3 hR hyl
    gi_wp2
    go_roundw
    case rel => exact ⟨_, _, _, HKN, HJ3⟩
    case measure => rw [HKN.out.rg.left_eq, HLE.out]; exact HCN.out
   ·have HJX := Lib.hid hJx3
    clear hJx3 hR hyl
    gi_wp2
    refine bodyPost_ret (results_none rfl _ _ _) rfl ?_
    exact ⟨⟨_, rfl⟩, Or.inr ⟨_, trivial, HJX.out⟩⟩
set_option maxRecDepth 100000 in
set_option maxHeartbeats 1000000 in
theorem keysO1_nil_in (m : Nat) (l Bs : Nat) (J : List IdT → World → Prop) (W : World) (hJ : AbidesFrom W.heap.size J) (hBs : W.cell? ⟨Bs, 0, none⟩ = some (.map none)) (h0 : J [] W) :
  CallsIn Fence.wide m Tryz.prog 70 #[.func (.yield l) #[] #[], .pointer (some ⟨Bs, 0, none⟩)] W fun e W' => (∃ v, e = .returned v) ∧ J [] W' := by
 refine callsIn_of_wp Tryz.func70 rfl trivial ?_ rfl
 simp only [Tryz.ntmps70, List.size_toArray, List.length_cons, List.length_nil, Nat.reduceAdd, Nat.reduceSub, Array.replicate_succ, Array.replicate_zero, List.push_toArray, List.append_toArray, List.nil_append, List.cons_append]
 have hrg := run_range_nilMap (P := Tryz.prog) W 63 _ _ Tryz.underlying63
 have hnx : ∀ ty, (Instr.next (.pointer (some ⟨W.heap.size, 0, none⟩)) false ty).run Tryz.prog (W.alloc (.mapIter none 0 #[] 0)) = _ := fun ty => run_next_nilMap _ ty 0 0 #[]
 gi_wp2
 refine wpIn_loop_rounds 1 ?_
 rw [roundsIn_succ]
 gi_wp2
 go_end0
 exact ⟨⟨_, rfl⟩, hJ [] W _ none h0 (World.grownBy_alloc W _ none) (fun r e => by cases e)⟩
theorem keysO1_stops (m : Nat) (hn : 1 ≤ m) (Bs n₀ n : Nat) (f : List Nat → Option Value) (v : Value) (w : World) (hBs : Bs < w.heap.size) (hc : w.cell? ⟨Bs, 0, none⟩ = some v) (hs : SrcO w v n f) :
  SeqStopsK Fence.wide m Tryz.prog 70 #[.pointer (some ⟨Bs, 0, none⟩)] IdT.enc (KpW n₀) (KeysOf f) (fun _ => True) n w := fun l J Jx W hW hJ _ hY h0 => by
 have hc' := (hW.cell (p := ⟨Bs, 0, none⟩) hBs).trans hc
 rcases hs.below hW with ⟨rfl, hf0⟩ | ⟨b, rfl, hm⟩
 ·refine (keysO1_nil_in m l Bs J W hJ hc' h0).mono fun e W' ⟨he, hj⟩ => ⟨he, Or.inl ⟨[], ?_, hj⟩⟩
  exact ⟨List.nodup_nil, fun x hx => ⟨fun h => (by cases h), fun h => (by rw [hf0 x] at h; cases h)⟩⟩
 ·exact keysO1_in m hn l Bs n₀ b n f J Jx hY W hJ hc' hm h0
set_option maxRecDepth 100000 in
set_option maxHeartbeats 4000000 in
theorem valsS1_in (m : Nat) (hn : 1 ≤ m) (l Bs n₀ b n : Nat) (f : ByteArray → Option Value) (hf : ∀ i v, f i = some v → ∃ y, Id32 y ∧ v = .agg (u8s y)) (J Jx : List IdT → World → Prop)
  (hY : ∀ pre x W, J pre W → pre.length < n → YieldAt Fence.wide (m - 1) Tryz.prog l (IdT.enc x) W fun e W' => (e = .returned (.bool true) ∧ J (pre ++ [x]) W' ∧ KpW n₀ W W') ∨ (e = .returned (.bool false) ∧ Jx (pre ++ [x]) W'))
  (W : World) (hJ : AbidesFrom W.heap.size J) (hBs : W.cell? ⟨Bs, 0, none⟩ = some (.map (some b))) (hm : MapS W b n f) (h0 : J [] W) :
  CallsIn Fence.wide m Tryz.prog 85 #[.func (.yield l) #[] #[], .pointer (some ⟨Bs, 0, none⟩)] W fun e W' => (∃ v, e = .returned v) ∧ ((∃ ys, ValsOf n f ys ∧ J ys W') ∨ (∃ pre, True ∧ Jx pre W')) := by
 have HY := Lib.hid hY
 have HJ := Lib.hid hJ
 have HMP := Lib.hid hm
 have HF := Lib.hid hf
 clear hY hJ hm
 refine callsIn_of_wp Tryz.func85 rfl trivial ?_ rfl
 simp only [Tryz.ntmps85, List.size_toArray, List.length_cons, List.length_nil, Nat.reduceAdd, Nat.reduceSub, Array.replicate_succ, Array.replicate_zero, List.push_toArray, List.append_toArray, List.nil_append, List.cons_append]
 gi_wp2_with (first
  | (gi_at_range; refine wpListIn_range_rngS W rfl _ 62 41 rfl Tryz.underlying62 b n f rfl HMP.out ?_; intro w0 cnt0 hrg0 hg0 hs0)
  | gi_in)
 go_frame
 gi_loopw [4] (fun _ wr => ∃ (left : ByteArray → Bool) (cnt : Nat) (pre : List IdT), Hid (KwS wr f W.heap.size b n left cnt pre) ∧ Hid (J pre wr)) (fun _ wr => wr.rangeLeft b W.heap.size)
 case atStart => exact ⟨_, _, [], Lib.hid ⟨hrg0, by have := hrg0.few; simpa using this, fun y hy => (by cases hy), fun i v hi hv hl => (by rw [hv] at hl; cases hl)⟩, Lib.hid (HJ.out [] W w0 none h0 hg0 (fun r e => by cases e))⟩
 case round =>
  obtain ⟨left, cnt, pre, HK, HJs⟩ := hrel
  gi_wp2_with (first
   | (gi_at_next; refine wpListIn_next_rngS wr rfl _ rfl b W.heap.size n cnt f left rfl HK.out.rg ?_ ?_)
   | gi_in)
  ·intro hdone
   have HDN := Lib.hid hdone
   clear hdone
   gi_wp2
   go_end0
   exact ⟨⟨_, rfl⟩, Or.inl ⟨pre, ⟨by have := HK.out.lim; omega, HK.out.say, fun i v hi hv => HK.out.all i v hi hv (HDN.out i hi)⟩, HJs.out⟩⟩
  ·intro x v w2 cnt2 hok hlx hfx hrg2 hlt hg2 hs2 hen
   obtain ⟨y, hid, hvy⟩ := HF.out x v hfx
   subst hvy
   have HID := Lib.hid hid
   have HJ2 : Hid (J pre w2) := Lib.hid (HJ.out pre wr w2 (some W.heap.size) HJs.out hg2 (fun r e => by cases e; exact ⟨Nat.le_refl _, HK.out.rg.iter⟩))
   have HRG := Lib.hid hrg2
   have HCN := Lib.hid hlt
   have HLM : Hid (pre.length < n) := Lib.hid (by have := HK.out.lim; omega)
   have HOK := Lib.hid hok
   have HLX := Lib.hid hlx
   have HFX := Lib.hid hfx
   have HLE : Hid (wr.rangeLeft b W.heap.size = cnt) := Lib.hid HK.out.rg.left_eq
   clear hok hlx hfx hrg2 hlt hg2 hs2
   gi_wp2_with (with_reducible (show wpListIn _ _ _ _ _ (Oper.mk _ (Op.store 41 _ _) _ _ _ _ :: _) _ _); refine pause ?_)
   unfold Paused
   change wpListIn _ _ _ _ _ _ _ (w2.alloc (.cells (u8s (List.replicate 32 0)) 41))
   have hbO : Blk (w2.alloc (.cells (u8s (List.replicate 32 0)) 41)) w2.heap.size 41 (u8s (List.replicate 32 0)) := Blk.new w2 _ _
   have b2 : Below w2.heap.size w2 (w2.alloc (.cells (u8s (List.replicate 32 0)) 41)) := (Below.refl _ _).alloc (Nat.le_refl _) _
   clear hen
   generalize w2.alloc (.cells (u8s (List.replicate 32 0)) 41) = w3 at hbO b2 ⊢
   refine wpListIn_store_row rfl 41 (.tmp 4) (.tmp 10) rfl w2.heap.size (u8s y) rfl rfl 41 (u8s (List.replicate 32 0)) hbO (by rw [u8s_size, HID.out.1]; exact cl_oid_load) (by rw [u8s_size, u8s_size, HID.out.1]; rfl) (u8s_one _) ?_
   have HI4 : Hid (Blk (w3.setRow w2.heap.size (u8s y)) w2.heap.size 41 (u8s y)) := Lib.hid (hbO.row _)
   have hb4 : Below w2.heap.size w2 (w3.setRow w2.heap.size (u8s y)) := below_row b2 (Nat.le_refl _) _
   clear hbO b2
   generalize w3.setRow w2.heap.size (u8s y) = w4 at HI4 hb4 ⊢
   have HJ4 : Hid (J pre w4) := Lib.hid (HJ.out pre w2 w4 none HJ2.out (only_of_below hb4 none) (fun r e => by cases e))
   have HR4 : Hid (RngS w4 b W.heap.size n f (fun y => left y && !decide (y = x)) cnt2) := Lib.hid (HRG.out.below hb4)
   clear hb4 HJ2 HRG
   generalize w2.heap.size = g2 at HI4 ⊢
   simp only [Act.put]
   gi_wp2_with (with_reducible (show wpListIn _ _ _ _ _ (Oper.mk _ (Op.load 41 _) _ _ _ _ :: _) _ _); refine pause ?_)
   unfold Paused
   refine wpListIn_row rfl 41 (.tmp 4) rfl g2 rfl 41 (u8s y) _ HI4.out Tryz.underlying41 rfl (by rw [u8s_size, HID.out.1]; exact cl_oid_load) ?_
   obtain ⟨fn, tmps, assign, body, hyl, hR⟩ := HY.out pre ⟨y, HID.out⟩ w4 HJ4.out HLM.out
   simp only [IdT.enc] at hyl
   gi_wp2
   refine hR.mono ?_
   rintro e W3 (⟨rfl, hJ3, hk3⟩ | ⟨rfl, hJx3⟩)
   ·have HKN : Hid (KwS W3 f W.heap.size b n (fun y => left y && !decide (y = x)) cnt2 (pre ++ [⟨y, HID.out⟩])) := Lib.hid (HK.out.put HOK.out HID.out HFX.out HCN.out (HR4.out.walks hk3.2))
    have HJ3 := Lib.hid hJ3
    clear hJ3 hk3 hR hyl
    gi_wp2
    go_roundw
    case rel => exact ⟨_, _, _, HKN, HJ3⟩
    case measure => rw [HKN.out.rg.left_eq, HLE.out]; exact HCN.out
   ·have HJX := Lib.hid hJx3
    clear hJx3 hR hyl
    gi_wp2
    refine bodyPost_ret (results_none rfl _ _ _) rfl ?_
    exact ⟨⟨_, rfl⟩, Or.inr ⟨_, trivial, HJX.out⟩⟩
set_option maxRecDepth 100000 in
set_option maxHeartbeats 1000000 in
theorem valsS1_nil_in (m : Nat) (l Bs : Nat) (J : List IdT → World → Prop) (W : World) (hJ : AbidesFrom W.heap.size J) (hBs : W.cell? ⟨Bs, 0, none⟩ = some (.map none)) (h0 : J [] W) :
  CallsIn Fence.wide m Tryz.prog 85 #[.func (.yield l) #[] #[], .pointer (some ⟨Bs, 0, none⟩)] W fun e W' => (∃ v, e = .returned v) ∧ J [] W' := by
 refine callsIn_of_wp Tryz.func85 rfl trivial ?_ rfl
 simp only [Tryz.ntmps85, List.size_toArray, List.length_cons, List.length_nil, Nat.reduceAdd, Nat.reduceSub, Array.replicate_succ, Array.replicate_zero, List.push_toArray, List.append_toArray, List.nil_append, List.cons_append]
 have hrg := run_range_nilMap (P := Tryz.prog) W 62 _ _ Tryz.underlying62
 have hnx : ∀ ty, (Instr.next (.pointer (some ⟨W.heap.size, 0, none⟩)) false ty).run Tryz.prog (W.alloc (.mapIter none 0 #[] 0)) = _ := fun ty => run_next_nilMap _ ty 0 0 #[]
 gi_wp2
 refine wpIn_loop_rounds 1 ?_
 rw [roundsIn_succ]
 gi_wp2
 go_end0
 exact ⟨⟨_, rfl⟩, hJ [] W _ none h0 (World.grownBy_alloc W _ none) (fun r e => by cases e)⟩
theorem valsS1_stops (m : Nat) (hn : 1 ≤ m) (Bs n₀ n : Nat) (f : ByteArray → Option Value) (hf : ∀ i v, f i = some v → ∃ y, Id32 y ∧ v = .agg (u8s y)) (v : Value) (w : World) (hBs : Bs < w.heap.size) (hc : w.cell? ⟨Bs, 0, none⟩ = some v) (hs : SrcS w v n f) :
  SeqStopsK Fence.wide m Tryz.prog 85 #[.pointer (some ⟨Bs, 0, none⟩)] IdT.enc (KpW n₀) (ValsOf n f) (fun _ => True) n w := fun l J Jx W hW hJ _ hY h0 => by
 have hc' := (hW.cell (p := ⟨Bs, 0, none⟩) hBs).trans hc
 rcases hs.below hW with ⟨rfl, hf0⟩ | ⟨b, rfl, hm⟩
 ·refine (valsS1_nil_in m l Bs J W hJ hc' h0).mono fun e W' ⟨he, hj⟩ => ⟨he, Or.inl ⟨[], ?_, hj⟩⟩
  exact ⟨Nat.zero_le _, fun y hy => (by cases hy), fun i v hi hv => (by rw [hf0 i] at hv; cases hv)⟩
 ·exact valsS1_in m hn l Bs n₀ b n f hf J Jx hY W hJ hc' hm h0
end Go.Proofs.YtgcgomdhdgjpdaaGreatDoor
