/- Arguments of laws, opened: slices of slices of bytes. -/
import Derived.Test.YtgcgomdhdgjpdaaGreatDoorMBases
import Derived.Deep.Matrix
import Derived.OpenShut
import Derived.ChangeMaps5
import Derived.RowKit
import Derived.Carry
import Derived.OrdersHeld
import Derived.Stop.BytesEq
import Derived.Laws.AppendOwn
import Derived.Deep.MidRow
import Derived.Laws.OwnMore
import Derived.BigQuiet
namespace Go.Proofs.YtgcgomdhdgjpdaaGreatDoor
open Go Go.RowKit Go.WideShapes Go.ChangeShapes Go.Deep
section
variable {H : Type} {enc : TypeId × Value → H} {P : Program} {W : World} {held : Bool} {t e q : TypeId}
theorem open_partsT (ht : P.underlying t = some (.slice e)) (he : P.underlying e = some (.slice q)) (hq : P.underlying q = some (.int .u8)) (ce : P.cellsOf e = 1) (cq : P.cellsOf q = 1) {fuel : Nat} {v : Value} {y : DataW H × List MemPlace}
  (hf : DataW.trod enc P W 0 (fun _ => true) held fuel t [v] = some y) :
  ∃ (vs : List Value) (pss : List (List Nat)), RdL W v vs ∧ pss.length = vs.length ∧ (∀ i u, vs[i]? = some u → Rd W u (pss.getD i [])) ∧ (∀ ps ∈ pss, Sha.Byte ps) ∧ vs.length ≤ maxLen ∧ ∀ ps ∈ pss, ps.length ≤ maxLen := by
 rcases open_int_rows ht he hq ce cq hf with ⟨hc, _⟩ | ⟨a, len, cap, A, L, C, Z, hc, _, hlc, hcm, _, hx⟩
 ·obtain rfl : v = .slice none 0 0 := by simpa using hc
  exact ⟨[], [], ⟨none, 0, rfl, Nat.le_refl _, fun h => by simp at h⟩, rfl, fun i u h => by simp at h, fun ps h => by simp at h, Nat.zero_le _, fun ps h => by simp at h⟩
 ·obtain rfl : v = .slice (some a) len cap := by simpa using hc
  have hvl : ((List.range len).map fun r => Value.slice (A r) (L r) (C r)).length = len := by simp
  have hpl : ((List.range len).map fun r => ((Z r).take (L r)).map Int.toNat).length = len := by simp
  have hzl : ∀ r, r < cap → (((Z r).take (L r)).map Int.toNat).length = L r := fun r hr => by
   obtain ⟨_, h1, _, h2, _⟩ := hx r hr
   rw [List.length_map, List.length_take]; omega
  have hget : ∀ r, r < cap → ∀ i, i < L r → (((Z r).getD i 0).toNat : Int) = (Z r).getD i 0 ∧ ((Z r).getD i 0).toNat < 256 ∧ (((Z r).take (L r)).map Int.toNat).getD i 0 = ((Z r).getD i 0).toNat := fun r hr i hi => by
   obtain ⟨_, h1, _, h2, h3, _⟩ := hx r hr
   have hiz : i < (Z r).length := by omega
   have e1 : (Z r).getD i 0 = (Z r)[i] := by rw [List.getD_eq_getElem?_getD, List.getElem?_eq_getElem hiz]; rfl
   obtain ⟨g1, g2⟩ := u8_nat (h3 _ (List.getElem_mem hiz))
   refine ⟨by rw [e1]; exact g1, by rw [e1]; exact g2, ?_⟩
   rw [List.getD_eq_getElem?_getD, List.getElem?_map, List.getElem?_take_of_lt hi, List.getElem?_eq_getElem hiz, e1]; rfl
  refine ⟨(List.range len).map fun r => .slice (A r) (L r) (C r), (List.range len).map fun r => ((Z r).take (L r)).map Int.toNat, ⟨some a, cap, by rw [hvl], by rw [hvl]; exact hlc, fun h0 => ?_⟩, by rw [hvl, hpl], fun i u hu => ?_, fun ps hp => ?_, by rw [hvl]; omega, fun ps hp => ?_⟩
  ·rw [hvl] at h0
   obtain ⟨b, o, s⟩ := a
   have hc0 := (hx 0 (by omega)).1
   rw [show (⟨b, o, s⟩ : Addr).add 0 = ⟨b, o, s⟩ from by simp [Addr.add]] at hc0
   obtain rfl := spot_free hc0
   refine ⟨b, o, rfl, block_lt_of_cell hc0, fun i u hu => ?_⟩
   have hi : i < len := by have := (List.getElem?_eq_some_iff.1 hu).1; rwa [hvl] at this
   have e1 := (hx i (by omega)).1
   rw [show (⟨b, o, none⟩ : Addr).add i = ⟨b, o + i, none⟩ from by simp [Addr.add]] at e1
   rw [e1, ← hu, List.getElem?_map, List.getElem?_range hi]; rfl
  ·have hi : i < len := by have := (List.getElem?_eq_some_iff.1 hu).1; rwa [hvl] at this
   rw [List.getElem?_map, List.getElem?_range hi] at hu
   cases hu
   have hpi : ((List.range len).map fun r => ((Z r).take (L r)).map Int.toNat).getD i [] = ((Z i).take (L i)).map Int.toNat := by
    rw [List.getD_eq_getElem?_getD, List.getElem?_map, List.getElem?_range hi]; rfl
   rw [hpi]
   obtain ⟨_, h1, h2, h3, _, h5, h6⟩ := hx i (by omega)
   refine ⟨A i, C i, by rw [hzl i (by omega)], by rw [hzl i (by omega)]; exact h1, fun h0 => ?_⟩
   rw [hzl i (by omega)] at h0
   cases hA : A i with
   | none => have := h5 hA; omega
   | some a' =>
    obtain ⟨b, o, s⟩ := a'
    obtain ⟨_, h7⟩ := h6 _ hA
    have hc0 := h7 0 (by omega)
    rw [show (⟨b, o, s⟩ : Addr).add 0 = ⟨b, o, s⟩ from by simp [Addr.add]] at hc0
    obtain rfl := spot_free hc0
    refine ⟨b, o, rfl, block_lt_of_cell hc0, fun j hj => ?_⟩
    rw [hzl i (by omega)] at hj
    have e1 := h7 j (by omega)
    rw [show (⟨b, o, none⟩ : Addr).add j = ⟨b, o + j, none⟩ from by simp [Addr.add]] at e1
    obtain ⟨g1, _, g3⟩ := hget i (by omega) j hj
    rw [e1, g3, g1]
  ·obtain ⟨r, hr, rfl⟩ := List.mem_map.1 hp
   have hr' := List.mem_range.1 hr
   intro i
   by_cases hi : i < L r
   ·obtain ⟨_, g2, g3⟩ := hget r (by omega) i hi
    rw [g3]; exact g2
   ·rw [List.getD_eq_getElem?_getD, List.getElem?_eq_none (by rw [hzl r (by omega)]; omega)]; decide
  ·obtain ⟨r, hr, rfl⟩ := List.mem_map.1 hp
   have hr' := List.mem_range.1 hr
   obtain ⟨_, h1, h2, _⟩ := hx r (by omega)
   rw [hzl r (by omega)]; omega
end
end Go.Proofs.YtgcgomdhdgjpdaaGreatDoor
/- Arguments of laws, opened: arrays of bytes, texts. -/
namespace Go.Proofs.YtgcgomdhdgjpdaaGreatDoor
open Go Go.RowKit Go.WideShapes Go.ChangeShapes
section
variable {H : Type} {enc : TypeId × Value → H} {P : Program} {W : World} {base : Nat} {sp : Nat → Bool} {held : Bool} {t e : TypeId} {n : Nat}
theorem byte_wf {x : Int} (h : (Lit.int .u8 x).wf = true) : 0 ≤ x ∧ x < 256 := by
 have h1 : IntKind.u8.min = 0 := rfl
 have h2 : IntKind.u8.max = 255 := rfl
 simp only [Lit.wf, Bool.and_eq_true, decide_eq_true_eq] at h
 omega
theorem mapM_u8 (he : P.underlying e = some (.int .u8)) {m c : Nat} {cs : List Value} : ∀ (L : List Nat) (xs : List (DataW H × List MemPlace)),
  L.mapM (fun i => DataW.trod enc P W base sp held m e ((cs.drop (i * c)).take c)) = some xs → ∀ i ∈ L, ∃ a : Nat, a < 256 ∧ (cs.drop (i * c)).take c = [.int .u8 (a : Int)]
 | [], _, _, i, hi => by simp at hi
 | j :: L, xs, h, i, hi => by
  rw [List.mapM_cons] at h
  simp only [bind, Option.bind_eq_some_iff, pure, Option.some.injEq] at h
  obtain ⟨y, hy, ys, hys, rfl⟩ := h
  rcases List.mem_cons.1 hi with rfl | hi
  ·obtain ⟨a, ea, rfl, wa⟩ := DataW.trod_int he hy
   have hb := byte_wf wa
   obtain ⟨n, rfl⟩ := Int.eq_ofNat_of_zero_le hb.1
   exact ⟨n, by have := hb.2; omega, ea⟩
  ·exact mapM_u8 he L ys hys i hi
end
end Go.Proofs.YtgcgomdhdgjpdaaGreatDoor
/- A goal set aside: the walk stands still at it. -/
namespace Go.Proofs.YtgcgomdhdgjpdaaGreatDoor
def Paused (p : Prop) : Prop := p
theorem pause {p : Prop} (h : Paused p) : p := h
end Go.Proofs.YtgcgomdhdgjpdaaGreatDoor
/- Words for regions that draw their order and hold loads of whole arrays beside calls that make memory; arrays of bytes compared. -/
namespace Go.Proofs.YtgcgomdhdgjpdaaGreatDoor
open Go Go.RowKit
theorem takes_row {P : Program} {ops : Array Oper} {S : World → Prop} {o : Oper} {a : Act} (ty : TypeId) (x : Operand) (ho : o.op = .load ty x) (hw : Region.wanted o (yielded ops a.tmps) = true)
  (g : Nat) (hx : a.eval x = .pointer (some ⟨g, 0, none⟩)) (t : TypeId) (cs : Array Value) (d : TypeDesc) (hg : ∀ w, S w → Blk w g t cs)
  (hu : P.underlying ty = some d) (hd : (match d with | .struct _ | .array _ _ => true | _ => false) = true) (hi : (P.info? ty).map (·.size) = some cs.size) : YieldsIf P ops S o (.agg cs) a :=
 Or.inl ⟨hw, fun w h => by
  unfold execOp
  simp only [ho, hx, Instr.loadAt, Instr.sureAddr, Sem.run_bind, Sem.run_pure, Result.andThen_ok, run_loadVar_row w g t ty cs (0, 0) d (hg w h) hu hd hi]⟩
theorem wpList_row_w {P : Program} {ops : Array Oper} {rest : List Oper} {o : Oper} {a : Act} {w : World} {Q : Exit → Act → World → Prop} (hw : Region.wanted o (yielded ops a.tmps) = true) (ty : TypeId) (x : Operand) (ho : o.op = .load ty x)
  (g : Nat) (hx : a.eval x = .pointer (some ⟨g, 0, none⟩)) (t : TypeId) (cs : Array Value) (d : TypeDesc) (hg : Blk w g t cs)
  (hu : P.underlying ty = some d) (hd : (match d with | .struct _ | .array _ _ => true | _ => false) = true) (hi : (P.info? ty).map (·.size) = some cs.size)
  (h : wpList P ops Q rest (a.put o.dst (.agg cs)) w) : wpList P ops Q (o :: rest) a w :=
 wpList_step fun K hK => by
  simp only [hw, if_true]
  exact wp_load_row ty x ho g hx t cs (0, 0) d hg hu hd hi (hK _ _ h)
theorem all_one {P : Program} {md : Region.Mode} {ops : Array Oper} {Q : Exit → Act → World → Prop} {S : World → Prop} {i : Nat} {oi : Oper} {fuel : Nat} {listed : Array Bool} {a : Act} {w : World}
  (hr : Region.ready md ops listed = [i]) (hi : ops[i]? = some oi) (wi : Region.wanted oi (yielded ops a.tmps) = true)
  (h1 : ∀ K : Act → World → Prop, (∀ a' w', S w' → wpAnyH P md ops Q S fuel (listed.setIfInBounds i true) a' w' → K a' w') → oi.wp P a w K Q) : wpAnyH P md ops Q S (fuel + 1) listed a w := by
 refine wpAnyH_all hr (by simp) fun k hk => ?_
 obtain rfl := List.mem_singleton.1 hk
 unfold wpOp
 simp only [hi, wi, if_true]
 exact Or.inl (h1 (fun a' w' => S w' ∧ wpAnyH P md ops Q S fuel (listed.setIfInBounds k true) a' w') fun _ _ hs hh => ⟨hs, hh⟩)
theorem u8s_cell (xs : List Nat) (hb : Sha.Byte xs) : u8s xs = ((xs.map UInt8.ofNat).map Extern.Stop.cell).toArray := by
 unfold u8s
 congr 1
 rw [List.map_map]
 apply List.map_congr_left
 intro x hx
 obtain ⟨i, hi, rfl⟩ := List.mem_iff_getElem.1 hx
 have h : xs[i] < 256 := by have := hb i; simpa [List.getD, hi] using this
 simp [Extern.Stop.cell, Nat.mod_eq_of_lt h]
theorem ofNat_inj : ∀ (xs ys : List Nat), Sha.Byte xs → Sha.Byte ys → (xs.map UInt8.ofNat == ys.map UInt8.ofNat) = (xs == ys)
 | [], [], _, _ => rfl
 | [], _ :: _, _, _ => rfl
 | _ :: _, [], _, _ => rfl
 | x :: xs, y :: ys, hx, hy => by
  have ih := ofNat_inj xs ys (fun i => by simpa using hx (i + 1)) (fun i => by simpa using hy (i + 1))
  have h1 : x < 256 := by simpa using hx 0
  have h2 : y < 256 := by simpa using hy 0
  rw [List.map_cons, List.map_cons, List.cons_beq_cons, List.cons_beq_cons, ih]
  congr 1
  rw [Bool.eq_iff_iff]
  simp only [beq_iff_eq, ← UInt8.toNat_inj]
  simp [Nat.mod_eq_of_lt h1, Nat.mod_eq_of_lt h2]
theorem run_equalIn_u8s {P : Program} (w : World) (t e : TypeId) (n : Nat) (ht : P.underlying t = some (.array n e)) (he : P.underlying e = some (.int .u8)) (hsz : ∀ w, (sizeOf e).run P w = .ok 1 w)
  (xs ys : List Nat) (hx : xs.length = n) (hy : ys.length = n) (hbx : Sha.Byte xs) (hby : Sha.Byte ys) :
  (Op.equalIn 10000 t (.agg (u8s xs)) (.agg (u8s ys))).run P w = .ok (xs == ys) w := by
 rw [u8s_cell xs hbx, u8s_cell ys hby, ← ofNat_inj xs ys hbx hby]
 exact run_equalIn_bytes w 9998 t e n ht he hsz (xs.map UInt8.ofNat) (ys.map UInt8.ofNat) (by rw [List.length_map, hx]) (by rw [List.length_map, hy])
def cellsB (x : List Nat) : List Value := x.map fun (n : Nat) => Value.int .u8 (n : Int)
theorem cellsB_len (x : List Nat) : (cellsB x).length = x.length := by simp [cellsB]
theorem cellsB_one (x : List Nat) : ∀ v ∈ cellsB x, v.oneCell' = true := by
 intro v hv
 obtain ⟨n, _, rfl⟩ := List.mem_map.1 hv
 rfl
theorem cellsB_get {x : List Nat} {i : Nat} (h : i < x.length) : (cellsB x)[i]? = some (.int .u8 ((x.getD i 0 : Nat) : Int)) := by
 simp [cellsB, List.getD, h]
theorem byte_info : (Tryz.prog.info? 5).map (fun i => (i.zero, i.size, i.bytes)) = some (some (.int .u8 0), 1, 1) := by kernel_rfl
theorem wpList_appendB {ops : Array Oper} {rest : List Oper} {o : Oper} {a : Act} {w : World} {Q : Exit → Act → World → Prop} (hgd : o.guard = none) (s x : Operand)
  (ho : o.op = .call { callee := .builtin .append, args := #[s, x], argTypes := #[46, 46] }) (base : Nat) (v : Value) (ys : List Nat) (hs : a.eval s = v) (hown : w.ownsRow base 5 1 v ys.length (cellsB ys)) (hbase : base ≤ w.heap.size)
  (u : Value) (hx : a.eval x = u) (xs : List Nat) (hu : Rd w u xs) (hz : ys.length + xs.length ≤ 70368744177664)
  (h : ∀ v' w', w'.ownsRow base 5 1 v' (ys ++ xs).length (cellsB (ys ++ xs)) → w.grownBy w' v.ownBlock → wpList Tryz.prog ops Q rest (a.put o.dst v') w') : wpList Tryz.prog ops Q (o :: rest) a w := by
 obtain ⟨i0, hi0, hiz, his, hib⟩ := info_parts byte_info
 obtain ⟨A, c, rfl, hc, hA⟩ := hu
 have e0 : cellsB ys ++ cellsB xs = cellsB (ys ++ xs) := by simp [cellsB]
 cases A with
 | some ad =>
  refine wpList_append_own w hgd s x 46 ho base 5 i0 _ 1 1 Tryz.underlying46 hi0 hiz his hib rfl (by decide) v ys.length (cellsB ys) hs hown ad xs.length c (cellsB xs) hx (by rw [cellsB_len, Nat.mul_one]) ?_ (cellsB_one _) (by unfold maxLen; omega) (by omega) hbase ?_
  ·intro j t hj
   have hjl : j < xs.length := by have := (List.getElem?_eq_some_iff.1 hj).1; rwa [cellsB_len] at this
   obtain ⟨b, o', ha, _, hxx⟩ := hA (by omega)
   obtain rfl := Option.some.inj ha
   rw [cellsB_get hjl] at hj
   rw [Addr.add_mid, hxx j hjl, hj]
  ·intro v' w' h1 h2 _
   rw [e0, ← List.length_append] at h1
   exact h v' w' h1 h2
 | none =>
  have hn : xs.length = 0 := by
   rcases Nat.eq_zero_or_pos xs.length with h0 | h0
   ·exact h0
   ·obtain ⟨b, o', ha, _⟩ := hA h0
    cases ha
  have e : xs = [] := List.eq_nil_of_length_eq_zero hn
  subst e
  refine wpList_plain hgd fun K hK => ?_
  have hrun : ∀ ty, (Builtin.append_ #[46, 46] ty #[v, .slice none 0 c]).run Tryz.prog w = .ok v w := fun ty => by
   rcases hown.2 with ⟨hv, hn0⟩ | ⟨g, cap, cur, hv, _, _, hnc, _⟩
   ·rw [hv]
    simp [Builtin.append_, run_underlying Tryz.underlying46, sizeOf, typeInfo, hi0, Builtin.lenOf, Builtin.firstCells]
   ·rw [hv]
    simp [Builtin.append_, run_underlying Tryz.underlying46, sizeOf, typeInfo, hi0, Builtin.lenOf, Builtin.firstCells, hnc, storeCells]
  unfold Oper.wp execOp
  simp only [ho, resolve, invoke, builtin, Sem.run_bind, Sem.run_pure, Result.andThen_ok, List.map_toArray, List.map_cons, List.map_nil, hs, hx]
  rw [show ([] : List Nat).length = 0 from rfl, hrun]
  exact hK _ _ (h _ _ (by rw [List.append_nil]; exact hown) (World.grownBy.refl w _))
theorem ownsRow_alloc {w : World} {base : Nat} {e : TypeId} {size n : Nat} {v : Value} {xs : List Value} (h : w.ownsRow base e size v n xs) (o : Obj) : (w.alloc o).ownsRow base e size v n xs := by
 refine ⟨h.1, ?_⟩
 rcases h.2 with hn | ⟨g, cap, cur, rfl, hb, hgg, hr⟩
 ·exact .inl hn
 ·exact .inr ⟨g, cap, cur, rfl, hb, by rw [heap_alloc_old _ _ (Array.getElem?_eq_some_iff.1 hgg).1]; exact hgg, hr⟩
theorem rd_of_lit (w : World) (l : List Nat) (t : TypeId) (_h0 : 0 < l.length) : Rd (w.alloc (.cells (u8s l) t)) (.slice (some ⟨w.heap.size, 0, none⟩) l.length l.length) l := by
 have hB : Blk (w.alloc (.cells (u8s l) t)) w.heap.size t (u8s l) := Blk.new w _ _
 refine ⟨_, _, rfl, Nat.le_refl _, fun _ => ⟨w.heap.size, 0, rfl, hB.lt, fun i hi => ?_⟩⟩
 rw [Nat.zero_add, hB.cell i, u8s_get _ _ hi]
theorem rd_alloc {w : World} {v : Value} {xs : List Nat} (h : Rd w v xs) (o : Obj) : Rd (w.alloc o) v xs := h.below ((Below.refl _ _).alloc (Nat.le_refl _) _) (Nat.le_refl _)
theorem below_own {a b c : World} {base size n : Nat} {e : TypeId} {v : Value} {xs : List Value} (h : Below a.heap.size a b) (ho : b.ownsRow base e size v n xs) (hb : a.heap.size ≤ base) (k : b.grownBy c v.ownBlock) : Below a.heap.size a c := by
 cases hv : v.ownBlock with
 | none =>
  rw [hv] at k
  exact ⟨k.os.trans h.os, k.tape.trans h.tape, k.output.trans h.output, Nat.le_trans h.size k.size, fun i hi => (k.block i (Nat.lt_of_lt_of_le hi h.size) (by simp)).trans (h.block i hi)⟩
 | some g =>
  rw [hv] at k
  exact below_of_only h k (Nat.le_trans hb (ho.lt g hv).1)
theorem conv_rd {w : World} {v : Value} {xs : List Nat} (h : Rd w v xs) : (convert 46 9 v).run Tryz.prog w = .ok (.string (textOf xs)) w := by
 obtain ⟨A, c, rfl, hc, hA⟩ := h
 rcases Nat.eq_zero_or_pos xs.length with h0 | h0
 ·have e : xs = [] := List.eq_nil_of_length_eq_zero h0
  subst e
  cases A with
  | none => exact run_convert_bytes_nil w 46 5 Tryz.underlying46 Tryz.underlying5 0 c 9 Tryz.underlying9
  | some a =>
   have hl : (loadCells a 0).run Tryz.prog w = .ok #[] w := by simpa using run_loadCells_list (P := Tryz.prog) w a [] (by simp)
   rw [run_convert_bytes_string w 46 9 5 _ _ c Tryz.underlying46 Tryz.underlying5 Tryz.underlying9]
   simp [Conv.bytesToString, hl, textOf]
   try rfl
 ·obtain ⟨b, o, rfl, hb, hx⟩ := hA h0
  exact run_text w 46 9 5 Tryz.underlying46 Tryz.underlying5 Tryz.underlying9 b o xs.length c xs rfl hx
theorem rd_of_own {w : World} {base n : Nat} {v : Value} {l : List Nat} (h : w.ownsRow base 5 1 v n (cellsB l)) (hn : n = l.length) : Rd w v l := by
 subst hn
 rcases h.2 with ⟨rfl, h0⟩ | ⟨g, cap, cur, rfl, _, hh, hcap, _, hcs, hxs⟩
 ·exact ⟨none, 0, by rw [h0], by omega, fun h1 => by omega⟩
 ·refine ⟨_, _, rfl, hcap, fun _ => ⟨g, 0, rfl, (Array.getElem?_eq_some_iff.1 hh).1, fun i hi => ?_⟩⟩
  rw [Nat.zero_add, cell_of_row _ _ _ _ _ _ hh]
  have h := congrArg (·[i]?) hxs
  simp only [List.getElem?_take, if_pos (show i < l.length * 1 by omega)] at h
  rw [show cur[i]? = cur.toList[i]? by simp, h]
  exact cellsB_get hi
structure Pad (B : Nat) (w : World) (s : Value) (ys : List Nat) (wr : World) : Prop where
 own : wr.ownsRow B 5 1 s ys.length (cellsB ys)
 bel : Below B w wr
theorem below_ownB {a b c : World} {B size n : Nat} {e : TypeId} {v : Value} {xs : List Value} (hB : a.heap.size = B) (h : Below B a b) (ho : b.ownsRow B e size v n xs) (k : b.grownBy c v.ownBlock) : Below B a c := by
 subst hB
 exact below_own h ho (Nat.le_refl _) k
theorem Pad.len {B : Nat} {w : World} {s : Value} {ys : List Nat} {wr : World} (h : Pad B w s ys wr) : ∃ A c, s = .slice A ys.length c := by
 rcases h.own.2 with ⟨hv, hn⟩ | ⟨g, cap, cur, hv, _⟩
 ·exact ⟨none, 0, by rw [hv, hn]⟩
 ·exact ⟨_, cap, hv⟩
theorem Pad.rd {B : Nat} {w : World} {s : Value} {ys : List Nat} {wr : World} (h : Pad B w s ys wr) : Rd wr s ys := rd_of_own h.own rfl
theorem quiet_load {P : Program} {C : World → Prop} {o : Oper} {a : Act} {K : Act → Prop} (ty : TypeId) (x : Operand) (ho : o.op = .load ty x) (p : Value) (hx : a.eval x = p) (v : Value)
  (h : ∀ w, C w → (Instr.loadAt ty p).run P w = .ok v w) (hk : K (a.put o.dst v)) : o.quiet P a C K :=
 ⟨v, fun w hw => by
  unfold Oper.quietAt execOp
  simp only [ho, hx, Sem.run_bind, h w hw, Result.andThen_ok]
  exact ⟨rfl, rfl⟩, hk⟩
theorem quiet_ne {P : Program} {C : World → Prop} {o : Oper} {a : Act} {K : Act → Prop} (t : TypeId) (x y : Operand) (z : TypeId) (ho : o.op = .binOp .neq t x y z) (xs ys : Array Value) (hx : a.eval x = .agg xs) (hy : a.eval y = .agg ys) (hm : P.eqGuardType P.depth t = false) (r : Bool)
  (h : ∀ w, C w → (Op.equalIn 10000 t (.agg xs) (.agg ys)).run P w = .ok r w) (hk : K (a.put o.dst (.bool (!r)))) : o.quiet P a C K :=
 ⟨_, fun w hw => by
  unfold Oper.quietAt execOp
  simp only [ho, hx, hy, Sem.run_bind, run_eqGuard_agg w .neq t x y xs ys hm, run_neq_struct, h w hw, Result.andThen_ok]
  exact ⟨rfl, rfl⟩, hk⟩
def RdK (w : World) (v : Value) (n : Nat) (cs : List Value) : Prop :=
 ∃ A c, v = .slice A n c ∧ n ≤ c ∧ (0 < n → ∃ b o, A = some ⟨b, o, none⟩ ∧ b < w.heap.size ∧ ∀ j u, cs[j]? = some u → w.cell? ⟨b, o + j, none⟩ = some u)
theorem RdK.below {w w' : World} {v : Value} {n : Nat} {cs : List Value} (h : RdK w v n cs) {B : Nat} (hb : Below B w w') (hB : w.heap.size ≤ B) : RdK w' v n cs := by
 obtain ⟨A, c, hv, hc, hA⟩ := h
 refine ⟨A, c, hv, hc, fun h0 => ?_⟩
 obtain ⟨b, o, ha, hl, hx⟩ := hA h0
 have := hb.size
 exact ⟨b, o, ha, by omega, fun j u hu => (hb.cell (p := ⟨b, o + j, none⟩) (by show b < B; omega)).trans (hx j u hu)⟩
theorem RdK.nil (w : World) (cs : List Value) : RdK w (.slice none 0 0) 0 cs := ⟨none, 0, rfl, Nat.le_refl _, fun h => absurd h (by simp)⟩
noncomputable def eqv {α : Type} (a b : α) : Bool := @decide (a = b) (Classical.propDecidable _)
theorem eqv_true {α : Type} {a b : α} (h : a = b) : eqv a b = true := @decide_eq_true _ (Classical.propDecidable _) h
theorem eqv_false {α : Type} {a b : α} (h : a ≠ b) : eqv a b = false := @decide_eq_false _ (Classical.propDecidable _) h
theorem eqv_iff {α : Type} {a b : α} : eqv a b = true ↔ a = b := @decide_eq_true_iff _ (Classical.propDecidable _)
theorem beq_eqv {α : Type} [BEq α] [LawfulBEq α] (a b : α) : (a == b) = eqv a b := by
 rw [Bool.eq_iff_iff, beq_iff_eq, eqv_iff]
structure Ent where
 name : ByteArray
 id : List Nat
structure Ob where
 kind : Int
 text : List Nat
 ents : List Ent
 target : List Nat
 pars : List (List Nat)
def Id32 (x : List Nat) : Prop := x.length = 32 ∧ Sha.Byte x
structure Ob.Fit (o : Ob) : Prop where
 text : Sha.Byte o.text
 ents : ∀ e ∈ o.ents, Id32 e.id
 target : Id32 o.target
 pars : ∀ p ∈ o.pars, Id32 p
def cellsE1 (e : Ent) : List Value := .string e.name :: cellsB e.id
def cellsE (es : List Ent) : List Value := es.flatMap cellsE1
def cellsP (ps : List (List Nat)) : List Value := ps.flatMap cellsB
theorem flat_get {α : Type} (f : α → List Value) (n : Nat) : ∀ (l : List α) (_ : ∀ a ∈ l, (f a).length = n) (k : Nat) (h : k < l.length) (j : Nat) (_ : j < n), (l.flatMap f)[n * k + j]? = (f l[k])[j]?
 | a :: l, hl, 0, _, j, hj => by
  rw [List.flatMap_cons, Nat.mul_zero, Nat.zero_add, List.getElem?_append_left (by rw [hl a (List.mem_cons_self ..)]; exact hj)]; rfl
 | a :: l, hl, k + 1, h, j, hj => by
  have ih := flat_get f n l (fun a h => hl a (List.mem_cons_of_mem _ h)) k (by simpa using h) j hj
  have h1 : (f a).length = n := hl a (List.mem_cons_self ..)
  rw [List.flatMap_cons, List.getElem?_append_right (by rw [h1, Nat.mul_succ]; omega), h1, show n * (k + 1) + j - n = n * k + j by rw [Nat.mul_succ]; omega, ih]; rfl
theorem flat_len {α : Type} (f : α → List Value) (n : Nat) : ∀ (l : List α) (_ : ∀ a ∈ l, (f a).length = n), (l.flatMap f).length = l.length * n
 | [], _ => by simp
 | a :: l, hl => by
  rw [List.flatMap_cons, List.length_append, flat_len f n l (fun a h => hl a (List.mem_cons_of_mem _ h)), hl a (List.mem_cons_self ..), List.length_cons, Nat.succ_mul]; omega
theorem cellsE1_len {e : Ent} (h : Id32 e.id) : (cellsE1 e).length = 33 := by simp [cellsE1, cellsB, h.1]
theorem cellsP1_len {p : List Nat} (h : Id32 p) : (cellsB p).length = 32 := by simp [cellsB, h.1]
theorem RdK.ent {w : World} {A : Option Addr} {n c : Nat} {es : List Ent} (h : RdK w (.slice A n c) n (cellsE es)) (hn : n = es.length) (hf : ∀ e ∈ es, Id32 e.id) {k : Nat} (hk : k < es.length) :
  ∃ b o, A = some ⟨b, o, none⟩ ∧ b < w.heap.size ∧ w.rangeAt b (o + k * 33) (cellsE1 es[k]) := by
 obtain ⟨A', c', hv, hc, hA⟩ := h
 injection hv with e1 e2 e3
 subst e1
 obtain ⟨b, o, ha, hl, hx⟩ := hA (by omega)
 refine ⟨b, o, ha, hl, fun j u hu => ?_⟩
 have hj : j < 33 := by have := (List.getElem?_eq_some_iff.1 hu).1; rwa [cellsE1_len (hf _ (List.getElem_mem _))] at this
 rw [Nat.add_assoc]
 refine hx (k * 33 + j) u ?_
 rw [cellsE, Nat.mul_comm k 33, flat_get cellsE1 33 es (fun e he => cellsE1_len (hf e he)) k hk j hj, hu]
theorem RdK.par {w : World} {A : Option Addr} {n c : Nat} {ps : List (List Nat)} (h : RdK w (.slice A n c) n (cellsP ps)) (hn : n = ps.length) (hf : ∀ p ∈ ps, Id32 p) {k : Nat} (hk : k < ps.length) :
  ∃ b o, A = some ⟨b, o, none⟩ ∧ b < w.heap.size ∧ w.rangeAt b (o + k * 32) (cellsB ps[k]) := by
 obtain ⟨A', c', hv, hc, hA⟩ := h
 injection hv with e1 e2 e3
 subst e1
 obtain ⟨b, o, ha, hl, hx⟩ := hA (by omega)
 refine ⟨b, o, ha, hl, fun j u hu => ?_⟩
 have hj : j < 32 := by have := (List.getElem?_eq_some_iff.1 hu).1; rwa [cellsP1_len (hf _ (List.getElem_mem _))] at this
 rw [Nat.add_assoc]
 refine hx (k * 32 + j) u ?_
 rw [cellsP, Nat.mul_comm k 32, flat_get cellsB 32 ps (fun e he => cellsP1_len (hf e he)) k hk j hj, hu]
structure ObC (w : World) (o : Ob) (cs : Array Value) (T : Option Addr) (tc : Nat) (E : Option Addr) (ec : Nat) (P : Option Addr) (pc : Nat) : Prop where
 cells : cs = (.int .i64 o.kind :: .slice T o.text.length tc :: .slice E o.ents.length ec :: (cellsB o.target ++ [.slice P o.pars.length pc])).toArray
 text : Rd w (.slice T o.text.length tc) o.text
 ents : RdK w (.slice E o.ents.length ec) o.ents.length (cellsE o.ents)
 pars : RdK w (.slice P o.pars.length pc) o.pars.length (cellsP o.pars)
theorem ObC.below {w w' : World} {o : Ob} {cs : Array Value} {T E P : Option Addr} {tc ec pc : Nat} (h : ObC w o cs T tc E ec P pc) {B : Nat} (hb : Below B w w') (hB : w.heap.size ≤ B) : ObC w' o cs T tc E ec P pc :=
 ⟨h.cells, h.text.below hb hB, h.ents.below hb hB, h.pars.below hb hB⟩
section
variable {w : World} {o : Ob} {cs : Array Value} {T E P : Option Addr} {tc ec pc : Nat}
theorem ObC.size (h : ObC w o cs T tc E ec P pc) (hf : o.Fit) : cs.size = 36 := by
 rw [h.cells]; simp [cellsB_len, hf.target.1]
theorem ObC.c0 (h : ObC w o cs T tc E ec P pc) : cs[0]? = some (.int .i64 o.kind) := by rw [h.cells]; rfl
theorem ObC.c1 (h : ObC w o cs T tc E ec P pc) : cs[1]? = some (.slice T o.text.length tc) := by rw [h.cells]; rfl
theorem ObC.c2 (h : ObC w o cs T tc E ec P pc) : cs[2]? = some (.slice E o.ents.length ec) := by rw [h.cells]; rfl
theorem ObC.c35 (h : ObC w o cs T tc E ec P pc) (hf : o.Fit) : cs[35]? = some (.slice P o.pars.length pc) := by
 rw [h.cells]
 rw [List.getElem?_toArray, show (35 : Nat) = 32 + 1 + 1 + 1 from rfl, List.getElem?_cons_succ, List.getElem?_cons_succ, List.getElem?_cons_succ, List.getElem?_append_right (by rw [cellsB_len, hf.target.1]; omega), cellsB_len, hf.target.1]
 rfl
theorem ObC.mid (h : ObC w o cs T tc E ec P pc) {wb : World} {g : Nat} {t : TypeId} (hB : Blk wb g t cs) : wb.rangeAt g 3 (cellsB o.target) := fun j u hu => by
 rw [hB.cell, h.cells]
 rw [List.getElem?_toArray, show 3 + j = j + 1 + 1 + 1 by omega, List.getElem?_cons_succ, List.getElem?_cons_succ, List.getElem?_cons_succ, List.getElem?_append_left (List.getElem?_eq_some_iff.1 hu).1, hu]
end
end Go.Proofs.YtgcgomdhdgjpdaaGreatDoor
/- Arguments of laws, opened: objects. -/
namespace Go.Proofs.YtgcgomdhdgjpdaaGreatDoor
open Go Go.RowKit Go.WideShapes Go.ChangeShapes
section
variable {H : Type} {enc : TypeId × Value → H} {P : Program} {W : World} {base : Nat} {sp : Nat → Bool} {held : Bool} {t e : TypeId} {n : Nat}
theorem trod_id (ht : P.underlying t = some (.array n e)) (he : P.underlying e = some (.int .u8)) (h1 : P.cellsOf e = 1) (hn : P.cellsOf t = n) {fuel : Nat} {cs : List Value} {y : DataW H × List MemPlace}
  (hf : DataW.trod enc P W base sp held fuel t cs = some y) : ∃ xs : List Nat, cs = cellsB xs ∧ xs.length = n ∧ Sha.Byte xs := by
 cases fuel with
 | zero => simp [DataW.trod] at hf
 | succ m =>
  rw [DataW.trod_step] at hf
  unfold DataW.trodStep at hf
  simp only [ht] at hf
  by_cases hz : cs.length = P.cellsOf t
  ·rw [if_pos hz] at hf
   simp only [Option.map_eq_some_iff] at hf
   obtain ⟨ys, hy, _⟩ := hf
   rw [h1] at hy
   rw [hn] at hz
   have hall := mapM_u8 he _ _ hy
   have hget : ∀ i, i < n → ∃ a : Nat, a < 256 ∧ cs[i]? = some (.int .u8 (a : Int)) := fun i hi => by
    obtain ⟨a, ha, hc⟩ := hall i (List.mem_range.2 hi)
    refine ⟨a, ha, ?_⟩
    have := congrArg (fun l => l[0]?) hc
    simpa [List.getElem?_take, List.getElem?_drop] using this
   let f : Value → Nat := fun v => match v with | .int _ a => a.toNat | _ => 0
   refine ⟨cs.map f, ?_, by rw [List.length_map, hz], ?_⟩
   ·unfold cellsB
    rw [List.map_map]
    apply List.ext_getElem?
    intro i
    rcases Nat.lt_or_ge i n with hi | hi
    ·obtain ⟨a, ha, hc⟩ := hget i hi
     rw [List.getElem?_map, hc]
     simp [f]
    ·rw [List.getElem?_eq_none (by omega), List.getElem?_eq_none (by rw [List.length_map]; omega)]
   ·intro i
    rcases Nat.lt_or_ge i n with hi | hi
    ·obtain ⟨a, ha, hc⟩ := hget i hi
     simp [List.getD, List.getElem?_map, hc, f, ha]
    ·simp [List.getD, List.getElem?_eq_none (show cs.length ≤ i by omega)]
  ·rw [if_neg hz] at hf
   cases hf
theorem mapM_cellsK {w : World} {a : Addr} : ∀ (L : List Nat) (cs : List Value), L.mapM (fun i => w.cell? (a.add i)) = some cs → ∀ j, j < L.length → ∃ v, cs[j]? = some v ∧ w.cell? (a.add (L.getD j 0)) = some v
 | [], _, _, j, hj => by simp at hj
 | i :: L, cs, h, j, hj => by
  rw [List.mapM_cons] at h
  simp only [bind, Option.bind_eq_some_iff, pure, Option.some.injEq] at h
  obtain ⟨y, hy, ys, hys, rfl⟩ := h
  cases j with
  | zero => exact ⟨y, rfl, by simpa using hy⟩
  | succ j =>
   obtain ⟨v, h1, h2⟩ := mapM_cellsK L ys hys j (by simpa using hj)
   exact ⟨v, by simpa using h1, by simpa using h2⟩
theorem rdk_of {α : Type} (f : α → List Value) (k : Nat) (good : α → Prop) (hk : ∀ x, good x → (f x).length = k) (hk0 : 0 < k) (a : Addr) (len cap : Nat) (hl : len ≤ cap)
  (hx : ∀ i, i < len → ∃ x, good x ∧ ∀ j u, (f x)[j]? = some u → W.cell? ((a.add (i * k)).add j) = some u) :
  ∃ xs : List α, xs.length = len ∧ (∀ x ∈ xs, good x) ∧ RdK W (.slice (some a) len cap) len (xs.flatMap f) := by
 let g : Fin len → α := fun i => Classical.choose (hx i.1 i.2)
 have hg : ∀ i : Fin len, good (g i) ∧ ∀ j u, (f (g i))[j]? = some u → W.cell? ((a.add (i.1 * k)).add j) = some u := fun i => Classical.choose_spec (hx i.1 i.2)
 have hl2 : (List.ofFn g).length = len := List.length_ofFn
 have hgood : ∀ x ∈ List.ofFn g, good x := fun x hm => by
  obtain ⟨i, hi, rfl⟩ := List.mem_iff_getElem.1 hm
  rw [List.getElem_ofFn]
  exact (hg _).1
 have hfl := fun x hm => hk x (hgood x hm)
 refine ⟨List.ofFn g, hl2, hgood, some a, cap, rfl, hl, fun h0 => ?_⟩
 obtain ⟨b, o, s⟩ := a
 have hz := hg ⟨0, h0⟩
 have hc0 := hz.2 0 ((f (g ⟨0, h0⟩))[0]'(by rw [hk _ hz.1]; exact hk0)) (List.getElem?_eq_getElem _)
 have e0 : ((⟨b, o, s⟩ : Addr).add (0 * k)).add 0 = ⟨b, o, s⟩ := by simp [Addr.add]
 rw [e0] at hc0
 obtain rfl := spot_free hc0
 refine ⟨b, o, rfl, block_lt_of_cell hc0, fun j u hu => ?_⟩
 have hj : j < len * k := by
  have h := (List.getElem?_eq_some_iff.1 hu).1
  rwa [flat_len f k _ hfl, hl2] at h
 have hi : j / k < len := Nat.div_lt_of_lt_mul (by rw [Nat.mul_comm]; exact hj)
 have hm : j % k < k := Nat.mod_lt _ hk0
 have hjj : k * (j / k) + j % k = j := Nat.div_add_mod j k
 have hget := flat_get f k (List.ofFn g) hfl (j / k) (by rw [hl2]; exact hi) (j % k) hm
 rw [hjj, hu, List.getElem_ofFn] at hget
 have h := (hg ⟨j / k, hi⟩).2 (j % k) u hget.symm
 rw [Addr.add_mid, Addr.add_mid] at h
 rw [show o + j = o + j / k * k + j % k by rw [Nat.mul_comm]; omega]
 exact h
theorem cells_at {w : World} {a : Addr} {n : Nat} {cs : List Value} (h : w.cells? 0 a n = some cs) : ∀ j u, cs[j]? = some u → j < n → w.cell? (a.add j) = some u := fun j u hu hj => by
 unfold World.cells? at h
 split at h
 ·obtain ⟨u', h1, h2⟩ := mapM_cellsK _ _ h j (by simpa using hj)
  rw [hu] at h1
  obtain rfl := Option.some.inj h1
  have e : (List.range n).getD j 0 = j := by simp [List.getD, hj]
  rwa [e] at h2
 ·cases h
theorem one_of {l : List Value} {i : Nat} (h : i < l.length) : (l.drop i).take 1 = [l[i]] := by
 rw [List.drop_eq_getElem_cons h]; rfl
end
end Go.Proofs.YtgcgomdhdgjpdaaGreatDoor
/- Rows of ids, and of entries, compared (slices.Equal). -/
namespace Go.Proofs.YtgcgomdhdgjpdaaGreatDoor
open Go Go.RowKit
theorem size_u8 (w : World) : (sizeOf 5).run Tryz.prog w = .ok 1 w := by simp [Tryz.sizeOf5]
theorem id_eq (w : World) (x y : List Nat) (hx : Id32 x) (hy : Id32 y) : (Op.equalIn 10000 41 (.agg (cellsB x).toArray) (.agg (cellsB y).toArray)).run Tryz.prog w = .ok (eqv x y) w :=
 beq_eqv x y ▸ run_equalIn_u8s w 41 5 32 Tryz.underlying41 Tryz.underlying5 size_u8 x y hx.1 hy.1 hx.2 hy.2
theorem take_all {α : Type} {xs ys : List α} {k : Nat} (h1 : k < xs.length) (h2 : k < ys.length) (h : xs.take k = ys.take k) (e : xs[k] = ys[k]) : xs.take (k + 1) = ys.take (k + 1) := by
 rw [List.take_succ_eq_append_getElem h1, List.take_succ_eq_append_getElem h2, h, e]
end Go.Proofs.YtgcgomdhdgjpdaaGreatDoor
