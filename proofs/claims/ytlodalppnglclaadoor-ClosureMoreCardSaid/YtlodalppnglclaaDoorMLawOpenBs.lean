/- Arguments of laws, opened: slices of bytes. -/
import Derived.Test.YtlodalppnglclaaDoorMShaMsgMaths
import Derived.Deep.Matrix
import Derived.ChangeMaps5
import Derived.OpenShut
import Derived.Test.YtlodalppnglclaaDoorMBases
import Derived.Shelf.Small.Strs
import Derived.OrdersHeld
import Derived.Stop.BytesEq
import Derived.Laws.AppendOwn
import Derived.Deep.MidRow
import Derived.Laws.OwnMore
import Derived.Test.YtlodalppnglclaaDoorMShaSums
namespace Go.Proofs.YtlodalppnglclaaDoor
open Go Go.RowKit Go.WideShapes Go.ChangeShapes Go.Deep
section
variable {H : Type} {enc : TypeId × Value → H} {P : Program} {W : World} {held : Bool} {t e q : TypeId}
theorem spot_free {w : World} {b o : Nat} {s : Option Nat} {v : Value} (h : w.cell? ⟨b, o, s⟩ = some v) : s = none := by
  cases s with
  | none => rfl
  | some k =>
    exfalso
    unfold World.cell? at h
    split at h <;> simp_all
theorem slice_cells (ht : P.underlying t = some (.slice e)) {r : Reach} {b0 : Nat} {v : Value} (hval : Value.okWide P W r b0 t v) : v.cells.toList = [v] := by
  simp only [Value.okWide, ht] at hval
  cases v <;> first | rfl | (simp [Cell.okWide, ht] at hval; done) | (exfalso; simp_all [Cell.okWide, Cell.ok])
end
end Go.Proofs.YtlodalppnglclaaDoor
/- The library's contracts that layer 3 leans on, laid at this program's numbers. -/
namespace Go.Proofs.YtlodalppnglclaaDoor
open Go Go.RowKit
/-! strings.IndexByte -/
section
open Go.Shelf
def ixb_ren : Go.Shelf.Ren := ⟨fun | 137 => 73 | 217 => 92 | 266 => 101 | n => n, fun | 9 => 9 | 5 => 5 | 3 => 3 | n => n, fun | n => n⟩
theorem ixb_lays : Go.Proofs.Lays.n137 Tryd.prog ixb_ren := {
  mixed := by kernel_rfl
  f137 := Tryd.func73.trans (congrArg some (by kernel_rfl))
  f217 := Tryd.func92.trans (congrArg some (by kernel_rfl))
  f266 := Tryd.func101.trans (congrArg some (by kernel_rfl))
  t3 := Tryd.underlying3
  a3 := Tryd.isAgg3
  z3 := Tryd.sizeOf3
  v3 := Tryd.zeroValue3
  t5 := Tryd.underlying5
  a5 := Tryd.isAgg5
  z5 := Tryd.sizeOf5
  v5 := Tryd.zeroValue5
  t9 := Tryd.underlying9
  a9 := Tryd.isAgg9
  z9 := Tryd.sizeOf9
  v9 := Tryd.zeroValue9 }
end
end Go.Proofs.YtlodalppnglclaaDoor
/- Words for regions that draw their order and hold loads of whole arrays beside calls that make memory; arrays of bytes compared. -/
namespace Go.Proofs.YtlodalppnglclaaDoor
open Go Go.RowKit
/-- In each world that S allows, the row stands. -/
theorem takes_row {P : Program} {ops : Array Oper} {S : World → Prop} {o : Oper} {a : Act} (ty : TypeId) (x : Operand) (ho : o.op = .load ty x) (hw : Region.wanted o (yielded ops a.tmps) = true)
    (g : Nat) (hx : a.eval x = .pointer (some ⟨g, 0, none⟩)) (t : TypeId) (cs : Array Value) (d : TypeDesc) (hg : ∀ w, S w → Blk w g t cs)
    (hu : P.underlying ty = some d) (hd : (match d with | .struct _ | .array _ _ => true | _ => false) = true) (hi : (P.info? ty).map (·.size) = some cs.size) : YieldsIf P ops S o (.agg cs) a :=
  Or.inl ⟨hw, fun w h => by
    unfold execOp
    simp only [ho, hx, Instr.loadAt, Instr.sureAddr, Sem.run_bind, Sem.run_pure, Result.andThen_ok, run_loadVar_row w g t ty cs (0, 0) d (hg w h) hu hd hi]⟩
/-- A load of a whole row in a region that keeps its order, whatever its guard, if it is carried out. -/
theorem wpList_row_w {P : Program} {ops : Array Oper} {rest : List Oper} {o : Oper} {a : Act} {w : World} {Q : Exit → Act → World → Prop} (hw : Region.wanted o (yielded ops a.tmps) = true) (ty : TypeId) (x : Operand) (ho : o.op = .load ty x)
    (g : Nat) (hx : a.eval x = .pointer (some ⟨g, 0, none⟩)) (t : TypeId) (cs : Array Value) (d : TypeDesc) (hg : Blk w g t cs)
    (hu : P.underlying ty = some d) (hd : (match d with | .struct _ | .array _ _ => true | _ => false) = true) (hi : (P.info? ty).map (·.size) = some cs.size)
    (h : wpList P ops Q rest (a.put o.dst (.agg cs)) w) : wpList P ops Q (o :: rest) a w :=
  wpList_step fun K hK => by
    simp only [hw, if_true]
    exact wp_load_row ty x ho g hx t cs (0, 0) d hg hu hd hi (hK _ _ h)
theorem all_one {P : Program} {md : Region.Mode} {ops : Array Oper} {Q : Exit → Act → World → Prop} {S : World → Prop} {i : Nat} {oi : Oper} {fuel : Nat} {listed : Array Bool} {a : Act} {w : World}
    (hr : Region.ready md ops listed = [i]) (hi : ops[i]? = some oi) (wi : Region.wanted oi (yielded ops a.tmps) = true)
    (h1 : ∀ K : Act → World → Prop, (∀ a' w', S w' → wpAnyH P md ops Q S fuel (listed.setIfInBounds i true) a' w' → K a' w') → oi.wp P a w K Q) : wpAnyH P md ops Q S (fuel + 1) listed a w := by
  refine wpAnyH_all hr (by simp) fun k hk => ?_
  obtain rfl := List.mem_singleton.1 hk
  unfold wpOp
  simp only [hi, wi, if_true]
  exact Or.inl (h1 (fun a' w' => S w' ∧ wpAnyH P md ops Q S fuel (listed.setIfInBounds k true) a' w') fun _ _ hs hh => ⟨hs, hh⟩)
/-! arrays of bytes compared -/
theorem u8s_cell (xs : List Nat) (hb : Sha.Byte xs) : u8s xs = ((xs.map UInt8.ofNat).map Extern.Stop.cell).toArray := by
  unfold u8s
  congr 1
  rw [List.map_map]
  apply List.map_congr_left
  intro x hx
  obtain ⟨i, hi, rfl⟩ := List.mem_iff_getElem.1 hx
  have h : xs[i] < 256 := by have := hb i; simpa [List.getD, hi] using this
  simp [Extern.Stop.cell, Nat.mod_eq_of_lt h]
theorem ofNat_inj : ∀ (xs ys : List Nat), Sha.Byte xs → Sha.Byte ys → (xs.map UInt8.ofNat == ys.map UInt8.ofNat) = (xs == ys)
  | [], [], _, _ => rfl
  | [], _ :: _, _, _ => rfl
  | _ :: _, [], _, _ => rfl
  | x :: xs, y :: ys, hx, hy => by
    have ih := ofNat_inj xs ys (fun i => by simpa using hx (i + 1)) (fun i => by simpa using hy (i + 1))
    have h1 : x < 256 := by simpa using hx 0
    have h2 : y < 256 := by simpa using hy 0
    rw [List.map_cons, List.map_cons, List.cons_beq_cons, List.cons_beq_cons, ih]
    congr 1
    rw [Bool.eq_iff_iff]
    simp only [beq_iff_eq, ← UInt8.toNat_inj]
    simp [Nat.mod_eq_of_lt h1, Nat.mod_eq_of_lt h2]
theorem run_equalIn_u8s {P : Program} (w : World) (t e : TypeId) (n : Nat) (ht : P.underlying t = some (.array n e)) (he : P.underlying e = some (.int .u8)) (hsz : ∀ w, (sizeOf e).run P w = .ok 1 w)
    (xs ys : List Nat) (hx : xs.length = n) (hy : ys.length = n) (hbx : Sha.Byte xs) (hby : Sha.Byte ys) :
    (Op.equalIn 10000 t (.agg (u8s xs)) (.agg (u8s ys))).run P w = .ok (xs == ys) w := by
  rw [u8s_cell xs hbx, u8s_cell ys hby, ← ofNat_inj xs ys hbx hby]
  exact run_equalIn_bytes w 9998 t e n ht he hsz (xs.map UInt8.ofNat) (ys.map UInt8.ofNat) (by rw [List.length_map, hx]) (by rw [List.length_map, hy])
end Go.Proofs.YtlodalppnglclaaDoor
/- Rows of bytes of the call's own: append, what a slice holds, bytes as a text. -/
namespace Go.Proofs.YtlodalppnglclaaDoor
open Go Go.RowKit
def cellsB (x : List Nat) : List Value := x.map fun (n : Nat) => Value.int .u8 (n : Int)
theorem cellsB_len (x : List Nat) : (cellsB x).length = x.length := by simp [cellsB]
theorem cellsB_one (x : List Nat) : ∀ v ∈ cellsB x, v.oneCell' = true := by
  intro v hv
  obtain ⟨n, _, rfl⟩ := List.mem_map.1 hv
  rfl
theorem cellsB_get {x : List Nat} {i : Nat} (h : i < x.length) : (cellsB x)[i]? = some (.int .u8 ((x.getD i 0 : Nat) : Int)) := by
  simp [cellsB, List.getD, h]
theorem byte_info : (Tryd.prog.info? 5).map (fun i => (i.zero, i.size, i.bytes)) = some (some (.int .u8 0), 1, 1) := by kernel_rfl
/-- append of bytes, wherever they come from, onto a row of the call's own -/
theorem wpList_appendB {ops : Array Oper} {rest : List Oper} {o : Oper} {a : Act} {w : World} {Q : Exit → Act → World → Prop} (hgd : o.guard = none) (s x : Operand)
    (ho : o.op = .call { callee := .builtin .append, args := #[s, x], argTypes := #[40, 40] }) (base : Nat) (v : Value) (ys : List Nat) (hs : a.eval s = v) (hown : w.ownsRow base 5 1 v ys.length (cellsB ys)) (hbase : base ≤ w.heap.size)
    (u : Value) (hx : a.eval x = u) (xs : List Nat) (hu : Rd w u xs) (hz : ys.length + xs.length ≤ 70368744177664)
    (h : ∀ v' w', w'.ownsRow base 5 1 v' (ys ++ xs).length (cellsB (ys ++ xs)) → w.grownBy w' v.ownBlock → wpList Tryd.prog ops Q rest (a.put o.dst v') w') : wpList Tryd.prog ops Q (o :: rest) a w := by
  obtain ⟨i0, hi0, hiz, his, hib⟩ := info_parts byte_info
  obtain ⟨A, c, rfl, hc, hA⟩ := hu
  have e0 : cellsB ys ++ cellsB xs = cellsB (ys ++ xs) := by simp [cellsB]
  cases A with
  | some ad =>
    refine wpList_append_own w hgd s x 40 ho base 5 i0 _ 1 1 Tryd.underlying40 hi0 hiz his hib rfl (by decide) v ys.length (cellsB ys) hs hown ad xs.length c (cellsB xs) hx (by rw [cellsB_len, Nat.mul_one]) ?_ (cellsB_one _) (by unfold maxLen; omega) (by omega) hbase ?_
    · intro j t hj
      have hjl : j < xs.length := by have := (List.getElem?_eq_some_iff.1 hj).1; rwa [cellsB_len] at this
      obtain ⟨b, o', ha, _, hxx⟩ := hA (by omega)
      obtain rfl := Option.some.inj ha
      rw [cellsB_get hjl] at hj
      rw [Addr.add_mid, hxx j hjl, hj]
    · intro v' w' h1 h2 _
      rw [e0, ← List.length_append] at h1
      exact h v' w' h1 h2
  | none =>
    have hn : xs.length = 0 := by
      rcases Nat.eq_zero_or_pos xs.length with h0 | h0
      · exact h0
      · obtain ⟨b, o', ha, _⟩ := hA h0
        cases ha
    have e : xs = [] := List.eq_nil_of_length_eq_zero hn
    subst e
    refine wpList_plain hgd fun K hK => ?_
    have hrun : ∀ ty, (Builtin.append_ #[40, 40] ty #[v, .slice none 0 c]).run Tryd.prog w = .ok v w := fun ty => by
      rcases hown.2 with ⟨hv, hn0⟩ | ⟨g, cap, cur, hv, _, _, hnc, _⟩
      · rw [hv]
        simp [Builtin.append_, run_underlying Tryd.underlying40, sizeOf, typeInfo, hi0, Builtin.lenOf, Builtin.firstCells]
      · rw [hv]
        simp [Builtin.append_, run_underlying Tryd.underlying40, sizeOf, typeInfo, hi0, Builtin.lenOf, Builtin.firstCells, hnc, storeCells]
    unfold Oper.wp execOp
    simp only [ho, resolve, invoke, builtin, Sem.run_bind, Sem.run_pure, Result.andThen_ok, List.map_toArray, List.map_cons, List.map_nil, hs, hx]
    rw [show ([] : List Nat).length = 0 from rfl, hrun]
    exact hK _ _ (h _ _ (by rw [List.append_nil]; exact hown) (World.grownBy.refl w _))
theorem ownsRow_alloc {w : World} {base : Nat} {e : TypeId} {size n : Nat} {v : Value} {xs : List Value} (h : w.ownsRow base e size v n xs) (o : Obj) : (w.alloc o).ownsRow base e size v n xs := by
  refine ⟨h.1, ?_⟩
  rcases h.2 with hn | ⟨g, cap, cur, rfl, hb, hgg, hr⟩
  · exact .inl hn
  · exact .inr ⟨g, cap, cur, rfl, hb, by rw [heap_alloc_old _ _ (Array.getElem?_eq_some_iff.1 hgg).1]; exact hgg, hr⟩
theorem rd_of_lit (w : World) (l : List Nat) (t : TypeId) (_h0 : 0 < l.length) : Rd (w.alloc (.cells (u8s l) t)) (.slice (some ⟨w.heap.size, 0, none⟩) l.length l.length) l := by
  have hB : Blk (w.alloc (.cells (u8s l) t)) w.heap.size t (u8s l) := Blk.new w _ _
  refine ⟨_, _, rfl, Nat.le_refl _, fun _ => ⟨w.heap.size, 0, rfl, hB.lt, fun i hi => ?_⟩⟩
  rw [Nat.zero_add, hB.cell i, u8s_get _ _ hi]
theorem below_own {a b c : World} {base size n : Nat} {e : TypeId} {v : Value} {xs : List Value} (h : Below a.heap.size a b) (ho : b.ownsRow base e size v n xs) (hb : a.heap.size ≤ base) (k : b.grownBy c v.ownBlock) : Below a.heap.size a c := by
  cases hv : v.ownBlock with
  | none =>
    rw [hv] at k
    exact ⟨k.os.trans h.os, k.tape.trans h.tape, k.output.trans h.output, Nat.le_trans h.size k.size, fun i hi => (k.block i (Nat.lt_of_lt_of_le hi h.size) (by simp)).trans (h.block i hi)⟩
  | some g =>
    rw [hv] at k
    exact below_of_only h k (Nat.le_trans hb (ho.lt g hv).1)
theorem conv_rd {w : World} {v : Value} {xs : List Nat} (h : Rd w v xs) : (convert 40 9 v).run Tryd.prog w = .ok (.string (textOf xs)) w := by
  obtain ⟨A, c, rfl, hc, hA⟩ := h
  rcases Nat.eq_zero_or_pos xs.length with h0 | h0
  · have e : xs = [] := List.eq_nil_of_length_eq_zero h0
    subst e
    cases A with
    | none => exact run_convert_bytes_nil w 40 5 Tryd.underlying40 Tryd.underlying5 0 c 9 Tryd.underlying9
    | some a =>
      have hl : (loadCells a 0).run Tryd.prog w = .ok #[] w := by simpa using run_loadCells_list (P := Tryd.prog) w a [] (by simp)
      rw [run_convert_bytes_string w 40 9 5 _ _ c Tryd.underlying40 Tryd.underlying5 Tryd.underlying9]
      simp [Conv.bytesToString, hl, textOf]
      try rfl
  · obtain ⟨b, o, rfl, hb, hx⟩ := hA h0
    exact run_text w 40 9 5 Tryd.underlying40 Tryd.underlying5 Tryd.underlying9 b o xs.length c xs rfl hx
theorem rd_of_own {w : World} {base n : Nat} {v : Value} {l : List Nat} (h : w.ownsRow base 5 1 v n (cellsB l)) (hn : n = l.length) : Rd w v l := by
  subst hn
  rcases h.2 with ⟨rfl, h0⟩ | ⟨g, cap, cur, rfl, _, hh, hcap, _, hcs, hxs⟩
  · exact ⟨none, 0, by rw [h0], by omega, fun h1 => by omega⟩
  · refine ⟨_, _, rfl, hcap, fun _ => ⟨g, 0, rfl, (Array.getElem?_eq_some_iff.1 hh).1, fun i hi => ?_⟩⟩
    rw [Nat.zero_add, cell_of_row _ _ _ _ _ _ hh]
    have h := congrArg (·[i]?) hxs
    simp only [List.getElem?_take, if_pos (show i < l.length * 1 by omega)] at h
    rw [show cur[i]? = cur.toList[i]? by simp, h]
    exact cellsB_get hi
/-- what the padding's loops keep: the bytes so far are the call's own row -/
structure Pad (B : Nat) (w : World) (s : Value) (ys : List Nat) (wr : World) : Prop where
  own : wr.ownsRow B 5 1 s ys.length (cellsB ys)
  bel : Below B w wr
theorem below_ownB {a b c : World} {B size n : Nat} {e : TypeId} {v : Value} {xs : List Value} (hB : a.heap.size = B) (h : Below B a b) (ho : b.ownsRow B e size v n xs) (k : b.grownBy c v.ownBlock) : Below B a c := by
  subst hB
  exact below_own h ho (Nat.le_refl _) k
theorem Pad.len {B : Nat} {w : World} {s : Value} {ys : List Nat} {wr : World} (h : Pad B w s ys wr) : ∃ A c, s = .slice A ys.length c := by
  rcases h.own.2 with ⟨hv, hn⟩ | ⟨g, cap, cur, hv, _⟩
  · exact ⟨none, 0, by rw [hv, hn]⟩
  · exact ⟨_, cap, hv⟩
theorem Pad.rd {B : Nat} {w : World} {s : Value} {ys : List Nat} {wr : World} (h : Pad B w s ys wr) : Rd wr s ys := rd_of_own h.own rfl
end Go.Proofs.YtlodalppnglclaaDoor
/- Layer 2's letters: which there are, how long their numbers are, the greatest of them; a number as bytes. -/
namespace Go.Proofs.YtlodalppnglclaaDoor
open Go Go.RowKit
namespace Oc
def size (c : Nat) : Int := if c = 98 then 1 else if c = 119 then 4 else if c = 113 then 8 else if c = 111 then 0 else if c = 116 then 0 else -1
def nsize (c : Nat) : Int := if c = 98 then 1 else if c = 119 then 4 else if c = 113 then 8 else 0
def most (c : Nat) : Int := if c = 98 then 255 else if c = 119 then 4294967295 else if c = 113 then 4611686018427387903 else 0
end Oc
theorem ret_ii {a b x y : Int} (h : a = b ∧ x = y) : Ending.returned (.tuple #[.int .i64 a, .int .i64 x]) = .returned (.tuple #[.int .i64 b, .int .i64 y]) := by rw [h.1, h.2]
theorem number_any (c : Nat) (w : World) :
    Calls Tryd.prog 93 #[.int .u8 ((c : Nat) : Int)] w fun e w' => e = .returned (.tuple #[.int .i64 (Oc.nsize c), .int .i64 (Oc.most c)]) ∧ w = w' := by
  rcases Nat.decEq c 98 with h1 | h1
  · rcases Nat.decEq c 119 with h2 | h2
    · rcases Nat.decEq c 113 with h3 | h3
      · have HV := Lib.hid (show Oc.nsize c = 0 ∧ Oc.most c = 0 from ⟨by unfold Oc.nsize; rw [if_neg h1, if_neg h2, if_neg h3], by unfold Oc.most; rw [if_neg h1, if_neg h2, if_neg h3]⟩)
        go_enter Tryd.func93, Tryd.ntmps93
        go_wp2
        go_ret2
        exact ⟨ret_ii ⟨HV.out.1.symm, HV.out.2.symm⟩, rfl⟩
      · subst h3
        go_enter Tryd.func93, Tryd.ntmps93
        go_wp2
        go_ret2
        exact ⟨rfl, rfl⟩
    · subst h2
      go_enter Tryd.func93, Tryd.ntmps93
      go_wp2
      go_ret2
      exact ⟨rfl, rfl⟩
  · subst h1
    go_enter Tryd.func93, Tryd.ntmps93
    go_wp2
    go_ret2
    exact ⟨rfl, rfl⟩
end Go.Proofs.YtlodalppnglclaaDoor
/- Layer 2's numbers as bytes: octets.putNumber, and the document's own Num. -/
namespace Go.Proofs.YtlodalppnglclaaDoor
open Go Go.RowKit
namespace Oc
/-- n's bytes, the greatest first. -/
def nums (s n : Nat) : List Nat := (List.range s).map fun i => n / 2^(8 * (s - 1 - i)) % 256
end Oc
/-- what isn't a row of bytes stands as it stood -/
def Others (w w' : World) : Prop := ∀ (p : Nat) (cs : Array Value) (T : TypeId) (z : Nat × Nat), T ≠ 5 → w.heap[p]? = some (Obj.cells cs T z) → w'.heap[p]? = some (Obj.cells cs T z)
theorem Others.refl (w : World) : Others w w := fun _ _ _ _ _ h => h
theorem Others.trans {a b c : World} (h : Others a b) (k : Others b c) : Others a c := fun p cs T z n e => k p cs T z n (h p cs T z n e)
theorem Others.alloc {a b : World} (h : Others a b) (o : Obj) : Others a (b.alloc o) := fun p cs T z n e => by
  have h1 := h p cs T z n e
  rw [heap_alloc_old _ _ (Array.getElem?_eq_some_iff.1 h1).1]
  exact h1
theorem Others.own {a b c : World} {B size n : Nat} {v : Value} {xs : List Value} (h : Others a b) (ho : b.ownsRow B 5 size v n xs) (k : b.grownBy c v.ownBlock) : Others a c := fun p cs T z hT e => by
  have h1 := h p cs T z hT e
  rw [k.block p (Array.getElem?_eq_some_iff.1 h1).1 ?_]
  · exact h1
  · intro hp
    rcases ho.2 with ⟨rfl, _⟩ | ⟨g, cap, cur, rfl, _, hh, _⟩
    · cases hp
    · cases hp
      rw [hh] at h1
      cases h1
      exact hT rfl
namespace Oc
end Oc
end Go.Proofs.YtlodalppnglclaaDoor
/- One field of layer 2: whether it has bytes (octets.fits), and which (octets.put). -/
namespace Go.Proofs.YtlodalppnglclaaDoor
open Go Go.RowKit
namespace Oc
def fits (c : Nat) (n : Int) (l : Nat) : Bool := if c = 111 then decide (l = 32) else if c = 116 then decide (l ≤ 65535) else decide (0 ≤ n) && decide (n ≤ most c)
def enc (c : Nat) (n : Int) (bs : List Nat) : List Nat := if c = 111 then bs else if c = 116 then nums 2 bs.length ++ bs else nums (nsize c).toNat n.toNat
theorem most_le (c : Nat) : most c ≤ 4611686018427387903 := by
  unfold most
  by_cases h1 : c = 98
  · rw [if_pos h1]; decide
  rw [if_neg h1]
  by_cases h2 : c = 119
  · rw [if_pos h2]; decide
  rw [if_neg h2]
  by_cases h3 : c = 113
  · rw [if_pos h3]; decide
  rw [if_neg h3]; decide
end Oc
end Go.Proofs.YtlodalppnglclaaDoor
/- The bytes of one field of layer 2 (octets.put). -/
namespace Go.Proofs.YtlodalppnglclaaDoor
open Go Go.RowKit
end Go.Proofs.YtlodalppnglclaaDoor
/- Fields of layer 2 as bytes: octets.Write. -/
namespace Go.Proofs.YtlodalppnglclaaDoor
open Go Go.RowKit
/-- A field as it lies: its number, its bytes' slice, its bytes. -/
structure Fld where
  n : Int
  A : Option Addr
  l : Nat
  c : Nat
  bs : List Nat
/-- Fields as they lie in a block. -/
structure FRow (w : World) (b o : Nat) (fs : List Fld) : Prop where
  n : ∀ i (h : i < fs.length), w.cell? ⟨b, o + 2 * i, none⟩ = some (.int .i64 fs[i].n)
  s : ∀ i (h : i < fs.length), w.cell? ⟨b, o + 2 * i + 1, none⟩ = some (.slice fs[i].A fs[i].l fs[i].c)
  r : ∀ f ∈ fs, Rd w (.slice f.A f.l f.c) f.bs ∧ f.bs.length = f.l
  lt : b < w.heap.size
theorem FRow.below {w w' : World} {B b o : Nat} {fs : List Fld} (h : FRow w b o fs) (hb : Below B w w') (hB : w.heap.size ≤ B) : FRow w' b o fs :=
  have e : ∀ i, w'.cell? ⟨b, i, none⟩ = w.cell? ⟨b, i, none⟩ := fun _i => World.cell?_of_block (hb.block b (Nat.lt_of_lt_of_le h.lt hB))
  ⟨fun i hi => (e _).trans (h.n i hi), fun i hi => (e _).trans (h.s i hi), fun f hf => ⟨(h.r f hf).1.below hb hB, (h.r f hf).2⟩, Nat.lt_of_lt_of_le h.lt hb.size⟩
namespace Oc
def okTo (s : List UInt8) (fs : List Fld) (k : Nat) : Prop := ∀ i (h1 : i < s.length) (h2 : i < fs.length), i < k → fits s[i].toNat fs[i].n fs[i].l = true
theorem okTo_succ {s : List UInt8} {fs : List Fld} {k : Nat} (h : okTo s fs k) (h1 : k < s.length) (h2 : k < fs.length) (hf : fits s[k].toNat fs[k].n fs[k].l = true) : okTo s fs (k + 1) := fun i a b c => by
  rcases Nat.lt_or_ge i k with hk | hk
  · exact h i a b hk
  · obtain rfl : i = k := by omega
    exact hf
end Oc
theorem Pad.alloc {w : World} {s : Value} {ys : List Nat} {wr : World} (h : Pad w.heap.size w s ys wr) (o : Obj) : Pad w.heap.size w s ys (wr.alloc o) := ⟨ownsRow_alloc h.own o, h.bel.alloc h.bel.size o⟩
theorem Pad.drew {B : Nat} {w : World} {s : Value} {ys : List Nat} {wr : World} (h : Pad B w s ys wr) : Pad B w s ys wr.drew := ⟨h.own.drew, below_drewN h.bel 1⟩
end Go.Proofs.YtlodalppnglclaaDoor
/- The document's comparison of two rows of fields (cartageref02.Same). -/
namespace Go.Proofs.YtlodalppnglclaaDoor
open Go Go.RowKit
end Go.Proofs.YtlodalppnglclaaDoor
/- Fields as the document's fields (cartagelaw02.of). -/
namespace Go.Proofs.YtlodalppnglclaaDoor
open Go Go.RowKit
end Go.Proofs.YtlodalppnglclaaDoor
/- Fields as bytes by the document's own Write (cartageref02.Write). -/
namespace Go.Proofs.YtlodalppnglclaaDoor
open Go Go.RowKit
theorem Pad.step {w : World} {s : Value} {ys : List Nat} {wr w' : World} (h : Pad w.heap.size w s ys wr) (k : Below wr.heap.size wr w') : Pad w.heap.size w s ys w' :=
  ⟨h.own.kept (row := none) ⟨k.os, k.tape, k.output, k.size, fun i hi _ => k.block i hi⟩ (by cases s.ownBlock with | none => exact Or.inl rfl | some _ => exact Or.inr (by simp)),
   ⟨k.os.trans h.bel.os, k.tape.trans h.bel.tape, k.output.trans h.bel.output, Nat.le_trans h.bel.size k.size, fun i hi => (k.block i (Nat.lt_of_lt_of_le hi h.bel.size)).trans (h.bel.block i hi)⟩⟩
theorem Pad.drewN {B : Nat} {w : World} {s : Value} {ys : List Nat} {wr : World} (h : Pad B w s ys wr) (n : Nat) : Pad B w s ys (wr.drewN n) := ⟨h.own, below_drewN h.bel n⟩
theorem Others.of_below {a b : World} (h : Below a.heap.size a b) : Others a b := fun p _ _ _ _ e => (h.block p (Array.getElem?_eq_some_iff.1 e).1).trans e
namespace Oc
end Oc
end Go.Proofs.YtlodalppnglclaaDoor
/- Reading by shapes: which fields bytes are; what was written is read again, and what is read was written so. -/
namespace Go.Proofs.YtlodalppnglclaaDoor
open Go Go.RowKit
namespace Oc
/-- the number that bytes are, the greatest first -/
def val (l : List Nat) : Nat := l.foldl (fun n b => n * 256 + b) 0
theorem val_snoc (l : List Nat) (x : Nat) : val (l ++ [x]) = val l * 256 + x := by simp [val]
theorem val_take {l : List Nat} {k : Nat} (h : k < l.length) : val (l.take (k + 1)) = val (l.take k) * 256 + l.getD k 0 := by
  rw [List.take_succ_eq_append_getElem h, val_snoc]; simp [List.getD, h]
def bytes (l : List Nat) : Prop := ∀ x ∈ l, x < 256
theorem bytes_of {l : List Nat} (h : Sha.Byte l) : bytes l := fun x hx => by
  obtain ⟨i, hi, rfl⟩ := List.mem_iff_getElem.1 hx
  have := h i
  simpa [List.getD, hi] using this
theorem bytes_take {l : List Nat} (h : bytes l) (k : Nat) : bytes (l.take k) := fun x hx => h x (List.mem_of_mem_take hx)
theorem bytes_drop {l : List Nat} (h : bytes l) (k : Nat) : bytes (l.drop k) := fun x hx => h x (List.mem_of_mem_drop hx)
theorem val_lt : ∀ (s : Nat) (l : List Nat), bytes l → l.length = s → val l < 256 ^ s
  | 0, l, _, h => by rw [List.eq_nil_of_length_eq_zero h]; simp [val]
  | s + 1, l, hb, h => by
    have hne : l ≠ [] := by rintro rfl; simp at h
    rw [← List.dropLast_concat_getLast hne] at hb ⊢
    have h1 := val_lt s l.dropLast (fun x hx => hb x (List.mem_append_left _ hx)) (by simp [h])
    have h2 := hb (l.getLast hne) (by simp)
    rw [val_snoc, Nat.pow_succ]
    omega
/-- how long a letter's number is, and the greatest one -/
def zs (c : Nat) : Nat := (nsize c).toNat
def mostN (c : Nat) : Nat := (most c).toNat
inductive Stp where
  | bad (e : Nat)
  | ok (n : Nat) (x : List Nat) (k : Nat)
/-- one field -/
def step (c : Nat) (bs : List Nat) : Stp :=
  if c = 111 then (if bs.length < 32 then .bad 2 else .ok 0 (bs.take 32) 32)
  else if c = 116 then (if bs.length < 2 then .bad 2 else if bs.length < 2 + val (bs.take 2) then .bad 2 else .ok 0 ((bs.drop 2).take (val (bs.take 2))) (2 + val (bs.take 2)))
  else if bs.length < zs c then .bad 2 else if mostN c < val (bs.take (zs c)) then .bad 1 else .ok (val (bs.take (zs c))) [] (zs c)
inductive Got where
  | bad (e : Nat)
  | ok (l : List (Nat × List Nat)) (p : Nat)
def Got.next (bs : List Nat) (g : Got) (c : Nat) : Got :=
  match g with
  | .bad e => .bad e
  | .ok l p => match step c (bs.drop p) with
    | .bad e => .bad e
    | .ok n x k => .ok (l ++ [(n, x)]) (p + k)
/-- the fields, and how many bytes they are -/
def reads (s : List Nat) (bs : List Nat) : Got := s.foldl (Got.next bs) (.ok [] 0)
theorem next_bad (bs : List Nat) (e : Nat) : ∀ (s : List Nat), s.foldl (Got.next bs) (.bad e) = .bad e
  | [] => rfl
  | _ :: s => next_bad bs e s
theorem next_ok (bs : List Nat) : ∀ (s : List Nat) (l0 : List (Nat × List Nat)) (p0 : Nat) (l : List (Nat × List Nat)) (p : Nat), s.foldl (Got.next bs) (.ok l0 p0) = .ok l p → ∃ l1, l = l0 ++ l1 ∧ l1.length = s.length
  | [], l0, p0, l, p, h => by
    injection h with h1 h2
    exact ⟨[], by simp [h1], rfl⟩
  | c :: s, l0, p0, l, p, h => by
    rw [List.foldl_cons, Got.next] at h
    cases hs : step c (bs.drop p0) with
    | bad e =>
      rw [hs] at h
      rw [next_bad] at h
      cases h
    | ok n x k =>
      rw [hs] at h
      obtain ⟨l1, h1, h2⟩ := next_ok bs s _ _ l p h
      exact ⟨(n, x) :: l1, by rw [h1]; simp, by simp [h2]⟩
end Oc
end Go.Proofs.YtlodalppnglclaaDoor
