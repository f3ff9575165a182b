/- Words for regions that draw their order and hold loads of whole arrays beside calls that make memory; arrays of bytes compared. -/
import Derived.Test.YtagplmlhpocbjaaDoorBase
import Derived.Test.YtagplmlhpocbjaaDoorShaMath
import Derived.OrdersHeld
import Derived.Stop.BytesEq
namespace Go.Proofs.YtagplmlhpocbjaaDoor
open Go Go.RowKit
/-- In each world that S allows, the row stands. -/
theorem takes_row {P : Program} {ops : Array Oper} {S : World → Prop} {o : Oper} {a : Act} (ty : TypeId) (x : Operand) (ho : o.op = .load ty x) (hw : Region.wanted o (yielded ops a.tmps) = true)
    (g : Nat) (hx : a.eval x = .pointer (some ⟨g, 0, none⟩)) (t : TypeId) (cs : Array Value) (d : TypeDesc) (hg : ∀ w, S w → Blk w g t cs)
    (hu : P.underlying ty = some d) (hd : (match d with | .struct _ | .array _ _ => true | _ => false) = true) (hi : (P.info? ty).map (·.size) = some cs.size) : YieldsIf P ops S o (.agg cs) a :=
  Or.inl ⟨hw, fun w h => by
    unfold execOp
    simp only [ho, hx, Instr.loadAt, Instr.sureAddr, Sem.run_bind, Sem.run_pure, Result.andThen_ok, run_loadVar_row w g t ty cs (0, 0) d (hg w h) hu hd hi]⟩
/-- A load of a whole row in a region that keeps its order, whatever its guard, if it is carried out. -/
theorem wpList_row_w {P : Program} {ops : Array Oper} {rest : List Oper} {o : Oper} {a : Act} {w : World} {Q : Exit → Act → World → Prop} (hw : Region.wanted o (yielded ops a.tmps) = true) (ty : TypeId) (x : Operand) (ho : o.op = .load ty x)
    (g : Nat) (hx : a.eval x = .pointer (some ⟨g, 0, none⟩)) (t : TypeId) (cs : Array Value) (d : TypeDesc) (hg : Blk w g t cs)
    (hu : P.underlying ty = some d) (hd : (match d with | .struct _ | .array _ _ => true | _ => false) = true) (hi : (P.info? ty).map (·.size) = some cs.size)
    (h : wpList P ops Q rest (a.put o.dst (.agg cs)) w) : wpList P ops Q (o :: rest) a w :=
  wpList_step fun K hK => by
    simp only [hw, if_true]
    exact wp_load_row ty x ho g hx t cs (0, 0) d hg hu hd hi (hK _ _ h)
/-- Whichever of two comes up. -/
theorem all_two {P : Program} {md : Region.Mode} {ops : Array Oper} {Q : Exit → Act → World → Prop} {S : World → Prop} {i j : Nat} {oi oj : Oper} {fuel : Nat} {listed : Array Bool} {a : Act} {w : World}
    (hr : Region.ready md ops listed = [i, j]) (hi : ops[i]? = some oi) (hj : ops[j]? = some oj) (wi : Region.wanted oi (yielded ops a.tmps) = true) (wj : Region.wanted oj (yielded ops a.tmps) = true)
    (h1 : ∀ K : Act → World → Prop, (∀ a' w', S w' → wpAnyH P md ops Q S fuel (listed.setIfInBounds i true) a' w' → K a' w') → oi.wp P a w K Q)
    (h2 : ∀ K : Act → World → Prop, (∀ a' w', S w' → wpAnyH P md ops Q S fuel (listed.setIfInBounds j true) a' w' → K a' w') → oj.wp P a w K Q) : wpAnyH P md ops Q S (fuel + 1) listed a w := by
  refine wpAnyH_all hr (by simp) fun k hk => ?_
  rcases List.mem_cons.1 hk with rfl | hk
  · unfold wpOp
    simp only [hi, wi, if_true]
    exact Or.inl (h1 (fun a' w' => S w' ∧ wpAnyH P md ops Q S fuel (listed.setIfInBounds k true) a' w') fun _ _ hs hh => ⟨hs, hh⟩)
  · obtain rfl := List.mem_singleton.1 hk
    unfold wpOp
    simp only [hj, wj, if_true]
    exact Or.inl (h2 (fun a' w' => S w' ∧ wpAnyH P md ops Q S fuel (listed.setIfInBounds k true) a' w') fun _ _ hs hh => ⟨hs, hh⟩)
theorem all_one {P : Program} {md : Region.Mode} {ops : Array Oper} {Q : Exit → Act → World → Prop} {S : World → Prop} {i : Nat} {oi : Oper} {fuel : Nat} {listed : Array Bool} {a : Act} {w : World}
    (hr : Region.ready md ops listed = [i]) (hi : ops[i]? = some oi) (wi : Region.wanted oi (yielded ops a.tmps) = true)
    (h1 : ∀ K : Act → World → Prop, (∀ a' w', S w' → wpAnyH P md ops Q S fuel (listed.setIfInBounds i true) a' w' → K a' w') → oi.wp P a w K Q) : wpAnyH P md ops Q S (fuel + 1) listed a w := by
  refine wpAnyH_all hr (by simp) fun k hk => ?_
  obtain rfl := List.mem_singleton.1 hk
  unfold wpOp
  simp only [hi, wi, if_true]
  exact Or.inl (h1 (fun a' w' => S w' ∧ wpAnyH P md ops Q S fuel (listed.setIfInBounds k true) a' w') fun _ _ hs hh => ⟨hs, hh⟩)
/-! arrays of bytes compared -/
theorem u8s_cell (xs : List Nat) (hb : Sha.Byte xs) : u8s xs = ((xs.map UInt8.ofNat).map Extern.Stop.cell).toArray := by
  unfold u8s
  congr 1
  rw [List.map_map]
  apply List.map_congr_left
  intro x hx
  obtain ⟨i, hi, rfl⟩ := List.mem_iff_getElem.1 hx
  have h : xs[i] < 256 := by have := hb i; simpa [List.getD, hi] using this
  simp [Extern.Stop.cell, Nat.mod_eq_of_lt h]
theorem ofNat_inj : ∀ (xs ys : List Nat), Sha.Byte xs → Sha.Byte ys → (xs.map UInt8.ofNat == ys.map UInt8.ofNat) = (xs == ys)
  | [], [], _, _ => rfl
  | [], _ :: _, _, _ => rfl
  | _ :: _, [], _, _ => rfl
  | x :: xs, y :: ys, hx, hy => by
    have ih := ofNat_inj xs ys (fun i => by simpa using hx (i + 1)) (fun i => by simpa using hy (i + 1))
    have h1 : x < 256 := by simpa using hx 0
    have h2 : y < 256 := by simpa using hy 0
    rw [List.map_cons, List.map_cons, List.cons_beq_cons, List.cons_beq_cons, ih]
    congr 1
    rw [Bool.eq_iff_iff]
    simp only [beq_iff_eq, ← UInt8.toNat_inj]
    simp [Nat.mod_eq_of_lt h1, Nat.mod_eq_of_lt h2]
theorem run_eq_u8s {P : Program} (w : World) (t e : TypeId) (n : Nat) (ht : P.underlying t = some (.array n e)) (he : P.underlying e = some (.int .u8)) (hsz : ∀ w, (sizeOf e).run P w = .ok 1 w)
    (xs ys : List Nat) (hx : xs.length = n) (hy : ys.length = n) (hbx : Sha.Byte xs) (hby : Sha.Byte ys) :
    (binOp .eql t (.agg (u8s xs)) (.agg (u8s ys))).run P w = .ok (.bool (xs == ys)) w := by
  rw [u8s_cell xs hbx, u8s_cell ys hby, run_eql_bytes w t e n ht he hsz _ _ (by rw [List.length_map, hx]) (by rw [List.length_map, hy]), ofNat_inj xs ys hbx hby]
theorem run_equalIn_u8s {P : Program} (w : World) (t e : TypeId) (n : Nat) (ht : P.underlying t = some (.array n e)) (he : P.underlying e = some (.int .u8)) (hsz : ∀ w, (sizeOf e).run P w = .ok 1 w)
    (xs ys : List Nat) (hx : xs.length = n) (hy : ys.length = n) (hbx : Sha.Byte xs) (hby : Sha.Byte ys) :
    (Op.equalIn 10000 t (.agg (u8s xs)) (.agg (u8s ys))).run P w = .ok (xs == ys) w := by
  rw [u8s_cell xs hbx, u8s_cell ys hby, ← ofNat_inj xs ys hbx hby]
  exact run_equalIn_bytes w 9998 t e n ht he hsz (xs.map UInt8.ofNat) (ys.map UInt8.ofNat) (by rw [List.length_map, hx]) (by rw [List.length_map, hy])
theorem run_ne_u8s {P : Program} (w : World) (t e : TypeId) (n : Nat) (ht : P.underlying t = some (.array n e)) (he : P.underlying e = some (.int .u8)) (hsz : ∀ w, (sizeOf e).run P w = .ok 1 w)
    (xs ys : List Nat) (hx : xs.length = n) (hy : ys.length = n) (hbx : Sha.Byte xs) (hby : Sha.Byte ys) :
    (binOp .neq t (.agg (u8s xs)) (.agg (u8s ys))).run P w = .ok (.bool (!(xs == ys))) w := by
  rw [u8s_cell xs hbx, u8s_cell ys hby, ← ofNat_inj xs ys hbx hby]
  rw [run_neq_struct, run_equalIn_bytes w 9998 t e n ht he hsz (xs.map UInt8.ofNat) (ys.map UInt8.ofNat) (by rw [List.length_map, hx]) (by rw [List.length_map, hy])]
  rfl
end Go.Proofs.YtagplmlhpocbjaaDoor
