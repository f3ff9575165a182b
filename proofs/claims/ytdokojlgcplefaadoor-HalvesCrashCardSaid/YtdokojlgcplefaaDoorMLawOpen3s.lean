/- Arguments of laws, opened: slices of slices of bytes. -/
import Derived.Test.YtdokojlgcplefaaDoorMShaJoins
import Derived.Test.YtdokojlgcplefaaDoorMLawKits
import Derived.Deep.Matrix
import Derived.OpenShut
import Derived.Shelf.Small.Strs
import Derived.Shelf.Strings.Search1
import Derived.Shelf.Bytes.SlSearch0
import Derived.Ground.SlbCloneProg
import Derived.Shelf.Bytes.SlClone
import Derived.Ground.SlbNamesProg
import Derived.Shelf.Bytes.SlJoin
import Derived.Shelf.Bytes.SlEqualAll
import Derived.Shelf.Bytes.Small
import Derived.Test.YtdokojlgcplefaaDoorProg
import Derived.Test.YtdokojlgcplefaaDoorMBases
namespace Go.Proofs.YtdokojlgcplefaaDoor
open Go Go.RowKit Go.WideShapes Go.ChangeShapes Go.Deep
section
variable {H : Type} {enc : TypeId × Value → H} {P : Program} {W : World} {held : Bool} {t e q : TypeId}
theorem open_partsT (ht : P.underlying t = some (.slice e)) (he : P.underlying e = some (.slice q)) (hq : P.underlying q = some (.int .u8)) (ce : P.cellsOf e = 1) (cq : P.cellsOf q = 1) {fuel : Nat} {v : Value} {y : DataW H × List MemPlace}
  (hf : DataW.trod enc P W 0 (fun _ => true) held fuel t [v] = some y) :
  ∃ (vs : List Value) (pss : List (List Nat)), RdL W v vs ∧ pss.length = vs.length ∧ (∀ i u, vs[i]? = some u → Rd W u (pss.getD i [])) ∧ (∀ ps ∈ pss, Sha.Byte ps) ∧ vs.length ≤ maxLen ∧ ∀ ps ∈ pss, ps.length ≤ maxLen := by
 rcases open_int_rows ht he hq ce cq hf with ⟨hc, _⟩ | ⟨a, len, cap, A, L, C, Z, hc, _, hlc, hcm, _, hx⟩
 ·obtain rfl : v = .slice none 0 0 := by simpa using hc
  exact ⟨[], [], ⟨none, 0, rfl, Nat.le_refl _, fun h => by simp at h⟩, rfl, fun i u h => by simp at h, fun ps h => by simp at h, Nat.zero_le _, fun ps h => by simp at h⟩
 ·obtain rfl : v = .slice (some a) len cap := by simpa using hc
  have hvl : ((List.range len).map fun r => Value.slice (A r) (L r) (C r)).length = len := by simp
  have hpl : ((List.range len).map fun r => ((Z r).take (L r)).map Int.toNat).length = len := by simp
  have hzl : ∀ r, r < cap → (((Z r).take (L r)).map Int.toNat).length = L r := fun r hr => by
   obtain ⟨_, h1, _, h2, _⟩ := hx r hr
   rw [List.length_map, List.length_take]; omega
  have hget : ∀ r, r < cap → ∀ i, i < L r → (((Z r).getD i 0).toNat : Int) = (Z r).getD i 0 ∧ ((Z r).getD i 0).toNat < 256 ∧ (((Z r).take (L r)).map Int.toNat).getD i 0 = ((Z r).getD i 0).toNat := fun r hr i hi => by
   obtain ⟨_, h1, _, h2, h3, _⟩ := hx r hr
   have hiz : i < (Z r).length := by omega
   have e1 : (Z r).getD i 0 = (Z r)[i] := by rw [List.getD_eq_getElem?_getD, List.getElem?_eq_getElem hiz]; rfl
   obtain ⟨g1, g2⟩ := u8_nat (h3 _ (List.getElem_mem hiz))
   refine ⟨by rw [e1]; exact g1, by rw [e1]; exact g2, ?_⟩
   rw [List.getD_eq_getElem?_getD, List.getElem?_map, List.getElem?_take_of_lt hi, List.getElem?_eq_getElem hiz, e1]; rfl
  refine ⟨(List.range len).map fun r => .slice (A r) (L r) (C r), (List.range len).map fun r => ((Z r).take (L r)).map Int.toNat, ⟨some a, cap, by rw [hvl], by rw [hvl]; exact hlc, fun h0 => ?_⟩, by rw [hvl, hpl], fun i u hu => ?_, fun ps hp => ?_, by rw [hvl]; omega, fun ps hp => ?_⟩
  ·rw [hvl] at h0
   obtain ⟨b, o, s⟩ := a
   have hc0 := (hx 0 (by omega)).1
   rw [show (⟨b, o, s⟩ : Addr).add 0 = ⟨b, o, s⟩ from by simp [Addr.add]] at hc0
   obtain rfl := spot_free hc0
   refine ⟨b, o, rfl, block_lt_of_cell hc0, fun i u hu => ?_⟩
   have hi : i < len := by have := (List.getElem?_eq_some_iff.1 hu).1; rwa [hvl] at this
   have e1 := (hx i (by omega)).1
   rw [show (⟨b, o, none⟩ : Addr).add i = ⟨b, o + i, none⟩ from by simp [Addr.add]] at e1
   rw [e1, ← hu, List.getElem?_map, List.getElem?_range hi]; rfl
  ·have hi : i < len := by have := (List.getElem?_eq_some_iff.1 hu).1; rwa [hvl] at this
   rw [List.getElem?_map, List.getElem?_range hi] at hu
   cases hu
   have hpi : ((List.range len).map fun r => ((Z r).take (L r)).map Int.toNat).getD i [] = ((Z i).take (L i)).map Int.toNat := by
    rw [List.getD_eq_getElem?_getD, List.getElem?_map, List.getElem?_range hi]; rfl
   rw [hpi]
   obtain ⟨_, h1, h2, h3, _, h5, h6⟩ := hx i (by omega)
   refine ⟨A i, C i, by rw [hzl i (by omega)], by rw [hzl i (by omega)]; exact h1, fun h0 => ?_⟩
   rw [hzl i (by omega)] at h0
   cases hA : A i with
   | none => have := h5 hA; omega
   | some a' =>
    obtain ⟨b, o, s⟩ := a'
    obtain ⟨_, h7⟩ := h6 _ hA
    have hc0 := h7 0 (by omega)
    rw [show (⟨b, o, s⟩ : Addr).add 0 = ⟨b, o, s⟩ from by simp [Addr.add]] at hc0
    obtain rfl := spot_free hc0
    refine ⟨b, o, rfl, block_lt_of_cell hc0, fun j hj => ?_⟩
    rw [hzl i (by omega)] at hj
    have e1 := h7 j (by omega)
    rw [show (⟨b, o, none⟩ : Addr).add j = ⟨b, o + j, none⟩ from by simp [Addr.add]] at e1
    obtain ⟨g1, _, g3⟩ := hget i (by omega) j hj
    rw [e1, g3, g1]
  ·obtain ⟨r, hr, rfl⟩ := List.mem_map.1 hp
   have hr' := List.mem_range.1 hr
   intro i
   by_cases hi : i < L r
   ·obtain ⟨_, g2, g3⟩ := hget r (by omega) i hi
    rw [g3]; exact g2
   ·rw [List.getD_eq_getElem?_getD, List.getElem?_eq_none (by rw [hzl r (by omega)]; omega)]; decide
  ·obtain ⟨r, hr, rfl⟩ := List.mem_map.1 hp
   have hr' := List.mem_range.1 hr
   obtain ⟨_, h1, h2, _⟩ := hx r (by omega)
   rw [hzl r (by omega)]; omega
end
end Go.Proofs.YtdokojlgcplefaaDoor
/- The library's contracts at this program's numbers: each by one application. -/
namespace Go.Proofs
open Go.Shelf
def Tryd.lays137_ren : Go.Shelf.Ren := ⟨fun | 137 => 79 | 217 => 88 | 266 => 92 | n => n, fun | 9 => 9 | 5 => 5 | 3 => 3 | n => n, fun | n => n⟩
theorem Tryd.lays137 : Go.Proofs.Lays.n137 Tryd.prog Tryd.lays137_ren := {
 mixed := by kernel_rfl
 f137 := Tryd.func79.trans (congrArg some (by kernel_rfl))
 f217 := Tryd.func88.trans (congrArg some (by kernel_rfl))
 f266 := Tryd.func92.trans (congrArg some (by kernel_rfl))
 t3 := Tryd.underlying3
 a3 := Tryd.isAgg3
 z3 := Tryd.sizeOf3
 v3 := Tryd.zeroValue3
 t5 := Tryd.underlying5
 a5 := Tryd.isAgg5
 z5 := Tryd.sizeOf5
 v5 := Tryd.zeroValue5
 t9 := Tryd.underlying9
 a9 := Tryd.isAgg9
 z9 := Tryd.sizeOf9
 v9 := Tryd.zeroValue9 }
open Go.RowKit in
theorem Tryd.strings_IndexByte (s : ByteArray) (c : Int) (w : World) :
  Calls Tryd.prog 79 #[.string s, .int .u8 c] w fun e w' => e = .returned (.int .i64 (Lib.indexByte s.data.toList c.toNat.toUInt8)) ∧ w' = w := Any.strings_IndexByte Tryd.lays137 s c w
def Tryd.lays115_ren : Go.Shelf.Ren := ⟨fun | 115 => 49 | n => n, fun | 37 => 39 | 4 => 4 | 9 => 9 | 5 => 5 | n => n, fun | n => n⟩
theorem Tryd.lays115 : Go.Proofs.Lays.n115 Tryd.prog Tryd.lays115_ren := {
 mixed := by kernel_rfl
 f115 := Tryd.func49.trans (congrArg some (by kernel_rfl))
 t4 := Tryd.underlying4
 a4 := Tryd.isAgg4
 z4 := Tryd.sizeOf4
 v4 := Tryd.zeroValue4
 t9 := Tryd.underlying9
 a9 := Tryd.isAgg9
 z9 := Tryd.sizeOf9
 v9 := Tryd.zeroValue9
 t37 := Tryd.underlying39
 a37 := Tryd.isAgg39
 z37 := Tryd.sizeOf39
 v37 := Tryd.zeroValue39 }
open Go.Proofs Go.RowKit Go.Lib in
theorem Tryd.bytes_Equal_strs (v1 v2 : Value) (t1 t2 : ByteArray) (w : World) (h1 : (convert 39 9 v1).run Tryd.prog w = .ok (.string t1) w) (h2 : (convert 39 9 v2).run Tryd.prog w = .ok (.string t2) w) :
  Calls Tryd.prog 49 #[v1, v2] w fun e w' => e = .returned (.bool (t1.toList == t2.toList)) ∧ w' = w := Any.bytes_Equal_strs Tryd.lays115 v1 v2 t1 t2 w h1 h2
def Tryd.laysSlJ14_ren : Go.Shelf.Ren := ⟨fun | 14 => 69 | 15 => 82 | n => n, fun | 26 => 33 | 22 => 39 | 3 => 3 | 4 => 4 | 0 => 0 | 9 => 9 | 20 => 20 | 5 => 5 | n => n, fun | n => n⟩
theorem Tryd.laysSlJ14 : Go.Proofs.SlLaysJ.n14 Tryd.prog Tryd.laysSlJ14_ren := {
 mixed := by kernel_rfl
 f14 := Tryd.func69.trans (congrArg some (by kernel_rfl))
 f15 := Tryd.func82.trans (congrArg some (by kernel_rfl))
 t0 := Tryd.underlying0
 a0 := Tryd.isAgg0
 z0 := Tryd.sizeOf0
 v0 := Tryd.zeroValue0
 t3 := Tryd.underlying3
 a3 := Tryd.isAgg3
 z3 := Tryd.sizeOf3
 v3 := Tryd.zeroValue3
 t4 := Tryd.underlying4
 a4 := Tryd.isAgg4
 z4 := Tryd.sizeOf4
 v4 := Tryd.zeroValue4
 t9 := Tryd.underlying9
 a9 := Tryd.isAgg9
 z9 := Tryd.sizeOf9
 v9 := Tryd.zeroValue9
 t20 := Tryd.underlying20
 a20 := Tryd.isAgg20
 z20 := Tryd.sizeOf20
 v20 := Tryd.zeroValue20
 t22 := Tryd.underlying39
 a22 := Tryd.isAgg39
 z22 := Tryd.sizeOf39
 v22 := Tryd.zeroValue39
 t26 := Tryd.underlying33
 a26 := Tryd.isAgg33
 z26 := Tryd.sizeOf33
 v26 := Tryd.zeroValue33
 t5 := Tryd.underlying5
 z5 := Tryd.sizeOf5
 i5 := by kernel_rfl }
open Go.RowKit Go.Lib in
theorem Tryd.bytes_Join_many (b o n c : Nat) (vs : List Value) (ls : List (List UInt8)) (sv : Value) (sep : List UInt8) (w : World) (hn : ls.length = n) (h2 : 2 ≤ n) (hP : Lib.PartsAt w ⟨b, o, none⟩ vs ls) (hcap : n ≤ c) (hS : Lib.HoldsBytes w sv sep) (hn47 : n ≤ 140737488355328) (hlen : Lib.lens ls + sep.length * (n - 1) ≤ 140737488355328) :
  Calls Tryd.prog 69 #[.slice (some ⟨b, o, none⟩) n c, sv] w fun e w' => ∃ v', e = .returned v' ∧ Lib.FreshBytes w.heap.size w' v' (Lib.join ls sep) ∧ Below w.heap.size w w' := Any.bytes_Join_many Tryd.laysSlJ14 b o n c vs ls sv sep w hn h2 hP hcap hS hn47 hlen
open Go.RowKit Go.Lib in
theorem Tryd.bytes_Join_one (b o c : Nat) (ad0 : Addr) (c0 : Nat) (l0 : List UInt8) (sv : Value) (w : World) (hcell : w.cell? ⟨b, o, none⟩ = some (.slice (some ad0) l0.length c0)) (hc : ∀ (i : Nat) x, l0[i]? = some x → w.cell? (ad0.add i) = some (.int .u8 (x.toNat : Int))) (h0 : 0 < l0.length) (hs : l0.length ≤ 140737488355328) :
  Calls Tryd.prog 69 #[.slice (some ⟨b, o, none⟩) 1 c, sv] w fun e w' => ∃ v', e = .returned v' ∧ Lib.FreshBytes w.heap.size w' v' l0 ∧ Below w.heap.size w w' := Any.bytes_Join_one Tryd.laysSlJ14 b o c ad0 c0 l0 sv w hcell hc h0 hs
end Go.Proofs
/- The library's contracts that layer 3 leans on, laid at this program's numbers. -/
namespace Go.Proofs.YtdokojlgcplefaaDoor
open Go Go.RowKit
section
open Go.Shelf
def ixb_ren : Go.Shelf.Ren := ⟨fun | 137 => 79 | 217 => 88 | 266 => 92 | n => n, fun | 9 => 9 | 5 => 5 | 3 => 3 | n => n, fun | n => n⟩
theorem ixb_lays : Go.Proofs.Lays.n137 Tryd.prog ixb_ren := {
 mixed := by kernel_rfl
 f137 := Tryd.func79.trans (congrArg some (by kernel_rfl))
 f217 := Tryd.func88.trans (congrArg some (by kernel_rfl))
 f266 := Tryd.func92.trans (congrArg some (by kernel_rfl))
 t3 := Tryd.underlying3
 a3 := Tryd.isAgg3
 z3 := Tryd.sizeOf3
 v3 := Tryd.zeroValue3
 t5 := Tryd.underlying5
 a5 := Tryd.isAgg5
 z5 := Tryd.sizeOf5
 v5 := Tryd.zeroValue5
 t9 := Tryd.underlying9
 a9 := Tryd.isAgg9
 z9 := Tryd.sizeOf9
 v9 := Tryd.zeroValue9 }
end
end Go.Proofs.YtdokojlgcplefaaDoor
/- Layer 2's letters: which there are, how long their numbers are, the greatest of them; a number as bytes. -/
namespace Go.Proofs.YtdokojlgcplefaaDoor
open Go Go.RowKit
namespace Oc
def size (c : Nat) : Int := if c = 98 then 1 else if c = 119 then 4 else if c = 113 then 8 else if c = 111 then 0 else if c = 116 then 0 else -1
def nsize (c : Nat) : Int := if c = 98 then 1 else if c = 119 then 4 else if c = 113 then 8 else 0
def most (c : Nat) : Int := if c = 98 then 255 else if c = 119 then 4294967295 else if c = 113 then 4611686018427387903 else 0
def isL (c : UInt8) : Bool := decide (0 ≤ size c.toNat)
def known (l : List UInt8) : Bool := l.all isL
theorem known_take {s : ByteArray} {k : Nat} (h : k < s.size) (h1 : known (s.data.toList.take k) = true) (h2 : isL s[k] = true) : known (s.data.toList.take (k + 1)) = true := by
 rw [List.take_succ_eq_append_getElem (by simpa using h)]
 unfold known at h1 ⊢
 rw [List.all_append, h1, Bool.true_and, List.all_cons, List.all_nil, Bool.and_true]
 exact h2
theorem known_not {s : ByteArray} {k : Nat} (h : k < s.size) (h2 : isL s[k] = false) : known s.data.toList = false := by
 unfold known
 rw [List.all_eq_false]
 exact ⟨s[k], by simp [ByteArray.getElem_eq_getElem_data], by simp [h2]⟩
end Oc
abbrev letS : ByteArray := ⟨#[98, 119, 113, 111, 116]⟩
theorem let_val : ∀ c : Fin 256, decide (Lib.indexByte letS.data.toList (((c.val : Nat) : Int).toNat.toUInt8) < 0) = decide (Oc.size c.val < 0) := by decide +kernel
theorem ret_b {a b : Bool} (h : a = b) : Ending.returned (.bool a) = .returned (.bool b) := by rw [h]
theorem ret_ii {a b x y : Int} (h : a = b ∧ x = y) : Ending.returned (.tuple #[.int .i64 a, .int .i64 x]) = .returned (.tuple #[.int .i64 b, .int .i64 y]) := by rw [h.1, h.2]
theorem number_any (c : Nat) (w : World) :
  Calls Tryd.prog 80 #[.int .u8 ((c : Nat) : Int)] w fun e w' => e = .returned (.tuple #[.int .i64 (Oc.nsize c), .int .i64 (Oc.most c)]) ∧ w = w' := by
 rcases Nat.decEq c 98 with h1 | h1
 ·rcases Nat.decEq c 119 with h2 | h2
  ·rcases Nat.decEq c 113 with h3 | h3
   ·have HV := Lib.hid (show Oc.nsize c = 0 ∧ Oc.most c = 0 from ⟨by unfold Oc.nsize; rw [if_neg h1, if_neg h2, if_neg h3], by unfold Oc.most; rw [if_neg h1, if_neg h2, if_neg h3]⟩)
    go_enter Tryd.func80, Tryd.ntmps80
    go_wp2
    go_ret2
    exact ⟨ret_ii ⟨HV.out.1.symm, HV.out.2.symm⟩, rfl⟩
   ·subst h3
    go_enter Tryd.func80, Tryd.ntmps80
    go_wp2
    go_ret2
    exact ⟨rfl, rfl⟩
  ·subst h2
   go_enter Tryd.func80, Tryd.ntmps80
   go_wp2
   go_ret2
   exact ⟨rfl, rfl⟩
 ·subst h1
  go_enter Tryd.func80, Tryd.ntmps80
  go_wp2
  go_ret2
  exact ⟨rfl, rfl⟩
theorem known_any (s : ByteArray) (w : World) (hs : s.size ≤ 1099511627776) :
  Calls Tryd.prog 66 #[.string s] w fun e w' => e = .returned (.bool (Oc.known s.data.toList)) ∧ w = w' := by
 go_enter Tryd.func66, Tryd.ntmps66
 go_wp2
 go_loopw [6] (fun i wr => ∃ k : Nat, k ≤ s.size ∧ i = .int .i64 k ∧ Hid (Oc.known (s.data.toList.take k) = true) ∧ wr = w) (fun i _ => s.size - (intOf i).toNat)
 case atStart => exact ⟨0, Nat.zero_le _, rfl, Lib.hid rfl, rfl⟩
 case round =>
  obtain ⟨k, hk, rfl, HK, rfl⟩ := hrel
  by_cases hlt : k < s.size
  ·have hv : decide (Lib.indexByte letS.data.toList (((s[k].toNat : Nat) : Int).toNat.toUInt8) < 0) = decide (Oc.size s[k].toNat < 0) := let_val ⟨s[k].toNat, s[k].toNat_lt⟩
   have C1 : ∀ w, Calls Tryd.prog 79 #[.string letS, .int .u8 ((s[k].toNat : Nat) : Int)] w _ := fun w => Any.strings_IndexByte ixb_lays letS (s[k].toNat : Int) w
   generalize Lib.indexByte letS.data.toList (((s[k].toNat : Nat) : Int).toNat.toUInt8) = x at hv C1
   by_cases hx : x < 0
   ·have H := Lib.hid (Oc.known_not hlt (by unfold Oc.isL; rw [decide_eq_true hx] at hv; have := of_decide_eq_true hv.symm; exact decide_eq_false (by omega)))
    clear hv
    go_wp2_with (go_at_call 79; refine (C1 _).mono ?_; rintro e w' ⟨rfl, rfl⟩)
    go_ret
    exact ⟨ret_b H.out.symm, rfl⟩
   ·have H := Lib.hid (Oc.known_take hlt HK.out (by unfold Oc.isL; rw [decide_eq_false hx] at hv; have := of_decide_eq_false hv.symm; exact decide_eq_true (by omega)))
    clear hv
    go_wp2_with (go_at_call 79; refine (C1 _).mono ?_; rintro e w' ⟨rfl, rfl⟩)
    go_roundw
    case rel => exact ⟨k + 1, by omega, by go_num, H, (by first | rfl | trivial)⟩
    case measure => simp [intOf]; omega
  ·have e : s.data.toList.take k = s.data.toList := List.take_of_length_le (by simp; omega)
   have H := Lib.hid (e ▸ HK.out)
   go_wp2
   go_ret
   exact ⟨ret_b H.out.symm, rfl⟩
end Go.Proofs.YtdokojlgcplefaaDoor
/- Layer 2's numbers as bytes: octets.putNumber, and the document's own Num. -/
namespace Go.Proofs.YtdokojlgcplefaaDoor
open Go Go.RowKit
namespace Oc
def nums (s n : Nat) : List Nat := (List.range s).map fun i => n / 2^(8 * (s - 1 - i)) % 256
theorem nums_len (s n : Nat) : (nums s n).length = s := by simp [nums]
theorem nums_succ {s n m : Nat} (h : m < s) : (nums s n).take m ++ [n / 2^(8 * (s - 1 - m)) % 256] = (nums s n).take (m + 1) := by
 have h2 : m < (nums s n).length := by rw [nums_len]; exact h
 rw [List.take_succ_eq_append_getElem h2]
 simp [nums]
end Oc
def Others (w w' : World) : Prop := ∀ (p : Nat) (cs : Array Value) (T : TypeId) (z : Nat × Nat), T ≠ 5 → w.heap[p]? = some (Obj.cells cs T z) → w'.heap[p]? = some (Obj.cells cs T z)
theorem Others.refl (w : World) : Others w w := fun _ _ _ _ _ h => h
theorem Others.trans {a b c : World} (h : Others a b) (k : Others b c) : Others a c := fun p cs T z n e => k p cs T z n (h p cs T z n e)
theorem Others.alloc {a b : World} (h : Others a b) (o : Obj) : Others a (b.alloc o) := fun p cs T z n e => by
 have h1 := h p cs T z n e
 rw [heap_alloc_old _ _ (Array.getElem?_eq_some_iff.1 h1).1]
 exact h1
theorem Others.own {a b c : World} {B size n : Nat} {v : Value} {xs : List Value} (h : Others a b) (ho : b.ownsRow B 5 size v n xs) (k : b.grownBy c v.ownBlock) : Others a c := fun p cs T z hT e => by
 have h1 := h p cs T z hT e
 rw [k.block p (Array.getElem?_eq_some_iff.1 h1).1 ?_]
 ·exact h1
 ·intro hp
  rcases ho.2 with ⟨rfl, _⟩ | ⟨g, cap, cur, rfl, _, hh, _⟩
  ·cases hp
  ·cases hp
   rw [hh] at h1
   cases h1
   exact hT rfl
set_option maxRecDepth 100000 in
theorem putNumber_any (v0 : Value) (ys0 : List Nat) (B s n : Nat) (wb w : World) (hB : wb.heap.size = B) (hP0 : Pad B wb v0 ys0 w) (hs : s ≤ 8) (_hn : n ≤ 4611686018427387903) (hz : ys0.length ≤ 1099511627776) :
  Calls Tryd.prog 81 #[v0, .int .i64 (s : Int), .int .i64 (n : Int)] w fun e w' => ∃ v', e = .returned v' ∧ Pad B wb v' (ys0 ++ Oc.nums s n) w' ∧ Others w w' := by
 have HPS : Hid (Pad B wb v0 (ys0 ++ (Oc.nums s n).take 0) w) := Lib.hid (by simpa using hP0)
 have HS0 := Lib.hid hB
 clear hP0 hB
 go_enter Tryd.func81, Tryd.ntmps81
 have W0 : IntKind.i64.wrap ((s : Int) - 1) = (s : Int) - 1 := IntWalk.i64_in _ (by omega)
 go_wp2
 go_loopw [0, 7] (fun v i wr => ∃ m : Nat, m ≤ s ∧ i = .int .i64 ((s : Int) - 1 - (m : Int)) ∧ Pad B wb v (ys0 ++ (Oc.nums s n).take m) wr ∧ Others w wr) (fun _ i _ => (intOf i + 1).toNat)
 case atStart => exact ⟨0, by omega, by simp, HPS.out, Others.refl _⟩
 case round =>
  obtain ⟨m, hm, rfl, hP, ho⟩ := hrel
  have HPJ := Lib.hid hP
  have HOT := Lib.hid ho
  clear ho
  obtain ⟨A3, c3, rfl⟩ := hP.len
  clear hP
  have hyl : (ys0 ++ (Oc.nums s n).take m).length ≤ 1099511627776 + 8 := by
   rw [List.length_append, List.length_take, Oc.nums_len]; omega
  have HYS : Hid (m < s → (ys0 ++ (Oc.nums s n).take m) ++ [n / 2^(8 * (s - 1 - m)) % 256] = ys0 ++ (Oc.nums s n).take (m + 1)) := Lib.hid (fun h => by rw [List.append_assoc, Oc.nums_succ h])
  have HY8 : Hid (m = s → (ys0 ++ (Oc.nums s n).take m) = ys0 ++ Oc.nums s n) := Lib.hid (fun h => by rw [h, List.take_of_length_le (by rw [Oc.nums_len]; exact Nat.le_refl _)])
  generalize ys0 ++ (Oc.nums s n).take m = ys at HPJ hyl HYS HY8 ⊢
  obtain ⟨m3, hm3⟩ : ∃ m3, m3 = ys.length := ⟨_, rfl⟩
  rw [← hm3] at hyl ⊢
  have HM3 := Lib.hid hm3
  clear hm3
  by_cases hlt : m < s
  ·obtain ⟨k, hk⟩ : ∃ k : Nat, k = s - 1 - m := ⟨_, rfl⟩
   have hki : (s : Int) - 1 - (m : Int) = (k : Int) := by omega
   rw [← hk] at HYS
   rw [hki]
   have hk7 : k ≤ 7 := by omega
   obtain ⟨x, hx⟩ : ∃ x, x = n / 2^(8 * k) % 256 := ⟨_, rfl⟩
   rw [← hx] at HYS
   have HX : Hid ((n : Int) / 2^(8*k) % 256 = (x : Int)) := Lib.hid (by rw [hx]; simp)
   clear hx
   have HK := Lib.hid hk
   clear hk hki
   have HOA : Hid ((wr.alloc (.cells (u8s [x]) 5)).ownsRow B 5 1 (.slice A3 m3 c3) ys.length (cellsB ys)) := Lib.hid (ownsRow_alloc (by have h := HPJ.out.own; rw [← HM3.out] at h ⊢; exact h) _)
   have HB3 := Lib.hid (HPJ.out.bel.alloc (HS0.out ▸ HPJ.out.bel.size) (.cells (u8s [x]) 5))
   have HRM := Lib.hid (rd_of_lit wr [x] 5 (by simp))
   have HZ2 := Lib.hid (show ys.length + [x].length ≤ 70368744177664 by rw [← HM3.out]; simp; omega)
   go_wp2_with (rw [HX.out]; refine wpList_appendB rfl (.tmp 14) (.tmp 20) rfl B _ ys rfl HOA.out (HS0.out ▸ HB3.out.size) _ rfl [x] HRM.out HZ2.out ?_; intro v2 w2 ho2 hg2; rw [HYS.out hlt] at ho2; have HP2 : Hid (Pad B wb v2 (ys0 ++ (Oc.nums s n).take (m + 1)) w2) := Lib.hid ⟨ho2, below_ownB HS0.out HB3.out HOA.out hg2⟩; have HO2 : Hid (Others w w2) := Lib.hid ((HOT.out.alloc _).own HOA.out hg2); clear ho2 hg2)
   go_roundw
   case rel => exact ⟨m + 1, by omega, by have := HK.out; go_num, HP2.out, HO2.out⟩
   case measure => simp [intOf]
  ·obtain rfl : m = s := by omega
   have HPF : Hid (Pad B wb (.slice A3 m3 c3) (ys0 ++ Oc.nums m n) wr) := Lib.hid (by have h := HPJ.out; rw [HY8.out rfl] at h HM3; rw [← HM3.out] at h; exact h)
   clear HY8 HYS hlt
   have W1 : ¬ (0 : Int) ≤ (m : Int) - 1 - (m : Int) := by omega
   go_wp2
   go_ret
   exact ⟨_, rfl, HPF.out, HOT.out⟩
namespace Oc
def numsFrom (s n j : Nat) : List Nat := (List.range s).map fun i => if j ≤ s - 1 - i then 0 else n / 2^(8 * (s - 1 - i)) % 256
theorem numsFrom_zero (s n : Nat) : numsFrom s n 0 = List.replicate s 0 := by
 apply List.ext_getElem
 ·simp [numsFrom]
 ·intro i h1 h2; simp [numsFrom]
theorem numsFrom_all (s n : Nat) : numsFrom s n s = nums s n := by
 apply List.ext_getElem
 ·simp [numsFrom, nums]
 ·intro i h1 h2
  have : i < s := by simpa [numsFrom] using h1
  simp only [numsFrom, nums, List.getElem_map, List.getElem_range]
  rw [if_neg (by omega)]
theorem numsFrom_len (s n j : Nat) : (numsFrom s n j).length = s := by simp [numsFrom]
theorem numsFrom_set (s n j : Nat) (h : j < s) : (numsFrom s n j).set (s - 1 - j) (n / 2^(8 * j) % 256) = numsFrom s n (j + 1) := by
 apply List.ext_getElem
 ·simp [numsFrom]
 ·intro i h1 h2
  have hi : i < s := by simpa [numsFrom] using h2
  rw [List.getElem_set]
  simp only [numsFrom, List.getElem_map, List.getElem_range]
  by_cases he : s - 1 - j = i
  ·subst he
   rw [if_pos rfl, if_neg (by omega), show s - 1 - (s - 1 - j) = j by omega]
  ·rw [if_neg he]
   by_cases hj : j ≤ s - 1 - i
   ·rw [if_pos hj, if_pos (by omega)]
   ·rw [if_neg hj, if_neg (by omega)]
end Oc
end Go.Proofs.YtdokojlgcplefaaDoor
/- One field of layer 2: whether it has bytes (octets.fits), and which (octets.put). -/
namespace Go.Proofs.YtdokojlgcplefaaDoor
open Go Go.RowKit
namespace Oc
def fits (c : Nat) (n : Int) (l : Nat) : Bool := if c = 111 then decide (l = 32) else if c = 116 then decide (l ≤ 65535) else decide (0 ≤ n) && decide (n ≤ most c)
def enc (c : Nat) (n : Int) (bs : List Nat) : List Nat := if c = 111 then bs else if c = 116 then nums 2 bs.length ++ bs else nums (nsize c).toNat n.toNat
theorem nsize_nat (c : Nat) : ∃ s : Nat, nsize c = s ∧ s ≤ 8 := by
 unfold nsize
 by_cases h1 : c = 98
 ·rw [if_pos h1]; exact ⟨1, rfl, by decide⟩
 rw [if_neg h1]
 by_cases h2 : c = 119
 ·rw [if_pos h2]; exact ⟨4, rfl, by decide⟩
 rw [if_neg h2]
 by_cases h3 : c = 113
 ·rw [if_pos h3]; exact ⟨8, rfl, by decide⟩
 rw [if_neg h3]; exact ⟨0, rfl, by decide⟩
theorem most_le (c : Nat) : most c ≤ 4611686018427387903 := by
 unfold most
 by_cases h1 : c = 98
 ·rw [if_pos h1]; decide
 rw [if_neg h1]
 by_cases h2 : c = 119
 ·rw [if_pos h2]; decide
 rw [if_neg h2]
 by_cases h3 : c = 113
 ·rw [if_pos h3]; decide
 rw [if_neg h3]; decide
end Oc
theorem fits_any (c : Nat) (n : Int) (A : Option Addr) (l cap : Nat) (w : World) :
  Calls Tryd.prog 67 #[.int .u8 ((c : Nat) : Int), .agg #[.int .i64 n, .slice A l cap]] w fun e w' => e = .returned (.bool (Oc.fits c n l)) ∧ w' = w.alloc (.cells #[.int .i64 n, .slice A l cap] 91) := by
 rcases Nat.decEq c 111 with h1 | h1
 ·rcases Nat.decEq c 116 with h2 | h2
  ·have b1 : ((c : Int) == 111) = false := by simp; omega
   have b2 : ((c : Int) == 116) = false := by simp; omega
   have HV : Oc.fits c n l = (decide (0 ≤ n) && decide (n ≤ Oc.most c)) := by unfold Oc.fits; rw [if_neg h1, if_neg h2]
   have C1 := number_any c
   generalize Oc.most c = mx at HV C1
   generalize Oc.nsize c = sx at C1
   by_cases h3 : 0 ≤ n
   ·by_cases h4 : n ≤ mx
    ·have H := Lib.hid (show Oc.fits c n l = true by rw [HV, decide_eq_true h3, decide_eq_true h4]; rfl)
     clear HV
     go_enter Tryd.func67, Tryd.ntmps67
     go_wp2_with (go_at_call 80; refine (C1 _).mono ?_; rintro e w' ⟨rfl, rfl⟩)
     go_ret
     exact ⟨ret_b H.out.symm, rfl⟩
    ·have H := Lib.hid (show Oc.fits c n l = false by rw [HV, decide_eq_false h4, Bool.and_false])
     clear HV
     go_enter Tryd.func67, Tryd.ntmps67
     go_wp2_with (go_at_call 80; refine (C1 _).mono ?_; rintro e w' ⟨rfl, rfl⟩)
     go_ret
     exact ⟨ret_b (by rw [H.out]; exact decide_eq_false (by omega)), rfl⟩
   ·have H := Lib.hid (show Oc.fits c n l = false by rw [HV, decide_eq_false h3, Bool.false_and])
    clear HV
    go_enter Tryd.func67, Tryd.ntmps67
    go_wp2_with (go_at_call 80; refine (C1 _).mono ?_; rintro e w' ⟨rfl, rfl⟩)
    go_ret
    exact ⟨ret_b H.out.symm, rfl⟩
  ·subst h2
   by_cases h3 : l ≤ 65535
   ·have H := Lib.hid (show Oc.fits 116 n l = true from decide_eq_true h3)
    go_enter Tryd.func67, Tryd.ntmps67
    go_wp2
    go_ret
    exact ⟨ret_b (by rw [H.out]; exact decide_eq_true (by omega)), rfl⟩
   ·have H := Lib.hid (show Oc.fits 116 n l = false from decide_eq_false h3)
    go_enter Tryd.func67, Tryd.ntmps67
    go_wp2
    go_ret
    exact ⟨ret_b (by rw [H.out]; exact decide_eq_false (by omega)), rfl⟩
 ·subst h1
  by_cases h3 : l = 32
  ·have H := Lib.hid (show Oc.fits 111 n l = true from decide_eq_true h3)
   subst h3
   go_enter Tryd.func67, Tryd.ntmps67
   go_wp2
   go_ret
   exact ⟨ret_b H.out.symm, rfl⟩
  ·have H := Lib.hid (show Oc.fits 111 n l = false from decide_eq_false h3)
   have b3 : ((l : Int) == 32) = false := by simp; omega
   go_enter Tryd.func67, Tryd.ntmps67
   go_wp2
   go_ret
   exact ⟨ret_b H.out.symm, rfl⟩
end Go.Proofs.YtdokojlgcplefaaDoor
