/- delta.Apply's first answers; the whole of it. -/
import Derived.Test.YtolfphfdeccleaaGreatDoorMDl5
import Derived.Test.YtolfphfdeccleaaGreatDoorMOb26s
import Derived.Test.YtolfphfdeccleaaGreatDoorMShaMsgMaths
import Derived.Lib.Index
import Derived.Lib.Bytes
import Derived.Shelf.Small.Strs
import Derived.Shelf.Strings.Search1
import Derived.Shelf.Bytes.SlIndexSmall
import Derived.Shelf.Bytes.SlIndexAt
import Derived.Shelf.Bytes.SlSearch0
import Derived.Shelf.Bytes.SlSearch1
import Derived.Shelf.Bytes.SlSearch2
import Derived.Shelf.Bytes.SlIndexWhole
import Derived.Shelf.LaysM
import Derived.Ground.SlbCloneProg
import Derived.Shelf.Bytes.SlClone
import Derived.Shelf.Bytes.SlEqualAll
import Derived.Shelf.Bytes.Small
import Derived.Shelf.Bytes.IndexByte
import Derived.Test.YtolfphfdeccleaaGreatDoorProg
import Derived.WalkLawsBesides
import Derived.Test.YtolfphfdeccleaaGreatDoorMBases
import Derived.RangeFuncNested
import Derived.RangeFuncBound
import Derived.RangeFuncCalls
import Derived.RangeFuncLeaves
import Derived.Test.YtolfphfdeccleaaGreatDoorMShaEnds
namespace Go.Proofs.YtolfphfdeccleaaGreatDoor
open Go Go.RowKit Go.Shelf
attribute [local go_sem] Oper.semAt_some
set_option maxRecDepth 100000 in
set_option maxHeartbeats 1000000 in
theorem dapply_short (Ab A : Option Addr) (nb cb c : Nat) (_base d : List Nat) (ea : Nat → Addr) (w : World) (hS : ASents w ea) (h4 : d.length < 4) :
    Calls Tryz.prog 84 #[.slice Ab nb cb, .slice A d.length c] w (ApplyPost (.err 1) ea w) := by
  have SZ : ∀ w', Below w.heap.size w w' → Calls Tryz.prog 95 #[.slice A d.length c] w' fun e w'' => e = .returned (.tuple #[.int .i64 0, .int .i64 0, ev (ea 1)]) ∧ ∃ m, w'' = w'.drewN m := fun w' hw =>
    sizes_short A c d (ea 1) w' h4 ((hS 1 (by omega)).below hw (Nat.le_refl _)).var
  clear h4 hS
  refine (callsIn_wide (n := 4)).1 ?_
  refine callsIn_of_wp Tryz.func84 rfl trivial ?_ rfl
  simp only [Tryz.ntmps84, List.size_toArray, List.length_cons, List.length_nil, Nat.reduceAdd, Nat.reduceSub, Array.replicate_succ, Array.replicate_zero, List.push_toArray, List.append_toArray, List.nil_append, List.cons_append]
  gi_wp2_with (refine ⟨trivial, ?_⟩; gi_at_call 95; refine (callsIn_wide.2 (SZ _ ?_)).mono ?_; exact ((((Below.refl _ w).alloc (Nat.le_refl _) _).alloc (by simp) _).alloc (by simp; omega) _); rintro e w' ⟨rfl, m, rfl⟩)
  refine bodyPost_ret (v := .tuple #[.slice none 0 0, ev (ea 1)]) (by simp [results, Tryz.results84, go_sem]) rfl ⟨rfl, ?_⟩
  exact (((below_drewN ((((Below.refl _ w).alloc (Nat.le_refl _) _).alloc (by simp) _).alloc (by simp; omega) _) m).setCell (p := ⟨w.heap.size + 1, 0, none⟩) (Nat.le_add_right _ _) _).setCell (p := ⟨w.heap.size + 1 + 1, 0, none⟩) (by show w.heap.size ≤ w.heap.size + 1 + 1; omega) _).alloc (by simp; omega) _
set_option maxRecDepth 100000 in
set_option maxHeartbeats 1000000 in
theorem dapply_state (Ab A : Option Addr) (nb cb n c : Nat) (d : List Nat) (ea : Nat → Addr) (w : World) (hD : Rd w (.slice A n c) d) (hb : Sha.Byte d) (hS : ASents w ea) (h4 : 4 ≤ d.length) (hst : Dl.two d 0 ≠ nb) :
    Calls Tryz.prog 84 #[.slice Ab nb cb, .slice A n c] w (ApplyPost (.err 18) ea w) := by
  have SZ : ∀ w', Below w.heap.size w w' → Calls Tryz.prog 95 #[.slice A n c] w' fun e w'' => e = .returned (.tuple #[.int .i64 (Dl.two d 0 : Nat), .int .i64 (Dl.two d 2 : Nat), .nilIface]) ∧ ∃ m, w'' = w'.drewN m := fun w' hw => sizes_any A n c d w' (hD.below hw (Nat.le_refl _)) hb h4
  have hG := (hS 18 (by omega)).lt
  have cE : ∀ w', Below w.heap.size w w' → w'.cell? ⟨18, 0, none⟩ = some (ev (ea 18)) := fun w' hw => ((hS 18 (by omega)).below hw (Nat.le_refl _)).var
  have lE : 18 < w.heap.size := hG
  have hm : Tryz.prog.follows .mixedOrders = true := by kernel_rfl
  have b0 : ((Dl.two d 0 : Nat) : Int) ≠ (nb : Int) := by omega
  have b1 : (((Dl.two d 0 : Nat) : Int) != (nb : Int)) = true := by simp; omega
  clear hst
  clear h4 hS hD hb hG
  refine (callsIn_wide (n := 4)).1 ?_
  refine callsIn_of_wp Tryz.func84 rfl trivial ?_ rfl
  simp only [Tryz.ntmps84, List.size_toArray, List.length_cons, List.length_nil, Nat.reduceAdd, Nat.reduceSub, Array.replicate_succ, Array.replicate_zero, List.push_toArray, List.append_toArray, List.nil_append, List.cons_append]
  gi_wp2_with (refine ⟨trivial, ?_⟩; gi_at_call 95; refine (callsIn_wide.2 (SZ _ ?_)).mono ?_; exact ((((Below.refl _ w).alloc (Nat.le_refl _) _).alloc (by simp) _).alloc (by simp; omega) _); rintro e w' ⟨rfl, m, rfl⟩)
  have hb3 := below_drewN ((((Below.refl _ w).alloc (Nat.le_refl _) (.cells #[.slice Ab nb cb] 22)).alloc (by simp) (.cells #[.slice none 0 0] 22)).alloc (by simp; omega) (.cells #[.nilIface] 28)) m
  have c3 := cE _ hb3
  have c4 : (((((w.alloc (.cells #[.slice Ab nb cb] 22)).alloc (.cells #[.slice none 0 0] 22)).alloc (.cells #[.nilIface] 28)).drewN m).alloc (.cells #[.int .i64 ((Dl.two d 2 : Nat) : Int)] 3)).cell? ⟨18, 0, none⟩ = some (ev (ea 18)) := cE _ (hb3.alloc (by simp; omega) _)
  have c5 : ((((((w.alloc (.cells #[.slice Ab nb cb] 22)).alloc (.cells #[.slice none 0 0] 22)).alloc (.cells #[.nilIface] 28)).drewN m).setCell ⟨w.heap.size + 1, 0, none⟩ (.slice none 0 0)).alloc (.cells #[.int .i64 ((Dl.two d 2 : Nat) : Int)] 3)).cell? ⟨18, 0, none⟩ = some (ev (ea 18)) := cE _ ((hb3.setCell (p := ⟨w.heap.size + 1, 0, none⟩) (Nat.le_add_right _ _) _).alloc (by simp; omega) _)
  gi_region_with_o (fail)
  all_goals gi_wp2
  all_goals
    refine bodyPost_ret (v := .tuple #[.slice none 0 0, ev (ea 18)]) (by simp [results, Tryz.results84, go_sem]) rfl ⟨rfl, ?_⟩
    exact below_drewN (((hb3.setCell (p := ⟨w.heap.size + 1, 0, none⟩) (Nat.le_add_right _ _) _).setCell (p := ⟨w.heap.size + 1 + 1, 0, none⟩) (by show w.heap.size ≤ w.heap.size + 1 + 1; omega) _).alloc (by simp; omega) _) 1
set_option maxRecDepth 100000 in
set_option maxHeartbeats 1000000 in
theorem dapply_large (Ab A : Option Addr) (nb cb n c : Nat) (d : List Nat) (ea : Nat → Addr) (w : World) (hD : Rd w (.slice A n c) d) (hb : Sha.Byte d) (hS : ASents w ea) (h4 : 4 ≤ d.length) (hst : Dl.two d 0 = nb) (hlg : 300 < Dl.two d 2) :
    Calls Tryz.prog 84 #[.slice Ab nb cb, .slice A n c] w (ApplyPost (.err 12) ea w) := by
  have SZ : ∀ w', Below w.heap.size w w' → Calls Tryz.prog 95 #[.slice A n c] w' fun e w'' => e = .returned (.tuple #[.int .i64 (Dl.two d 0 : Nat), .int .i64 (Dl.two d 2 : Nat), .nilIface]) ∧ ∃ m, w'' = w'.drewN m := fun w' hw => sizes_any A n c d w' (hD.below hw (Nat.le_refl _)) hb h4
  have hG := (hS 12 (by omega)).lt
  have cE : ∀ w', Below w.heap.size w w' → w'.cell? ⟨12, 0, none⟩ = some (ev (ea 12)) := fun w' hw => ((hS 12 (by omega)).below hw (Nat.le_refl _)).var
  have lE : 12 < w.heap.size := hG
  have hm : Tryz.prog.follows .mixedOrders = true := by kernel_rfl
  rw [hst] at SZ
  have b1 : decide ((300 : Int) < ((Dl.two d 2 : Nat) : Int)) = true := by simp; omega
  have b2 : (300 : Int) < ((Dl.two d 2 : Nat) : Int) := by omega
  clear hst hlg
  clear h4 hS hD hb hG
  refine (callsIn_wide (n := 4)).1 ?_
  refine callsIn_of_wp Tryz.func84 rfl trivial ?_ rfl
  simp only [Tryz.ntmps84, List.size_toArray, List.length_cons, List.length_nil, Nat.reduceAdd, Nat.reduceSub, Array.replicate_succ, Array.replicate_zero, List.push_toArray, List.append_toArray, List.nil_append, List.cons_append]
  gi_wp2_with (refine ⟨trivial, ?_⟩; gi_at_call 95; refine (callsIn_wide.2 (SZ _ ?_)).mono ?_; exact ((((Below.refl _ w).alloc (Nat.le_refl _) _).alloc (by simp) _).alloc (by simp; omega) _); rintro e w' ⟨rfl, m, rfl⟩)
  have hb3 := below_drewN ((((Below.refl _ w).alloc (Nat.le_refl _) (.cells #[.slice Ab nb cb] 22)).alloc (by simp) (.cells #[.slice none 0 0] 22)).alloc (by simp; omega) (.cells #[.nilIface] 28)) m
  have c3 := cE _ hb3
  have c4 : (((((w.alloc (.cells #[.slice Ab nb cb] 22)).alloc (.cells #[.slice none 0 0] 22)).alloc (.cells #[.nilIface] 28)).drewN m).alloc (.cells #[.int .i64 ((Dl.two d 2 : Nat) : Int)] 3)).cell? ⟨12, 0, none⟩ = some (ev (ea 12)) := cE _ (hb3.alloc (by simp; omega) _)
  have c5 : ((((((w.alloc (.cells #[.slice Ab nb cb] 22)).alloc (.cells #[.slice none 0 0] 22)).alloc (.cells #[.nilIface] 28)).drewN m).setCell ⟨w.heap.size + 1, 0, none⟩ (.slice none 0 0)).alloc (.cells #[.int .i64 ((Dl.two d 2 : Nat) : Int)] 3)).cell? ⟨12, 0, none⟩ = some (ev (ea 12)) := cE _ ((hb3.setCell (p := ⟨w.heap.size + 1, 0, none⟩) (Nat.le_add_right _ _) _).alloc (by simp; omega) _)
  gi_region_with_o (fail)
  all_goals gi_wp2
  all_goals
    refine bodyPost_ret (v := .tuple #[.slice none 0 0, ev (ea 12)]) (by simp [results, Tryz.results84, go_sem]) rfl ⟨rfl, ?_⟩
    exact below_drewN (((hb3.setCell (p := ⟨w.heap.size + 1, 0, none⟩) (Nat.le_add_right _ _) _).setCell (p := ⟨w.heap.size + 1 + 1, 0, none⟩) (by show w.heap.size ≤ w.heap.size + 1 + 1; omega) _).alloc (by simp; omega) _) 1
theorem dapply (Ab A : Option Addr) (nb cb n c : Nat) (base d : List Nat) (ea : Nat → Addr) (w : World) (hB : Rd w (.slice Ab nb cb) base) (hD : Rd w (.slice A n c) d) (hb : Sha.Byte d) (hS : ASents w ea) :
    Calls Tryz.prog 84 #[.slice Ab nb cb, .slice A n c] w (ApplyPost (Dl.applyP base d) ea w) := by
  have en : n = d.length := by obtain ⟨_, _, hv, _⟩ := hD; injection hv
  have eb : nb = base.length := by obtain ⟨_, _, hv, _⟩ := hB; injection hv
  unfold Dl.applyP
  split
  · rename_i h4
    rw [en]
    exact dapply_short Ab A nb cb c base d ea w hS h4
  · rename_i h4
    split
    · rename_i hst
      exact dapply_state Ab A nb cb n c d ea w hD hb hS (by omega) (by rw [eb]; exact hst)
    · rename_i hst
      split
      · rename_i hlg
        exact dapply_large Ab A nb cb n c d ea w hD hb hS (by omega) (by rw [eb]; exact Classical.not_not.1 hst) hlg
      · rename_i hlg
        exact dapply_any Ab A nb cb n c base d ea w hB hD hb hS (by omega) (Classical.not_not.1 hst) (by omega)
end Go.Proofs.YtolfphfdeccleaaGreatDoor
/- The longest copy with which a text begins: with how many bytes both begin; the first of the longest places. -/
namespace Go.Proofs.YtolfphfdeccleaaGreatDoor.Dl
open Go Go.Proofs.YtolfphfdeccleaaGreatDoor
def cmn : List Nat → List Nat → Nat → Nat
  | a :: la, b :: bs, m + 1 => if a = b then cmn la bs m + 1 else 0
  | _, _, _ => 0
theorem take_snocD {l : List Nat} {n : Nat} (h : n < l.length) : l.take (n + 1) = l.take n ++ [l.getD n 0] := by
  rw [List.take_succ_eq_append_getElem h]; simp [List.getD, h]
/-- the best of the first k places -/
def lgN (base text : List Nat) : Nat → Nat × Nat
  | 0 => (0, 0)
  | k + 1 => if 4 ≤ cmn (base.drop k) text 127 ∧ (lgN base text k).1 < cmn (base.drop k) text 127 then (cmn (base.drop k) text 127, k) else lgN base text k
def lg (base text : List Nat) : Nat × Nat := lgN base text base.length
/-! the library's search -/
theorem map_ofNat_inj : ∀ {xs ys : List Nat}, (∀ x ∈ xs, x < 256) → (∀ y ∈ ys, y < 256) → xs.map UInt8.ofNat = ys.map UInt8.ofNat → xs = ys
  | [], [], _, _, _ => rfl
  | [], _ :: _, _, _, h => by cases h
  | _ :: _, [], _, _, h => by cases h
  | x :: xs, y :: ys, hx, hy, h => by
    simp only [List.map_cons, List.cons.injEq] at h
    have e : x = y := by
      have h1 := congrArg UInt8.toNat h.1
      simp only [UInt8.toNat_ofNat'] at h1
      have := hx x (by simp); have := hy y (by simp)
      omega
    rw [e, map_ofNat_inj (fun z hz => hx z (by simp [hz])) (fun z hz => hy z (by simp [hz])) h.2]
theorem mem_byte {xs : List Nat} (h : ∀ i, xs.getD i 0 < 256) : ∀ x ∈ xs, x < 256 := fun x hx => by
  obtain ⟨i, hi, rfl⟩ := List.mem_iff_getElem.1 hx
  have := h i
  simpa [List.getD, hi] using this
end Go.Proofs.YtolfphfdeccleaaGreatDoor.Dl
/- The library's contracts at this program's numbers: each by one application. -/
namespace Go.Proofs
open Go.Shelf
def Tryz.lays137_ren : Go.Shelf.Ren := ⟨fun | 137 => 91 | 217 => 105 | 266 => 121 | n => n, fun | 9 => 9 | 5 => 5 | 3 => 3 | n => n, fun | n => n⟩
theorem Tryz.lays137 : Go.Proofs.Lays.n137 Tryz.prog Tryz.lays137_ren := {
  mixed := by kernel_rfl
  f137 := Tryz.func91.trans (congrArg some (by kernel_rfl))
  f217 := Tryz.func105.trans (congrArg some (by kernel_rfl))
  f266 := Tryz.func121.trans (congrArg some (by kernel_rfl))
  t3 := Tryz.underlying3
  a3 := Tryz.isAgg3
  z3 := Tryz.sizeOf3
  v3 := Tryz.zeroValue3
  t5 := Tryz.underlying5
  a5 := Tryz.isAgg5
  z5 := Tryz.sizeOf5
  v5 := Tryz.zeroValue5
  t9 := Tryz.underlying9
  a9 := Tryz.isAgg9
  z9 := Tryz.sizeOf9
  v9 := Tryz.zeroValue9 }
open Go.RowKit in
theorem Tryz.strings_IndexByte (s : ByteArray) (c : Int) (w : World) :
    Calls Tryz.prog 91 #[.string s, .int .u8 c] w fun e w' => e = .returned (.int .i64 (Lib.indexByte s.data.toList c.toNat.toUInt8)) ∧ w' = w := Any.strings_IndexByte Tryz.lays137 s c w
end Go.Proofs
/- delta.common and delta.longest. -/
namespace Go.Proofs.YtolfphfdeccleaaGreatDoor
open Go Go.RowKit
end Go.Proofs.YtolfphfdeccleaaGreatDoor
/- delta.longest. -/
namespace Go.Proofs.YtolfphfdeccleaaGreatDoor
open Go Go.RowKit
theorem Rd.at_ {w : World} {A : Option Addr} {n c : Nat} {xs : List Nat} (h : Rd w (.slice A n c) xs) (h0 : 0 < xs.length) : ∃ b o, A = some ⟨b, o, none⟩ ∧ b < w.heap.size := by
  obtain ⟨_, _, b, o, e, hb, _⟩ := h.blk h0
  exact ⟨b, o, e, hb⟩
end Go.Proofs.YtolfphfdeccleaaGreatDoor
/- delta.longest, in general. -/
namespace Go.Proofs.YtolfphfdeccleaaGreatDoor
open Go Go.RowKit
def LongI (B : Nat) (w : World) (s : Nat × Nat) (wr : World) : Prop :=
  Blk wr B 153 #[.int .i64 0, .slice none 0 0, .int .i64 0] ∧ Blk wr (B + 1) 153 #[.int .i64 (s.1 : Int), .slice none 0 0, .int .i64 (s.2 : Int)] ∧ Below B w wr
theorem LongI.put {B : Nat} {w wr : World} {s : Nat × Nat} (h : LongI B w s wr) (n q f : Nat) : LongI B w (q, f) ((((wr.drewN n).setCell ⟨B + 1, 0, none⟩ (.int .i64 (q : Int))).setCell ⟨B + 1, 1, none⟩ (.slice none 0 0)).setCell ⟨B + 1, 2, none⟩ (.int .i64 (f : Int))) := by
  refine ⟨(((h.1.drewN n).far (p := ⟨B + 1, 0, none⟩) (by show B ≠ B + 1; omega) _).far (p := ⟨B + 1, 1, none⟩) (by show B ≠ B + 1; omega) _).far (p := ⟨B + 1, 2, none⟩) (by show B ≠ B + 1; omega) _, ?_, ?_⟩
  · have h2 := (((h.2.1.drewN n).set_ 0 (.int .i64 (q : Int))).set_ 1 (.slice none 0 0)).set_ 2 (.int .i64 (f : Int))
    simpa only [List.setIfInBounds_toArray, List.set_cons_zero, List.set_cons_succ] using h2
  · exact (((below_drewN h.2.2 n).setCell (p := ⟨B + 1, 0, none⟩) (by show B ≤ B + 1; omega) _).setCell (p := ⟨B + 1, 1, none⟩) (by show B ≤ B + 1; omega) _).setCell (p := ⟨B + 1, 2, none⟩) (by show B ≤ B + 1; omega) _
end Go.Proofs.YtolfphfdeccleaaGreatDoor
/- A loop over an iterator that goes through a known list, in its order: a round is asked only for the element that comes next. -/
namespace Go.Proofs.YtolfphfdeccleaaGreatDoor
open Go Go.RowKit
/-- the two blocks of the loop's own lie there: the rounds' deferred calls, the record -/
def Lies (B : Nat) (r : Loop) (W : World) : Prop := W.heap[B]? = some (.deferred (some [])) ∧ W.heap[B + 1]? = some (.loop r)
theorem Lies.from {B : Nat} {r : Loop} {W W' : World} (h : Lies B r W) (k : KeepsFrom B W W') : Lies B r W' := ⟨k.same _ _ (Nat.le_refl _) h.1 rfl, k.same _ _ (Nat.le_succ _) h.2 rfl⟩
theorem Lies.put {B : Nat} {r : Loop} {W : World} (h : Lies B r W) (r' : Loop) : Lies B r' (W.putObj (B + 1) (.loop r')) :=
  ⟨(World.putObj_heap_other (by omega)).trans h.1, World.putObj_heap_same (Array.getElem?_eq_some_iff.1 h.2).1⟩
theorem Lies.grown {B C : Nat} {r : Loop} {W W' : World} {row : Option Nat} (h : Lies B r W) (hg : W.grownBy W' row) (hr : ∀ j, row = some j → C ≤ j ∧ ∃ o : Obj, W.heap[j]? = some o ∧ o.isWalk = true) : Lies B r W' :=
  ⟨(grownBy_keeps hg (fun j e => (hr j e).2) h.1 rfl).trans h.1, (grownBy_keeps hg (fun j e => (hr j e).2) h.2 rfl).trans h.2⟩
section
variable {α : Type} {P : Program} {n : Nat}
end
end Go.Proofs.YtolfphfdeccleaaGreatDoor
/- The iterator over the copies that make a target (delta.copies). -/
namespace Go.Proofs.YtolfphfdeccleaaGreatDoor
open Go Go.RowKit Go.Shelf
attribute [local go_sem] Oper.semAt_some
namespace Dl
/-- the copies of a target from a place on: place, bytes, from where -/
def cpsF (base target : List Nat) : Nat → Nat → List (Nat × Nat × Nat)
  | 0, _ => []
  | f + 1, p => if p < target.length then
      if 0 < (lg base (target.drop p)).1 then (p, (lg base (target.drop p)).1, (lg base (target.drop p)).2) :: cpsF base target f (p + (lg base (target.drop p)).1)
      else cpsF base target f (p + 1)
    else []
def cps (base target : List Nat) (p : Nat) : List (Nat × Nat × Nat) := cpsF base target (target.length - p) p
end Dl
/-- what the iterator over copies reads: both boxes, both texts -/
structure CIn (w : World) (bB bT : Nat) (bv tv : Value) (base target : List Nat) : Prop where
  bb : Boxed w bB 22 bv
  bt : Boxed w bT 22 tv
  rb : Rd w bv base
  rt : Rd w tv target
  mx : ∃ m, w.cell? ⟨23, 0, none⟩ = some (.int .i64 m)
/-- what a round keeps: what lay below n₀, the two boxes, and every step in memory -/
def KpC (n₀ bB bT : Nat) (W W' : World) : Prop := Below n₀ W W' ∧ (∀ k, k = bB ∨ k = bT → W'.heap[k]? = W.heap[k]?) ∧
  ∀ (k : Nat) (cs : Array Value) (z : Nat × Nat), W.heap[k]? = some (.cells cs 153 z) → W'.heap[k]? = some (.cells cs 153 z)
theorem KpC.refl (n₀ bB bT : Nat) (W : World) : KpC n₀ bB bT W W := ⟨Below.refl _ _, fun _ _ => rfl, fun _ _ _ h => h⟩
theorem KpC.trans {n₀ bB bT : Nat} {A B C : World} (h : KpC n₀ bB bT A B) (k : KpC n₀ bB bT B C) : KpC n₀ bB bT A C :=
  ⟨h.1.trans k.1, fun j hj => (k.2.1 j hj).trans (h.2.1 j hj), fun j cs z e => k.2.2 j cs z (h.2.2 j cs z e)⟩
end Go.Proofs.YtolfphfdeccleaaGreatDoor
/- The iterator over copies: it goes through all of them. -/
namespace Go.Proofs.YtolfphfdeccleaaGreatDoor
open Go Go.RowKit Go.Shelf
attribute [local go_sem] Oper.semAt_some
theorem KpC.below {n₀ bB bT : Nat} {W W' : World} (h : Below W.heap.size W W') (h1 : n₀ ≤ W.heap.size) (h2 : bB < W.heap.size) (h3 : bT < W.heap.size) : KpC n₀ bB bT W W' :=
  ⟨h.mono h1, fun k hk => h.block k (by rcases hk with rfl | rfl <;> assumption), fun k cs z e => (h.block k (Array.getElem?_eq_some_iff.1 e).1).trans e⟩
theorem CIn.keep {w w' : World} {bB bT n₀ : Nat} {bv tv : Value} {base target : List Nat} (h : CIn w bB bT bv tv base target) (k : KpC n₀ bB bT w w') (hn : ∃ wx : World, n₀ = wx.heap.size ∧ Below n₀ wx w ∧ Rd wx bv base ∧ Rd wx tv target ∧ ∃ m, wx.cell? ⟨23, 0, none⟩ = some (.int .i64 m)) : CIn w' bB bT bv tv base target := by
  obtain ⟨wx, rfl, hb, r1, r2, m, hm⟩ := hn
  have hb' := hb.trans k.1
  exact ⟨(k.2.1 bB (.inl rfl)).trans h.bb, (k.2.1 bT (.inr rfl)).trans h.bt, r1.below hb' (Nat.le_refl _), r2.below hb' (Nat.le_refl _), m, (hb'.cell (p := ⟨23, 0, none⟩) (block_lt_of_cell hm)).trans hm⟩
end Go.Proofs.YtolfphfdeccleaaGreatDoor
/- slices.Chunk at bytes: it goes through a text's parts of at most 127 bytes. -/
namespace Go.Proofs.YtolfphfdeccleaaGreatDoor
open Go Go.RowKit Go.Shelf
attribute [local go_sem] Oper.semAt_some
namespace Dl
def chF (n : Nat) : Nat → Nat → List (Nat × Nat)
  | 0, _ => []
  | f + 1, p => if p < n then (p, min 127 (n - p)) :: chF n f (p + 127) else []
/-- the parts of n bytes from a place on: place, bytes -/
def chk (n p : Nat) : List (Nat × Nat) := chF n (n - p) p
end Dl
end Go.Proofs.YtolfphfdeccleaaGreatDoor
/- delta.putFresh: fresh bytes as steps of at most 127. -/
namespace Go.Proofs.YtolfphfdeccleaaGreatDoor
open Go Go.RowKit Go.Shelf
attribute [local go_sem] Oper.semAt_some
def Dl.frs (text : List Nat) (l : List (Nat × Nat)) : List Nat := l.flatMap fun x => x.2 :: (text.drop x.1).take x.2
def Dl.fr (text : List Nat) : List Nat := Dl.frs text (Dl.chk text.length 0)
theorem Dl.Oth.from (B0 : Nat) (w : World) {β : Type} (hB : w.heap.size ≤ B0) : OwnFrom B0 (fun (_ : β) W => Dl.Oth w W) := fun _ X Y row hs hg hr => ⟨fun p cs T z hT e => by
  have h1 := hs.1 p cs T z hT e
  rw [hg.block p (Array.getElem?_eq_some_iff.1 h1).1 (fun er => by obtain ⟨_, o, ho, hc⟩ := hr p er.symm; rw [h1] at ho; cases ho; cases hc)]
  exact h1, ⟨Nat.le_trans hs.2.size hg.size, fun k o hk hc => by
  have h1 := hs.2.same k o hk hc
  rw [hg.block k (Array.getElem?_eq_some_iff.1 h1).1 (fun er => by have h2 := (hr k er.symm).1; have h3 := (Array.getElem?_eq_some_iff.1 hk).1; omega)]
  exact h1⟩⟩
theorem Dl.Oth.put {w W : World} (h : Dl.Oth w W) (D : Nat) (o o' : Obj) (hD : w.heap.size ≤ D) (hK : W.heap[D]? = some o) (hc : o.isCells = false) : Dl.Oth w (W.putObj D o') :=
  ⟨fun p cs T z hT e => by
    have h1 := h.1 p cs T z hT e
    exact (World.putObj_heap_other (fun ek => by subst ek; rw [h1] at hK; cases hK; cases hc)).trans h1,
   ⟨Nat.le_trans h.2.size (grownBy_putObj' W D o').size, fun k o2 hk hc2 => (World.putObj_heap_other (by have := (Array.getElem?_eq_some_iff.1 hk).1; omega)).trans (h.2.same k o2 hk hc2)⟩⟩
theorem KpC.put {n₀ bB bT B0 : Nat} (h1 : n₀ ≤ B0) (h2 : bB < B0) (h3 : bT < B0) (W : World) (l : Nat) (o o' : Obj) (hl : B0 ≤ l) (ho : W.heap[l]? = some o) (hc : o.isCells = false) : KpC n₀ bB bT W (W.putObj l o') :=
  ⟨⟨rfl, rfl, rfl, (grownBy_putObj' W l o').size, fun i hi => World.putObj_heap_other (by omega)⟩, fun k hk => World.putObj_heap_other (by omega), fun k cs z e => (World.putObj_heap_other (fun ek => by subst ek; rw [e] at ho; cases ho; cases hc)).trans e⟩
/-- what isn't a row of bytes stands, but for one box -/
def Near (Bb : Nat) (W W' : World) : Prop := ∀ (p : Nat) (cs : Array Value) (T : TypeId) (z : Nat × Nat), T ≠ 5 → p ≠ Bb → W.heap[p]? = some (Obj.cells cs T z) → W'.heap[p]? = some (Obj.cells cs T z)
theorem Near.trans {Bb : Nat} {a b c : World} (h : Near Bb a b) (k : Near Bb b c) : Near Bb a c := fun p cs T z n m e => k p cs T z n m (h p cs T z n m e)
/-- between two parts -/
def FrI (text ys0 : List Nat) (B Bb : Nat) (tv : Value) (wb w : World) (pre : List (Nat × Nat)) (W : World) : Prop :=
  (((∃ v, Boxed W Bb 22 v ∧ W.ownsRow B 5 1 v (ys0 ++ Dl.frs text pre).length (cellsB (ys0 ++ Dl.frs text pre)) ∧ True) ∧ (Boxed W (Bb + 1) 22 tv ∧ Boxed W (Bb + 1 + 1) 3 (.int .i64 127))) ∧ Below B wb W) ∧ Dl.Oth w W
theorem FrI.own (text ys0 : List Nat) (B Bb B0 : Nat) (tv : Value) (wb w : World) (h1 : B ≤ wb.heap.size) (h2 : B ≤ B0) (h3 : w.heap.size ≤ B0) : OwnFrom B0 (FrI text ys0 B Bb tv wb w) :=
  OwnFrom.and (OwnFrom.and (OwnFrom.and (Own.from (holdsRow_own B Bb 22 5 1 (fun pre : List (Nat × Nat) => (ys0 ++ Dl.frs text pre).length) (fun pre : List (Nat × Nat) => cellsB (ys0 ++ Dl.frs text pre)) (fun _ _ => True)) B0) (OwnFrom.and (boxed_from B0 _ _ _) (boxed_from B0 _ _ _))) (ownFrom_below h1 h2)) (Dl.Oth.from B0 w h3)
end Go.Proofs.YtolfphfdeccleaaGreatDoor
/- What delta.Make makes, as a list: it makes the target of the base; how long it is and how many steps it has. -/
namespace Go.Proofs.YtolfphfdeccleaaGreatDoor.Dl
open Go Go.Proofs.YtolfphfdeccleaaGreatDoor
/-- the steps of a list of copies, from a place of the target on -/
def mkS (target : List Nat) : Nat → List (Nat × Nat × Nat) → List Nat
  | told, [] => fr (target.drop told)
  | told, (p, n, f) :: r => fr ((target.drop told).take (p - told)) ++ ((128 + n) :: f / 256 :: f % 256 :: mkS target (p + n) r)
def front (base target : List Nat) : List Nat := [base.length / 256, base.length % 256, target.length / 256, target.length % 256]
/-- the delta -/
def mk (base target : List Nat) : List Nat := front base target ++ mkS target 0 (cps base target 0)
/-- how far the first copies have come: the bytes made, and how many of the target are told -/
def mkA (target : List Nat) : List Nat × Nat → List (Nat × Nat × Nat) → List Nat × Nat
  | s, [] => s
  | s, (p, n, f) :: r => mkA target (s.1 ++ fr ((target.drop s.2).take (p - s.2)) ++ [128 + n] ++ [f / 256, f % 256], p + n) r
end Go.Proofs.YtolfphfdeccleaaGreatDoor.Dl
/- What a pack is, said plainly: its items, one behind the other; what it is as bytes, and back. -/
namespace Go.Proofs.YtolfphfdeccleaaGreatDoor
open Go Go.RowKit
namespace Pk
/-- an item: its text, and how deep it is -/
abbrev Item := List Nat × Nat
inductive R (α : Type) where
  | bad (e : Nat)
  | ok (a : α)
/-- the last one with an id -/
noncomputable def find (l : List Item) (id : List Nat) : Option Item := l.foldl (fun o p => if id = Sha.sum p.1 then some p else o) none
/-- a text is a right object, and none of the ids ahead is its: 0; else the error -/
noncomputable def adm (out : List Item) (t : List Nat) : Nat :=
  if 300 < t.length then 13 else match Ob.parse t with
    | .bad e => e
    | .ok _ => if (find out (Sha.sum t)).isSome then 20 else 0
/-- a text of bytes: itself, and what is left -/
def text (ys : List Nat) : Option (List Nat × List Nat) :=
  if ys.length < 2 then none else if ys.length < 2 + Oc.val (ys.take 2) then none else some ((ys.drop 2).take (Oc.val (ys.take 2)), ys.drop (2 + Oc.val (ys.take 2)))
/-- what an item's base is -/
noncomputable def base (out kn : List Item) (id : List Nat) : Option Item := match find out id with | some p => some p | none => find kn id
/-- an item told: its text, its depth, what is left -/
noncomputable def told (out kn : List Item) : List Nat → R (Item × List Nat)
  | [] => .bad 2
  | k :: ys =>
    if k = 0 then (match text ys with | none => .bad 2 | some q => .ok ((q.1, 0), q.2))
    else if k = 1 then
      (if ys.length < 32 then .bad 2 else match text (ys.drop 32) with
        | none => .bad 2
        | some q => match base out kn (ys.take 32) with
          | none => .bad 9
          | some p => if 5 ≤ p.2 then .bad 8 else match Dl.applyP p.1 q.1 with
            | .err c => .bad (c + 1)
            | .ok t => .ok ((t, p.2 + 1), q.2))
    else .bad 7
theorem told_cons (out kn : List Item) (k : Nat) (ys : List Nat) : told out kn (k :: ys) =
    if k = 0 then (match text ys with | none => .bad 2 | some q => .ok ((q.1, 0), q.2))
    else if k = 1 then
      (if ys.length < 32 then .bad 2 else match text (ys.drop 32) with
        | none => .bad 2
        | some q => match base out kn (ys.take 32) with
          | none => .bad 9
          | some p => if 5 ≤ p.2 then .bad 8 else match Dl.applyP p.1 q.1 with
            | .err c => .bad (c + 1)
            | .ok t => .ok ((t, p.2 + 1), q.2))
    else .bad 7 := rfl
/-- an item told and admitted -/
noncomputable def step (out kn : List Item) (xs : List Nat) : R (Item × List Nat) := match told out kn xs with
  | .bad e => .bad e
  | .ok q => if adm out q.1.1 = 0 then .ok q else .bad (adm out q.1.1)
noncomputable def go (kn : List Item) : Nat → List Item → List Nat → R (List Item)
  | 0, out, xs => if xs.length = 0 then .ok out else .bad 3
  | n + 1, out, xs => match step out kn xs with
    | .bad e => .bad e
    | .ok q => go kn n (out ++ [q.1]) q.2
noncomputable def decode (kn : List Item) (b : List Nat) : R (List Item) := if 2000 < b.length then .bad 13 else match b with
  | [] => .bad 2
  | n :: r => if 64 < n then .bad 22 else go kn n [] r
/-! what is known besides changes nothing -/
/-! what is there: right objects, each once, none too deep -/
def Good (l : List Item) : Prop := ∀ p ∈ l, p.1.length ≤ 300 ∧ (∃ o, Ob.parse p.1 = .ok o) ∧ p.2 ≤ 5
theorem parse_bad_pos {t : List Nat} {e : Nat} (h : Ob.parse t = .bad e) : 0 < e := by
  have hf : ∀ o, Prs.fin o = .bad e → 0 < e := fun o h => by
    unfold Prs.fin at h
    split at h
    · cases h
    · cases h; omega
  unfold Ob.parse at h
  split at h
  · cases h; omega
  · repeat' split at h
    all_goals first | exact hf _ h | (cases h; omega)
theorem admit_zero {out : List Item} {t : List Nat} (h : adm out t = 0) : t.length ≤ 300 ∧ (∃ o, Ob.parse t = .ok o) ∧ find out (Sha.sum t) = none := by
  unfold adm at h
  split at h
  · cases h
  · rename_i hl
    split at h
    · rename_i e he
      have := parse_bad_pos he; omega
    · rename_i o ho
      split at h
      · cases h
      · rename_i hf
        exact ⟨by omega, ⟨o, ho⟩, by simpa using hf⟩
theorem step_ok {out kn : List Item} {xs : List Nat} {q : Item × List Nat} (h : step out kn xs = .ok q) : told out kn xs = .ok q ∧ adm out q.1.1 = 0 := by
  unfold step at h
  split at h
  · cases h
  · rename_i r hr
    split at h
    · rename_i ha
      cases h
      exact ⟨hr, ha⟩
    · cases h
theorem text_len {ys : List Nat} {q : List Nat × List Nat} (h : text ys = some q) : q.2.length < ys.length ∧ q.1.length + 2 ≤ ys.length := by
  unfold text at h
  split at h
  · cases h
  · split at h
    · cases h
    · cases h
      simp only [List.length_drop, List.length_take]
      omega
theorem told_len {out kn : List Item} {xs : List Nat} {q : Item × List Nat} (h : told out kn xs = .ok q) : q.2.length < xs.length ∧ (q.1.2 ≤ 5) := by
  obtain _ | ⟨k, ys⟩ := xs
  · cases h
  · rw [told_cons] at h
    split at h
    · split at h
      · cases h
      · rename_i r hr
        cases h
        exact ⟨by have := (text_len hr).1; rw [List.length_cons]; simp only; omega, by simp⟩
    · split at h
      · split at h
        · cases h
        · split at h
          · cases h
          · rename_i r hr
            split at h
            · cases h
            · split at h
              · cases h
              · split at h
                · cases h
                · cases h
                  have := (text_len hr).1
                  rw [List.length_drop] at this
                  exact ⟨by rw [List.length_cons]; simp only; omega, by simp only; omega⟩
      · cases h
theorem go_good (kn : List Item) : ∀ (n : Nat) (out : List Item) (xs : List Nat) (l : List Item), go kn n out xs = .ok l → Good out → Good l ∧ l.length = out.length + n
  | 0, out, xs, l, h, hg => by
    unfold go at h
    split at h
    · cases h; exact ⟨hg, rfl⟩
    · cases h
  | n + 1, out, xs, l, h, hg => by
    unfold go at h
    split at h
    · cases h
    · rename_i q hq
      obtain ⟨h1, h2⟩ := step_ok hq
      have ha := admit_zero h2
      obtain ⟨g1, g2⟩ := go_good kn n _ _ l h (fun p hp => by
        rcases List.mem_append.1 hp with hp | hp
        · exact hg p hp
        · rw [List.mem_singleton.1 hp]
          exact ⟨ha.1, ha.2.1, (told_len h1).2⟩)
      exact ⟨g1, by rw [g2]; simp; omega⟩
/-! a pack of objects -/
/-- an object's item behind the one ahead: its bytes, its depth -/
noncomputable def lays (last : Item) (t : List Nat) : List Nat × Nat :=
  if last.2 < 5 ∧ (Dl.mk last.1 t).length + 40 ≤ t.length then ((1 :: Sha.sum last.1) ++ ([(Dl.mk last.1 t).length / 256, (Dl.mk last.1 t).length % 256] ++ Dl.mk last.1 t), last.2 + 1)
  else (0 :: ([t.length / 256, t.length % 256] ++ t), 0)
end Pk
end Go.Proofs.YtolfphfdeccleaaGreatDoor
