/- What is read of a disk (Read). -/
import Derived.Test.YtbllilokcalbcaaDoorMDisk1s
import Derived.Deep.MidRow
import Derived.Laws.CopyOwn
import Derived.OrdersHeld
import Derived.StillTailTactics
import Derived.Great.FillDense
import Derived.Great.BuildSlice
import Derived.Orders
import Derived.RegionTactic
namespace Go.Proofs.YtbllilokcalbcaaDoor
open Go Go.RowKit
theorem zeroI (w : World) : (zeroValue 3).run Tryd.prog w = .ok (.int .i64 0) w := by kernel_rfl
theorem cellsW_len (ps : List (Nat × List Nat)) (h : ∀ p ∈ ps, p.2.length = 32) : (cellsW ps).length = ps.length * 33 := by
  induction ps with
  | nil => rfl
  | cons p ps ih =>
    rw [cellsW, List.flatMap_cons, List.length_append, ← cellsW, ih (fun q hq => h q (List.mem_cons_of_mem _ hq)), List.length_cons, cellsB_len, h p List.mem_cons_self, List.length_cons]
    omega
theorem cellsW_get : ∀ {ps : List (Nat × List Nat)} (_h : ∀ p ∈ ps, p.2.length = 32) {k : Nat} {p : Nat × List Nat} (_hk : ps[k]? = some p) (j : Nat), j < 33 → (cellsW ps)[33 * k + j]? = (Value.int .i64 (p.1 : Int) :: cellsB p.2)[j]?
  | q :: ps, h, 0, p, hk, j, hj => by
    obtain rfl : q = p := by simpa using hk
    rw [cellsW, List.flatMap_cons, Nat.mul_zero, Nat.zero_add, List.getElem?_append_left]
    rw [List.length_cons, cellsB_len, h q List.mem_cons_self]
    omega
  | q :: ps, h, k + 1, p, hk, j, hj => by
    have ih := cellsW_get (fun x hx => h x (List.mem_cons_of_mem _ hx)) (k := k) (p := p) (by simpa using hk) j hj
    rw [cellsW, List.flatMap_cons, List.getElem?_append_right (by rw [List.length_cons, cellsB_len, h q List.mem_cons_self]; omega), List.length_cons, cellsB_len, h q List.mem_cons_self, ← cellsW, show 33 * (k + 1) + j - (32 + 1) = 33 * k + j by omega]
    exact ih
section
variable {B : Nat} {d ms ml c1 c2 : Nat} {S : Dk.D} {v : Value} {fS : Int → Option Value}
theorem read_off (i : Int) (aD : Addr) (w : World) (h : DiskAt B w d S ms ml v c1 c2 fS) (ho : S.off = true) (hD : w.cell? ⟨2, 0, none⟩ = some (ev aD)) :
    Calls Tryd.prog 67 #[.pointer (some ⟨d, 0, none⟩), .int .i64 i] w fun e w' => e = .returned (.tuple #[.slice none 0 0, ev aD]) ∧ ∃ m, w' = w.drewN m := by
  have p4 : w.cell? ⟨d, 4, none⟩ = some (.bool true) := by have := h.blk.cell 4; rw [ho] at this; exact this
  clear h ho
  go_enter Tryd.func67, Tryd.ntmps67
  go_wp2
  go_quiet (fail)
  go_wp2
  go_ret2
  exact ⟨rfl, nq, rfl⟩
theorem last_no {w : World} (h : DiskAt B w d S ms ml v c1 c2 fS) {i : Int} (hi : ¬ (0 ≤ i ∧ i < S.size)) : Dk.last S.pend i = none := by
  cases hl : Dk.last S.pend i with
  | none => rfl
  | some k =>
    obtain ⟨p, h1, h2⟩ := Dk.last_some hl
    have h3 := (h.ok.plen p (List.mem_of_getElem? h1)).1
    omega
theorem look_last {w : World} (h : DiskAt B w d S ms ml v c1 c2 fS) {i : Int} (hi : (Lit.int .i64 i).wf = true) :
    (Instr.lookup 55 (.map (some ml)) (.int .i64 i) true).run Tryd.prog w = .ok (.tuple #[.int .i64 (((Dk.last S.pend i).getD 0 : Nat) : Int), .bool (Dk.last S.pend i).isSome]) w := by
  rw [h.last.look_ok Tryd.underlying55 (zeroI _) hi]
  cases Dk.last S.pend i <;> rfl
theorem read_no (i : Int) (aR : Addr) (w : World) (h : DiskAt B w d S ms ml v c1 c2 fS) (ho : S.off = false) (hw : (Lit.int .i64 i).wf = true) (hi : ¬ (0 ≤ i ∧ i < S.size)) (hR : w.cell? ⟨0, 0, none⟩ = some (ev aR)) :
    Calls Tryd.prog 67 #[.pointer (some ⟨d, 0, none⟩), .int .i64 i] w fun e w' => e = .returned (.tuple #[.slice none 0 0, ev aR]) ∧ ∃ m, w' = w.drewN m := by
  have p4 : w.cell? ⟨d, 4, none⟩ = some (.bool false) := by have := h.blk.cell 4; rw [ho] at this; exact this
  have p3 : w.cell? ⟨d, 3, none⟩ = some (.map (some ml)) := h.blk.cell 3
  have q0 := look_last h hw
  rw [last_no h hi] at q0
  have CS := safe_no i aR w h hi hR
  clear h ho
  go_enter Tryd.func67, Tryd.ntmps67
  go_wp2_with (go_at_call 79; refine CS.mono ?_; rintro e w' ⟨rfl, m, rfl⟩)
  go_ret2
  exact ⟨rfl, m, rfl⟩
theorem read_safe (i : Nat) (w : World) (h : DiskAt B w d S ms ml v c1 c2 fS) (ho : S.off = false) (hi : i < S.size) (hl : Dk.last S.pend (i : Int) = none) :
    Calls Tryd.prog 67 #[.pointer (some ⟨d, 0, none⟩), .int .i64 (i : Int)] w fun e w' => ∃ g, e = .returned (.tuple #[.slice (some ⟨g, 0, none⟩) 32 32, .nilIface]) ∧ Blk w' g 70 (u8s (S.safe i)) ∧ w.heap.size ≤ g ∧ Below w.heap.size w w' := by
  have p4 : w.cell? ⟨d, 4, none⟩ = some (.bool false) := by have := h.blk.cell 4; rw [ho] at this; exact this
  have p3 : w.cell? ⟨d, 3, none⟩ = some (.map (some ml)) := h.blk.cell 3
  have hsz := h.ok.size
  have q0 := look_last h (i := (i : Int)) (int_wf (by omega) (by omega))
  rw [hl] at q0
  have CS := safe_ok i w h hi
  clear h ho hl
  go_enter Tryd.func67, Tryd.ntmps67
  go_wp2_with (go_at_call 79; refine CS.mono ?_; rintro e w' ⟨g, rfl, h1, h2, h3⟩; have H1 := Lib.hid h1; have H3 := Lib.hid h3; clear h1 h3)
  go_ret2
  exact ⟨g, rfl, H1.out, h2, H3.out⟩
set_option maxRecDepth 100000 in
theorem read_pend (i k : Nat) (bs : List Nat) (w : World) (h : DiskAt B w d S ms ml v c1 c2 fS) (ho : S.off = false) (hi : i < S.size) (hl : Dk.last S.pend (i : Int) = some k) (hk : S.pend[k]? = some (i, bs)) :
    Calls Tryd.prog 67 #[.pointer (some ⟨d, 0, none⟩), .int .i64 (i : Int)] w fun e w' => ∃ g, e = .returned (.tuple #[.slice (some ⟨g, 0, none⟩) 32 32, .nilIface]) ∧ Blk w' g 70 (u8s bs) ∧ w.heap.size ≤ g ∧ Below w.heap.size w w' := by
  have p4 : w.cell? ⟨d, 4, none⟩ = some (.bool false) := by have := h.blk.cell 4; rw [ho] at this; exact this
  have p3 : w.cell? ⟨d, 3, none⟩ = some (.map (some ml)) := h.blk.cell 3
  have p2 : w.cell? ⟨d, 2, none⟩ = some v := h.blk.cell 2
  have hsz := h.ok.size
  have q0 := look_last h (i := (i : Int)) (int_wf (by omega) (by omega))
  rw [hl] at q0
  have hkl : k < S.pend.length := (List.getElem?_eq_some_iff.1 hk).1
  have hpl := fun p hp => (h.ok.plen p hp).2.1
  have hbl : bs.length = 32 := hpl _ (List.mem_of_getElem? hk)
  obtain ⟨g, cap, rfl⟩ : ∃ g cap, v = .slice (some ⟨g, 0, none⟩) S.pend.length cap := by
    rcases h.row.2 with ⟨_, h0⟩ | ⟨g, cap, cur, hv, _⟩
    · omega
    · exact ⟨g, cap, hv⟩
  have hrow := h.row
  have HG : Hid (w.rangeAt g (k * 33 + 1) (cellsB bs)) := Lib.hid fun j u hj => by
    have hjl : j < 32 := by have := (List.getElem?_eq_some_iff.1 hj).1; rwa [cellsB_len, hbl] at this
    have hc := cellsW_get hpl hk (1 + j) (by omega)
    rw [show (1 + j) = j + 1 by omega, List.getElem?_cons_succ, hj] at hc
    rw [show k * 33 + 1 + j = 33 * k + (j + 1) by omega, hrow.cellAt _ (by omega)]
    exact hc
  have i0 : ((k : Nat) : Int) < S.pend.length := by omega
  have i1 : (0 : Int) ≤ ((k : Nat) : Int) := by omega
  have HK : Hid (Blk (w.alloc (.cells (u8s (List.replicate 32 0)) 70)) w.heap.size 70 (u8s (List.replicate 32 0))) := Lib.hid (Blk.new w _ _)
  have HL := Lib.hid hbl
  clear h ho hl hpl hbl hrow hk
  go_enter Tryd.func67, Tryd.ntmps67
  go_wp2_with (first | (refine wpList_load_mid rfl 70 (.tmp 30) rfl g (k * 33 + 1) rfl (cellsB bs) _ HG.out Tryd.underlying70 rfl (by rw [cellsB_len, HL.out]; exact sector_size) ?_) | (refine wpList_store_row rfl 70 (.tmp 8) (.tmp 31) rfl w.heap.size (u8s bs) rfl rfl 70 _ HK.out (by rw [u8s_size, HL.out]; exact sector_size) (by rw [u8s_size, u8s_size, HL.out]; rfl) (u8s_one _) ?_))
  go_ret2
  exact ⟨_, rfl, HK.out.row _, Nat.le_refl _, below_row ((Below.refl _ _).alloc (Nat.le_refl _) _) (Nat.le_refl _) _⟩
end
end Go.Proofs.YtbllilokcalbcaaDoor
/- A disk is written ((*Disk).Write). -/
namespace Go.Proofs.YtbllilokcalbcaaDoor
open Go Go.RowKit
theorem run_neq_ev (a : Addr) (w : World) : (binOp .neq 27 (ev a) .nilIface).run Tryd.prog w = .ok (.bool true) w := by kernel_rfl
section
variable {B : Nat} {d ms ml c1 c2 : Nat} {S : Dk.D} {v : Value} {fS : Int → Option Value}
theorem write_off (i : Int) (b : Value) (aD : Addr) (w : World) (h : DiskAt B w d S ms ml v c1 c2 fS) (ho : S.off = true) (hD : w.cell? ⟨2, 0, none⟩ = some (ev aD)) :
    Calls Tryd.prog 63 #[.pointer (some ⟨d, 0, none⟩), .int .i64 i, b] w fun e w' => e = .returned (ev aD) ∧ w = w' := by
  have p4 : w.cell? ⟨d, 4, none⟩ = some (.bool true) := by have := h.blk.cell 4; rw [ho] at this; exact this
  clear h ho
  go_enter Tryd.func63, Tryd.ntmps63
  go_wp2
  go_ret
  exact ⟨rfl, rfl⟩
theorem write_no (i : Int) (b : Value) (aR : Addr) (w : World) (h : DiskAt B w d S ms ml v c1 c2 fS) (ho : S.off = false) (hi : ¬ (0 ≤ i ∧ i < S.size)) (hR : w.cell? ⟨0, 0, none⟩ = some (ev aR)) :
    Calls Tryd.prog 63 #[.pointer (some ⟨d, 0, none⟩), .int .i64 i, b] w fun e w' => e = .returned (ev aR) ∧ w = w' := by
  have p4 : w.cell? ⟨d, 4, none⟩ = some (.bool false) := by have := h.blk.cell 4; rw [ho] at this; exact this
  have CH := has_any i false w h (decide_eq_false hi).symm
  clear h ho
  go_enter Tryd.func63, Tryd.ntmps63
  go_wp2_with (go_at_call 78; refine CH.mono ?_; rintro e w' ⟨rfl, rfl⟩)
  go_ret
  exact ⟨rfl, rfl⟩
theorem has_yes (i : Nat) (w : World) (h : DiskAt B w d S ms ml v c1 c2 fS) (hi : i < S.size) : Calls Tryd.prog 78 #[.pointer (some ⟨d, 0, none⟩), .int .i64 (i : Int)] w fun e w' => e = .returned (.bool true) ∧ w = w' :=
  has_any (i : Int) true w h (decide_eq_true (⟨by omega, by omega⟩ : (0 : Int) ≤ (i : Int) ∧ (i : Int) < S.size)).symm
theorem write_long (i : Nat) (A : Option Addr) (n c : Nat) (aL : Addr) (w : World) (h : DiskAt B w d S ms ml v c1 c2 fS) (ho : S.off = false) (hi : i < S.size) (hn : 32 < n) (hL : w.cell? ⟨5, 0, none⟩ = some (ev aL)) :
    Calls Tryd.prog 63 #[.pointer (some ⟨d, 0, none⟩), .int .i64 (i : Int), .slice A n c] w fun e w' => e = .returned (ev aL) ∧ w = w' := by
  have p4 : w.cell? ⟨d, 4, none⟩ = some (.bool false) := by have := h.blk.cell 4; rw [ho] at this; exact this
  have CH := has_yes i w h hi
  have i0 : (32 : Int) < (n : Int) := by omega
  clear h ho
  go_enter Tryd.func63, Tryd.ntmps63
  go_wp2_with (go_at_call 78; refine CH.mono ?_; rintro e w' ⟨rfl, rfl⟩)
  go_ret
  exact ⟨rfl, rfl⟩
theorem write_dead (i : Nat) (A : Option Addr) (n c : Nat) (aD : Addr) (w : World) (h : DiskAt B w d S ms ml v c1 c2 fS) (ho : S.off = false) (hi : i < S.size) (hn : n ≤ 32) (ha : S.armed = true) (hl : S.left = 0) (hD : w.cell? ⟨2, 0, none⟩ = some (ev aD)) (hne : d ≠ 2) :
    Calls Tryd.prog 63 #[.pointer (some ⟨d, 0, none⟩), .int .i64 (i : Int), .slice A n c] w fun e w' => e = .returned (ev aD) ∧ DiskAt B w' d { S with off := true } ms ml v c1 c2 fS ∧ w.grownBy w' (some d) := by
  have p4 : w.cell? ⟨d, 4, none⟩ = some (.bool false) := by have := h.blk.cell 4; rw [ho] at this; exact this
  have CH := has_yes i w h hi
  have CD := deed_fail aD w h ha hl hD hne
  have i0 : ¬ (32 : Int) < (n : Int) := by omega
  have q0 := run_neq_ev aD
  clear h ho
  go_enter Tryd.func63, Tryd.ntmps63
  go_wp2_with (first | (go_at_call 78; refine CH.mono ?_; rintro e w' ⟨rfl, rfl⟩) | (go_at_call 64; refine CD.mono ?_; rintro e w' ⟨rfl, h1, h2⟩; have H1 := Lib.hid h1; have H2 := Lib.hid h2; clear h1 h2))
  go_ret
  exact ⟨rfl, H1.out, H2.out⟩
/-- a sector's bytes: what was given, noughts behind -/
def padB (bs : List Nat) : List Nat := bs ++ List.replicate (32 - bs.length) 0
theorem padB_len {bs : List Nat} (h : bs.length ≤ 32) : (padB bs).length = 32 := by simp [padB]; omega
def wcells (i : Nat) (ws : List Nat) : List Value := .int .i64 (i : Int) :: cellsB ws
theorem wcells_len (i : Nat) {ws : List Nat} (h : ws.length = 32) : (wcells i ws).length = 33 := by rw [wcells, List.length_cons, cellsB_len, h]
theorem wcells_one (i : Nat) (ws : List Nat) : ∀ u ∈ wcells i ws, u.oneCell' = true := fun u hu => by
  rcases List.mem_cons.1 hu with rfl | hu
  · rfl
  · exact cellsB_one ws u hu
theorem drop_zeros (n k : Nat) : (cellsB (List.replicate n 0)).drop k = cellsB (List.replicate (n - k) 0) := by simp [cellsB]
theorem splice_pad (i : Nat) {bs : List Nat} (_h : bs.length ≤ 32) : splice (wcells i (List.replicate 32 0)) 1 (cellsB bs) = wcells i (padB bs) := by
  unfold splice wcells padB
  rw [cellsB_len, Nat.add_comm 1, List.drop_succ_cons, drop_zeros]
  show Value.int .i64 (i : Int) :: (cellsB bs ++ _) = _
  rw [cellsB, cellsB, cellsB, List.map_append]
theorem write_size : (Tryd.prog.info? 72).map (·.size) = some 33 := by kernel_rfl
theorem write_info : (Tryd.prog.info? 72).map (fun i => (i.zero, i.size, i.bytes)) = some (some (.agg (wcells 0 (List.replicate 32 0)).toArray), 33, 40) := by kernel_rfl
end
end Go.Proofs.YtbllilokcalbcaaDoor
/- A disk is written: what is done ((*Disk).Write). -/
namespace Go.Proofs.YtbllilokcalbcaaDoor
open Go Go.RowKit
def Dk.wr (S : Dk.D) (i : Nat) (bs : List Nat) : Dk.D := { S with pend := S.pend ++ [(i, padB bs)] }
/-- what a disk's deed leaves of all else -/
structure Fr (w w' : World) (d ms ml : Nat) (v : Value) : Prop where
  os : w'.os = w.os
  tape : w'.tape = w.tape
  output : w'.output = w.output
  size : w.heap.size ≤ w'.heap.size
  block : ∀ b, b < w.heap.size → b ≠ d → b ≠ ms → b ≠ ml → some b ≠ v.ownBlock → w'.heap[b]? = w.heap[b]?
theorem Fr.refl {w : World} {d ms ml : Nat} {v : Value} : Fr w w d ms ml v := ⟨rfl, rfl, rfl, Nat.le_refl _, fun _ _ _ _ _ _ => rfl⟩
theorem Fr.of {w w' : World} {d ms ml : Nat} {v : Value} {row : Option Nat} (hg : w.grownBy w' row) (h : ∀ g, row = some g → g = d ∨ g = ms ∨ g = ml ∨ some g = v.ownBlock) : Fr w w' d ms ml v :=
  ⟨hg.os, hg.tape, hg.output, hg.size, fun b hb h1 h2 h3 h4 => hg.block b hb (fun e => by
    rcases h b e.symm with h | h | h | h
    · exact h1 h
    · exact h2 h
    · exact h3 h
    · exact h4 h)⟩
theorem Fr.trans {w w' w'' : World} {d ms ml : Nat} {v : Value} (h : Fr w w' d ms ml v) (k : Fr w' w'' d ms ml v) : Fr w w'' d ms ml v :=
  ⟨k.os.trans h.os, k.tape.trans h.tape, k.output.trans h.output, Nat.le_trans h.size k.size, fun b hb h1 h2 h3 h4 => (k.block b (Nat.lt_of_lt_of_le hb h.size) h1 h2 h3 h4).trans (h.block b hb h1 h2 h3 h4)⟩
theorem row_of_blk {w : World} {g t : Nat} {cs : List Value} (h : Blk w g t cs.toArray) : w.rangeAt g 0 cs := fun j u hu => by
  rw [Nat.zero_add]
  have hj := (List.getElem?_eq_some_iff.1 hu).1
  rw [h.cell j]
  simpa using hu
theorem write_parts : (Tryd.prog.info? 72).map (fun i => (i.zero, i.size, i.bytes)) = some (some (.agg (wcells 0 (List.replicate 32 0)).toArray), 33, 40) := write_info
theorem wp_buildW {o : Oper} {a : Act} {w : World} {K : Act → World → Prop} {Q : Exit → Act → World → Prop} (p0 : Operand) (ho : o.op = .buildSlice 56 1 #[(0, p0)])
    (i : Nat) (ws : List Nat) (hw : ws.length = 32) (e0 : a.eval p0 = .agg (wcells i ws).toArray)
    (h : K (a.put o.dst (.slice (some ⟨w.heap.size, 0, none⟩) 1 1)) (w.alloc (.cells (wcells i ws).toArray 72))) : o.wp Tryd.prog a w K Q := by
  obtain ⟨ie, hie, hiz, his, hib⟩ := info_parts write_info
  refine wp_buildSlice 56 72 1 _ ho (wcells i ws).toArray ie _ Tryd.underlying56 hie hiz (by rw [his]; decide) (by rw [his]; decide) ?_ h
  rw [his]
  have hl : (Array.map (fun (x : Nat × Operand) => match x with | (i, x) => (i, a.eval x)) #[(0, p0)]).toList = ([Value.agg (wcells i ws).toArray].zipIdx 0).map fun x => (x.2, x.1) := by
    simp [e0]
  rw [hl, Great.fill_whole (s := 33) (by decide) _ _ ?_ ?_]
  · simp [Value.cells]
  · intro v hv
    obtain rfl := List.mem_singleton.1 hv
    show (wcells i ws).toArray.size = 33
    rw [List.size_toArray, wcells_len i hw]
  · simp
section
variable {B : Nat} {d ms ml c1 c2 : Nat} {S : Dk.D} {v : Value} {fS : Int → Option Value}
/-- a disk whose map knows the next write, whose row does not yet -/
structure MidD (B : Nat) (w : World) (d : Nat) (S : Dk.D) (ms ml : Nat) (v : Value) (c1 c2 : Nat) (fS : Int → Option Value) (i : Nat) : Prop where
  blk : Blk w d 58 #[.int .i64 (S.size : Int), .map (some ms), v, .map (some ml), .bool S.off, .bool S.armed, .int .i64 (S.left : Int), .int .i64 (S.deeds : Int)]
  safe : MapF w ms c1 fS
  safeAt : ∀ i : Nat, i < S.size → (fS i).getD (.agg (u8s (List.replicate 32 0))) = .agg (u8s (S.safe i))
  last : MapF w ml c2 (upd (fun i => (Dk.last S.pend i).map fun (k : Nat) => Value.int .i64 (k : Int)) (i : Int) (some (.int .i64 (S.pend.length : Int))))
  row : w.ownsRow B 72 33 v S.pend.length (cellsW S.pend)
  ok : Dk.Ok S
  bd : B ≤ d ∧ B ≤ ms ∧ B ≤ ml
  ne : ms ≠ ml ∧ d ≠ ms ∧ d ≠ ml
  c1 : c1 ≤ 1000000000
  rowNe : some d ≠ v.ownBlock ∧ some ms ≠ v.ownBlock ∧ some ml ≠ v.ownBlock
theorem mid_of {w w' : World} {i : Nat} (h : DiskAt B w d S ms ml v c1 c2 fS) {c3 : Nat}
    (hm : MapF w' ml c3 (upd (fun i => (Dk.last S.pend i).map fun (k : Nat) => Value.int .i64 (k : Int)) (i : Int) (some (.int .i64 (S.pend.length : Int))))) (hg : w.grownBy w' (some ml)) : MidD B w' d S ms ml v c1 c3 fS i :=
  ⟨h.blk.grown hg (fun e => h.ne.2.2 (by injection e with e)), h.safe.kept hg (fun e => h.ne.1 (by injection e with e)), h.safeAt, hm,
   h.row.kept hg (by cases hv : v.ownBlock with | none => exact Or.inl rfl | some g => exact Or.inr (fun e => h.rowNe.2.2 (by rw [hv, e]))), h.ok, h.bd, h.ne, h.c1, h.rowNe⟩
theorem wne {w : World} {g t : Nat} {cs : Array Value} (h : DiskAt B w d S ms ml v c1 c2 fS) (hb : Blk w g t cs) : some g ≠ some ml := fun e => by
  injection e with e
  subst e
  obtain ⟨D, ⟨es, clock, h1, _⟩, _⟩ := h.last
  have := h1.symm.trans hb
  cases this
theorem snoc_fun (ps : List (Nat × List Nat)) (i : Nat) (ws : List Nat) : upd (fun i => (Dk.last ps i).map fun (k : Nat) => Value.int .i64 (k : Int)) (i : Int) (some (.int .i64 (ps.length : Int))) = fun j => (Dk.last (ps ++ [(i, ws)]) j).map fun (k : Nat) => Value.int .i64 (k : Int) := by
  funext j
  rw [Dk.last_snoc]
  unfold upd
  by_cases h : j = (i : Int)
  · subst h; simp
  · rw [if_neg h, if_neg (fun e => h e.symm)]
/-- the write is laid down -/
theorem MidD.done {w w' w'' : World} {i : Nat} {v' : Value} {bs : List Nat} (h : MidD B w d S ms ml v c1 c2 fS i) (hn : bs.length ≤ 32) (hb : Sha.Byte bs) (hi : i < S.size) (hfew : S.pend.length < 1000000) (h2 : c2 ≤ 1000000000)
    (ho : w'.ownsRow B 72 33 v' (S.pend.length + 1) (cellsW S.pend ++ wcells i (padB bs))) (hg : w.grownBy w' v.ownBlock) (hw : w'' = w'.setCell ⟨d, 2, none⟩ v') :
    DiskAt B w'' d (Dk.wr S i bs) ms ml v' c1 c2 fS ∧ Fr w w'' d ms ml v := by
  subst hw
  have hb1 : Blk w' d 58 _ := h.blk.grown hg h.rowNe.1
  have hg2 : w'.grownBy (w'.setCell ⟨d, 2, none⟩ v') (some d) := set_own 2 _
  have hne : v'.ownBlock = none ∨ v'.ownBlock ≠ some d := by
    rcases ho.2 with ⟨rfl, _⟩ | ⟨g, cap, cur, rfl, _, hh, _⟩
    · exact Or.inl rfl
    · refine Or.inr fun e => ?_
      injection e with e
      subst e
      have := hb1.symm.trans hh
      injection this with this
      injection this with _ e _
      revert e; decide
  have hpb : Sha.Byte (padB bs) := hb.app (Sha.Byte.zeros _)
  refine ⟨⟨hb1.set_ 2 v', (h.safe.kept hg h.rowNe.2.1).kept hg2 (fun e => h.ne.2.1 (by injection e with e; exact e.symm)), h.safeAt, ?_, ?_, ⟨h.ok.size, h.ok.len, h.ok.byte, fun p hp => ?_, ?_, h.ok.left, h.ok.deeds⟩, h.bd, h.ne, h.c1, h2⟩, ?_⟩
  · have := ((h.last.kept hg h.rowNe.2.2).kept hg2 (fun e => h.ne.2.2 (by injection e with e; exact e.symm)))
    rw [snoc_fun S.pend i (padB bs)] at this
    exact this
  · have := ho.kept hg2 hne
    show World.ownsRow _ _ _ _ _ (S.pend ++ [(i, padB bs)]).length (cellsW (S.pend ++ [(i, padB bs)]))
    rw [List.length_append, cellsW, List.flatMap_append]
    exact (by simpa [cellsW, wcells] using this)
  · rcases List.mem_append.1 hp with hp | hp
    · exact h.ok.plen p hp
    · obtain rfl := List.mem_singleton.1 hp
      exact ⟨hi, padB_len hn, hpb⟩
  · show (S.pend ++ [(i, padB bs)]).length ≤ 1000000
    rw [List.length_append]; simp; omega
  · exact (Fr.of hg (fun g e => Or.inr (Or.inr (Or.inr e.symm)))).trans (Fr.of hg2 (fun g e => Or.inl (by injection e with e; exact e.symm)))
set_option maxRecDepth 100000 in
theorem write_ok0 (i : Nat) (A : Option Addr) (n c : Nat) (bs : List Nat) (w : World) (S1 : Dk.D) (h : DiskAt B w d S ms ml v c1 c2 fS) (ho : S.off = false) (hi : i < S.size) (hn : n ≤ 32) (hv : RdB w d (.slice A n c) bs) (hi1 : i < S1.size) (hb : Sha.Byte bs) (hfew : S1.pend.length < 1000000) (hc2' : c2 < 1000000000)
    (CD : Calls Tryd.prog 64 #[.pointer (some ⟨d, 0, none⟩)] w fun e w' => e = .returned .nilIface ∧ DiskAt B w' d S1 ms ml v c1 c2 fS ∧ w.grownBy w' (some d)) :
    Calls Tryd.prog 63 #[.pointer (some ⟨d, 0, none⟩), .int .i64 (i : Int), .slice A n c] w fun e w' => e = .returned .nilIface ∧ ∃ v', DiskAt B w' d (Dk.wr S1 i bs) ms ml v' c1 (c2 + 1) fS ∧ Fr w w' d ms ml v := by
  have p4 : w.cell? ⟨d, 4, none⟩ = some (.bool false) := by have := h.blk.cell 4; rw [ho] at this; exact this
  have CH := has_yes i w h hi
  have i0 : ¬ (32 : Int) < (n : Int) := by omega
  have HV := Lib.hid hv
  have HNL : Hid (bs.length = n) := Lib.hid (by obtain ⟨_, _, e, _⟩ := hv; injection e with _ e _; exact e.symm)
  have HSRC : Hid (∀ wa : World, RdB wa d (.slice A n c) bs → 0 < (cellsB bs).length → ∃ ad, A = some ad ∧ ∀ j u, (cellsB bs)[j]? = some u → wa.cell? (ad.add j) = some u) := Lib.hid (fun wa hr h0 => by
    rw [cellsB_len] at h0
    obtain ⟨A', c', e, _, hA⟩ := hr
    injection e with e1 e2 e3
    obtain ⟨b, o, rfl, _, _, hx⟩ := hA h0
    refine ⟨_, e1, fun j u hj => ?_⟩
    have hjl : j < bs.length := by have := (List.getElem?_eq_some_iff.1 hj).1; rwa [cellsB_len] at this
    rw [cellsB_get hjl] at hj
    rw [Addr.add_mid, hx j hjl]
    exact hj)
  have HBY := Lib.hid hb
  clear h ho hv hb
  go_enter Tryd.func63, Tryd.ntmps63
  go_wp2_with (first | (go_at_call 78; refine CH.mono ?_; rintro e w' ⟨rfl, rfl⟩) | (go_at_call 64; refine CD.mono ?_; rintro e w1 ⟨rfl, h1, h2⟩; have H1 := Lib.hid h1; have H2 := Lib.hid h2; have HK : Hid (Blk (w1.alloc (.cells (wcells 0 (List.replicate 32 0)).toArray 72)) w1.heap.size 72 (wcells 0 (List.replicate 32 0)).toArray) := Lib.hid (Blk.new w1 _ _); have HWA : Hid (Blk ((w1.alloc (.cells (wcells 0 (List.replicate 32 0)).toArray 72)).setRow w1.heap.size (wcells i (List.replicate 32 0)).toArray) w1.heap.size 72 (wcells i (List.replicate 32 0)).toArray) := Lib.hid (HK.out.row _); have HBA : Hid (Below w1.heap.size w1 ((w1.alloc (.cells (wcells 0 (List.replicate 32 0)).toArray 72)).setRow w1.heap.size (wcells i (List.replicate 32 0)).toArray)) := Lib.hid (below_row ((Below.refl _ _).alloc (Nat.le_refl _) _) (Nat.le_refl _) _); have HVA : Hid (RdB ((w1.alloc (.cells (wcells 0 (List.replicate 32 0)).toArray 72)).setRow w1.heap.size (wcells i (List.replicate 32 0)).toArray) d (.slice A n c) bs) := Lib.hid ((HV.out.only h2).only (only_of_below HBA.out _)); clear h1 h2) | (refine wpList_store_row rfl 72 (.tmp 8) (.tmp 32) rfl w1.heap.size (wcells i (List.replicate 32 0)).toArray rfl rfl 72 _ HK.out (by kernel_rfl) (by kernel_rfl) (by kernel_rfl) ?_) | (refine wpList_copy_splice rfl (.tmp 34) (.tmp 35) 39 39 rfl 5 Tryd.underlying39 (by kernel_rfl) (some ⟨w1.heap.size, 1, none⟩) A 32 32 n c rfl rfl w1.heap.size 1 (wcells i (List.replicate 32 0)) 72 HWA.out (cellsB bs) (by rw [cellsB_len, HNL.out]; exact (Nat.min_eq_left hn).symm) (fun h0 => ⟨rfl, HSRC.out _ HVA.out h0⟩) (by rw [cellsB_len, HNL.out, wcells_len i (by simp)]; omega) (cellsB_one bs) w1.heap.size w1 HBA.out (Nat.le_refl _) ?_; intro w3 hg3 hb3; rw [splice_pad i (by rw [HNL.out]; exact hn)] at hg3; have HB3 := Lib.hid hb3; clear hb3))
  have HD3 := Lib.hid (H1.out.below HB3.out)
  have HG3 := Lib.hid (only_trans H2.out (only_of_below HB3.out (some d)))
  have p3 : w3.cell? ⟨d, 3, none⟩ = some (.map (some ml)) := HD3.out.blk.cell 3
  have p2 : w3.cell? ⟨d, 2, none⟩ = some v := HD3.out.blk.cell 2
  obtain ⟨A0, c0, ev0⟩ := row_slice HD3.out.row
  have HEV := Lib.hid ev0
  rw [ev0] at p2
  clear ev0
  have hsz := HD3.out.ok.size
  have hc2 := HD3.out.c2
  refine wp_region_still_tail 10 (by kernel_rfl) (by kernel_rfl) ?_
  change wpStill _ _ w3.drew _ _ _
  dsimp only [List.take, List.drop]
  repeat still_step
  refine wpStill_nil ?_
  change wpList _ _ _ _ _ w3.drew
  obtain ⟨w4, hrun, hm4, hg4⟩ := (HD3.out.last.block (w' := w3.drew) rfl).store Tryd.underlying55 (by unfold maxLen; omega) (i := (i : Int)) (int_wf (by omega) (by omega)) (.int .i64 (S1.pend.length : Int))
  replace hg4 := only_trans (only_drew (World.grownBy.refl w3 (some ml))) hg4
  have HT4 : Hid (MidD B w4 d S1 ms ml v c1 (c2 + 1) fS i) := Lib.hid (mid_of HD3.out hm4 hg4)
  have HG4 : Hid (Fr w w4 d ms ml v) := Lib.hid ((Fr.of HG3.out (fun g e => Or.inl (by injection e with e; exact e.symm))).trans (Fr.of hg4 (fun g e => Or.inr (Or.inr (Or.inl (by injection e with e; exact e.symm))))) )
  have HPL : Hid ((padB bs).length = 32) := Lib.hid (padB_len (by rw [HNL.out]; exact hn))
  have hR4 : w4.rangeAt w1.heap.size 0 (wcells i (padB bs)) := row_of_blk (Blk.grown hg3 hg4 (wne HD3.out hg3))
  have HR4 := Lib.hid hR4
  have q2 : w4.drew.cell? ⟨d, 2, none⟩ = some (.slice A0 S1.pend.length c0) := by rw [← HEV.out]; exact HT4.out.blk.cell 2
  have q2a : (w4.alloc (.cells (wcells i (padB bs)).toArray 72)).cell? ⟨d, 2, none⟩ = some (.slice A0 S1.pend.length c0) := by rw [← HEV.out]; exact (HT4.out.blk.alloc _).cell 2
  clear hm4 hg4 hR4
  obtain ⟨i0, hi0, hiz, his, hib⟩ := info_parts write_info
  have HOW : Hid ((w4.drew.alloc (.cells (wcells i (padB bs)).toArray 72)).ownsRow B 72 33 v S1.pend.length (cellsW S1.pend)) := Lib.hid (ownsRow_alloc HT4.out.row.drew _)
  have HNW : Hid ((wcells i (padB bs)).length = 1 * 33) := Lib.hid (wcells_len i HPL.out)
  have HNC : Hid (∀ j u, (wcells i (padB bs))[j]? = some u → (w4.drew.alloc (.cells (wcells i (padB bs)).toArray 72)).cell? ((⟨w4.heap.size, 0, none⟩ : Addr).add j) = some u) := Lib.hid (fun j u hj => by rw [Addr.add_mid]; exact row_of_blk (Blk.new w4.drew _ _) j u hj)
  have HF : Hid (S1.pend.length + 1 ≤ maxLen ∧ (S1.pend.length + 1) * 40 ≤ 140737488355328) := Lib.hid ⟨by unfold maxLen; omega, by omega⟩
  have HBH : Hid (B ≤ (w4.drew.alloc (.cells (wcells i (padB bs)).toArray 72)).heap.size) := Lib.hid (Nat.le_trans HT4.out.bd.1 (Nat.le_of_lt (HT4.out.blk.drew.alloc (.cells (wcells i (padB bs)).toArray 72)).lt))
  go_wp2_with fail
  refine wp_region_any (by kernel_rfl) ?_
  change wpAny _ _ _ _ _ _ _ w4.drew
  refine wpAny_take (i := 0) (v := ?_) rfl (by kernel_rfl) (by kernel_rfl) (by kernel_rfl) (fun _ _ _ h => h) (Or.inl ⟨by rfl, ?_⟩) ?_
  rotate_left
  · intro w; go_simp; with_reducible rfl
  refine wpAny_take (i := 1) (v := ?_) rfl (by kernel_rfl) (by kernel_rfl) (by kernel_rfl) (fun _ _ _ h => h) (Or.inl ⟨by rfl, ?_⟩) ?_
  rotate_left
  · intro w; go_simp; with_reducible rfl
  refine wpAny_take (i := 2) (v := ?_) rfl (by kernel_rfl) (by kernel_rfl) (by kernel_rfl) (fun _ _ _ h => h) (Or.inl ⟨by rfl, ?_⟩) ?_
  rotate_left
  · intro w; go_simp; with_reducible rfl
  refine wpAny_take (i := 3) (v := ?_) rfl (by kernel_rfl) (by kernel_rfl) (by kernel_rfl) (fun _ _ _ h => h) (Or.inl ⟨by rfl, ?_⟩) ?_
  rotate_left
  · intro w; go_simp; with_reducible rfl
  try simp only [Act.put, List.getElem_toArray, List.getElem_cons_zero, List.getElem_cons_succ, List.setIfInBounds_toArray, List.set_cons_zero, List.set_cons_succ]
  refine wpAny_ready (rs := [4, 5]) (by kernel_rfl) (by simp) ?_
  refine AllReady.cons rfl (fun K hK => ?_) (AllReady.cons rfl (fun K hK => ?_) AllReady.nil)
  rotate_left
  rw [if_pos (by rfl)]
  refine wp_load_mid 72 _ rfl w1.heap.size 0 rfl (wcells i (padB bs)) _ HR4.out Tryd.underlying72 rfl (by rw [wcells_len i HPL.out]; exact write_size) ?_
  refine hK _ _ ?_; clear hK K
  try simp only [Act.put, List.getElem_toArray, List.getElem_cons_zero, List.getElem_cons_succ, List.setIfInBounds_toArray, List.set_cons_zero, List.set_cons_succ]
  refine wpAny_ready (rs := [4, 6]) (by kernel_rfl) (by simp) ?_
  refine AllReady.cons rfl (fun K hK => ?_) (AllReady.cons rfl (fun K hK => ?_) AllReady.nil)
  rotate_left
  rw [if_pos (by rfl)]
  refine wp_buildW _ rfl i (padB bs) HPL.out rfl ?_
  refine hK _ _ ?_; clear hK K
  try simp only [Act.put, List.getElem_toArray, List.getElem_cons_zero, List.getElem_cons_succ, List.setIfInBounds_toArray, List.set_cons_zero, List.set_cons_succ]
  refine wpAny_ready (rs := [4]) (by kernel_rfl) (by simp) ?_
  refine AllReady.cons rfl (fun K hK => ?_) AllReady.nil
  rw [if_pos (by rfl)]
  go_simp
  refine hK _ _ ?_; clear hK K
  try simp only [Act.put, List.getElem_toArray, List.getElem_cons_zero, List.getElem_cons_succ, List.setIfInBounds_toArray, List.set_cons_zero, List.set_cons_succ]
  rotate_left
  go_simp
  refine hK _ _ ?_; clear hK K
  try simp only [Act.put, List.getElem_toArray, List.getElem_cons_zero, List.getElem_cons_succ, List.setIfInBounds_toArray, List.set_cons_zero, List.set_cons_succ]
  refine wpAny_ready (rs := [5]) (by kernel_rfl) (by simp) ?_
  refine AllReady.cons rfl (fun K hK => ?_) AllReady.nil
  rw [if_pos (by rfl)]
  refine wp_load_mid 72 _ rfl w1.heap.size 0 rfl (wcells i (padB bs)) _ HR4.out Tryd.underlying72 rfl (by rw [wcells_len i HPL.out]; exact write_size) ?_
  refine hK _ _ ?_; clear hK K
  try simp only [Act.put, List.getElem_toArray, List.getElem_cons_zero, List.getElem_cons_succ, List.setIfInBounds_toArray, List.set_cons_zero, List.set_cons_succ]
  refine wpAny_ready (rs := [6]) (by kernel_rfl) (by simp) ?_
  refine AllReady.cons rfl (fun K hK => ?_) AllReady.nil
  rw [if_pos (by rfl)]
  refine wp_buildW _ rfl i (padB bs) HPL.out rfl ?_
  refine hK _ _ ?_; clear hK K
  try simp only [Act.put, List.getElem_toArray, List.getElem_cons_zero, List.getElem_cons_succ, List.setIfInBounds_toArray, List.set_cons_zero, List.set_cons_succ]
  rotate_left
  go_simp
  refine hK _ _ ?_; clear hK K
  try simp only [Act.put, List.getElem_toArray, List.getElem_cons_zero, List.getElem_cons_succ, List.setIfInBounds_toArray, List.set_cons_zero, List.set_cons_succ]
  refine wpAny_ready (rs := [6]) (by kernel_rfl) (by simp) ?_
  refine AllReady.cons rfl (fun K hK => ?_) AllReady.nil
  rw [if_pos (by rfl)]
  refine wp_buildW _ rfl i (padB bs) HPL.out rfl ?_
  refine hK _ _ ?_; clear hK K
  try simp only [Act.put, List.getElem_toArray, List.getElem_cons_zero, List.getElem_cons_succ, List.setIfInBounds_toArray, List.set_cons_zero, List.set_cons_succ]
  all_goals
    refine wpAny_ready (rs := [7]) (by kernel_rfl) (by simp) ?_
    refine AllReady.cons rfl (fun K hK => ?_) AllReady.nil
    rw [if_pos (by rfl)]
    refine wp_append_own (w := w4.drew.alloc (.cells (wcells i (padB bs)).toArray 72)) (.tmp 51) (.tmp 53) 56 rfl B 72 i0 _ 33 40 Tryd.underlying56 hi0 hiz his hib rfl (by decide) v S1.pend.length (cellsW S1.pend) HEV.out.symm HOW.out ⟨w4.heap.size, 0, none⟩ 1 1 (wcells i (padB bs)) rfl HNW.out HNC.out (wcells_one i (padB bs)) HF.out.1 HF.out.2 HBH.out ?_
    intro v' w' ho hg _
    obtain ⟨A1, cc1, rfl⟩ := row_slice ho
    have HO := Lib.hid ho
    have HG := Lib.hid hg
    have q7 : w'.cell? ⟨d, 2, none⟩ = some (.slice A0 S1.pend.length c0) := by rw [← HEV.out]; exact ((HT4.out.blk.drew.alloc _).grown hg HT4.out.rowNe.1).cell 2
    have q8 : w'.frozen? ⟨d, 2, none⟩ = false := ((HT4.out.blk.drew.alloc _).grown hg HT4.out.rowNe.1).frozen 2
    clear ho hg
    refine hK _ _ ?_; clear hK K
    try simp only [Act.put, List.getElem_toArray, List.getElem_cons_zero, List.getElem_cons_succ, List.setIfInBounds_toArray, List.set_cons_zero, List.set_cons_succ]
    refine wpAny_ready (rs := [8]) (by kernel_rfl) (by simp) ?_
    refine AllReady.cons rfl (fun K hK => ?_) AllReady.nil
    go_simp
    refine hK _ _ ?_; clear hK K
    try simp only [Act.put, List.getElem_toArray, List.getElem_cons_zero, List.getElem_cons_succ, List.setIfInBounds_toArray, List.set_cons_zero, List.set_cons_succ]
    refine wpAny_ready (rs := [9]) (by kernel_rfl) (by simp) ?_
    refine AllReady.cons rfl (fun K hK => ?_) AllReady.nil
    go_simp
    refine hK _ _ ?_; clear hK K
    try simp only [Act.put, List.getElem_toArray, List.getElem_cons_zero, List.getElem_cons_succ, List.setIfInBounds_toArray, List.set_cons_zero, List.set_cons_succ]
    refine wpAny_ready (rs := [10]) (by kernel_rfl) (by simp) ?_
    refine AllReady.cons rfl (fun K hK => ?_) AllReady.nil
    go_simp
    refine hK _ _ ?_; clear hK K
    try simp only [Act.put, List.getElem_toArray, List.getElem_cons_zero, List.getElem_cons_succ, List.setIfInBounds_toArray, List.set_cons_zero, List.set_cons_succ]
    refine wpAny_done (by kernel_rfl) ?_ _
    go_wp2
    go_ret
    have D := HT4.out.done (by rw [HNL.out]; exact hn) HBY.out hi1 hfew hc2' HO.out (only_trans (only_alloc (only_drew (World.grownBy.refl w4 _)) _) HG.out) rfl
    exact ⟨rfl, _, D.1, HG4.out.trans D.2⟩
end
end Go.Proofs.YtbllilokcalbcaaDoor
