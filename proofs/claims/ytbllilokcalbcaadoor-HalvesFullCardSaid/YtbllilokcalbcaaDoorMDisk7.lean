/- A write is made safe ((*Disk).keep). -/
import Derived.Test.YtbllilokcalbcaaDoorMDisk4s
import Derived.StillTail
import Derived.StillTactics
namespace Go.Proofs.YtbllilokcalbcaaDoor
open Go Go.RowKit
theorem zeroSec : u8s (List.replicate 32 0) = #[Value.int .u8 0, Value.int .u8 0, Value.int .u8 0, Value.int .u8 0, Value.int .u8 0, Value.int .u8 0, Value.int .u8 0, Value.int .u8 0, Value.int .u8 0, Value.int .u8 0, Value.int .u8 0, Value.int .u8 0, Value.int .u8 0, Value.int .u8 0, Value.int .u8 0, Value.int .u8 0, Value.int .u8 0, Value.int .u8 0, Value.int .u8 0, Value.int .u8 0, Value.int .u8 0, Value.int .u8 0, Value.int .u8 0, Value.int .u8 0, Value.int .u8 0, Value.int .u8 0, Value.int .u8 0, Value.int .u8 0, Value.int .u8 0, Value.int .u8 0, Value.int .u8 0, Value.int .u8 0] := by rfl
theorem sec_u8 : ∀ w, (sizeOf 5).run Tryd.prog w = .ok 1 w := fun _ => by kernel_rfl
set_option maxRecDepth 100000 in
theorem eq_zero {ws : List Nat} (hl : ws.length = 32) (hb : Sha.Byte ws) (w : World) : (Op.equalIn 10000 70 (.agg (cellsB ws).toArray) (.agg #[Value.int .u8 0, Value.int .u8 0, Value.int .u8 0, Value.int .u8 0, Value.int .u8 0, Value.int .u8 0, Value.int .u8 0, Value.int .u8 0, Value.int .u8 0, Value.int .u8 0, Value.int .u8 0, Value.int .u8 0, Value.int .u8 0, Value.int .u8 0, Value.int .u8 0, Value.int .u8 0, Value.int .u8 0, Value.int .u8 0, Value.int .u8 0, Value.int .u8 0, Value.int .u8 0, Value.int .u8 0, Value.int .u8 0, Value.int .u8 0, Value.int .u8 0, Value.int .u8 0, Value.int .u8 0, Value.int .u8 0, Value.int .u8 0, Value.int .u8 0, Value.int .u8 0, Value.int .u8 0])).run Tryd.prog w = .ok (ws == List.replicate 32 0) w := by
  rw [← zeroSec, show (cellsB ws).toArray = u8s ws from rfl]
  exact run_equalIn_u8s w _ _ 32 Tryd.underlying70 Tryd.underlying5 sec_u8 ws _ hl (by simp) hb (Sha.Byte.zeros 32)
/-- a load of a row in a region that only reads -/
theorem still_load_mid {P : Program} {op : Oper} {a : Act} {w : World} {K : Act → Prop} (ty : TypeId) (x : Operand) (ho : op.op = .load ty x)
    (b o : Nat) (hx : a.eval x = .pointer (some ⟨b, o, none⟩)) (cs : List Value) (d : TypeDesc) (hc : w.rangeAt b o cs)
    (hu : P.underlying ty = some d) (hd : d.isRow = true) (hi : (P.info? ty).map (·.size) = some cs.length)
    (h : K (a.put op.dst (.agg cs.toArray))) : op.still P a w K := by
  unfold Oper.still execOp
  simp only [ho, hx, Sem.run_bind, run_loadAt_mid w b o ty cs d hc hu hd hi, Result.andThen_ok]
  exact ⟨rfl, h⟩
def Dk.put (S : Dk.D) (i : Nat) (ws : List Nat) : Dk.D := { S with safe := fun j => if j = i then ws else S.safe j }
section
variable {B : Nat} {d ms ml c1 c2 : Nat} {S : Dk.D} {v : Value} {fS : Int → Option Value}
theorem DiskAt.put {w w' : World} {i : Nat} {ws : List Nat} {u : Option Value} {c3 : Nat} (h : DiskAt B w d S ms ml v c1 c2 fS) (hl : ws.length = 32) (hb : Sha.Byte ws) (hm : MapF w' ms c3 (upd fS (i : Int) u)) (hc : c3 ≤ 1000000000) (hg : w.grownBy w' (some ms))
    (hu : u.getD (.agg (u8s (List.replicate 32 0))) = .agg (u8s ws)) : DiskAt B w' d (Dk.put S i ws) ms ml v c3 c2 (upd fS (i : Int) u) where
  blk := h.blk.grown hg (fun e => h.ne.2.1 (by injection e with e))
  safe := hm
  safeAt := fun j hj => by
    show (upd fS (i : Int) u j).getD _ = .agg (u8s (if j = i then ws else S.safe j))
    unfold upd
    by_cases e : j = i
    · subst e; rw [if_pos rfl, if_pos rfl]; exact hu
    · rw [if_neg e, if_neg (fun e' => e (by omega))]; exact h.safeAt j hj
  last := h.last.kept hg (fun e => h.ne.1 (by injection e with e; exact e.symm))
  row := h.row.kept hg (by cases hv : v.ownBlock with | none => exact Or.inl rfl | some g => exact Or.inr (fun e => h.rowNe.2.1 (by rw [hv, e])))
  ok := ⟨h.ok.size, fun j => by show (if j = i then ws else S.safe j).length = 32; split; exact hl; exact h.ok.len j, fun j => by show Sha.Byte (if j = i then ws else S.safe j); split; exact hb; exact h.ok.byte j, h.ok.plen, h.ok.few, h.ok.left, h.ok.deeds⟩
  bd := h.bd
  ne := h.ne
  c1 := hc
  c2 := h.c2
set_option maxRecDepth 100000 in
theorem keep_any (i : Nat) (ws : List Nat) (w : World) (h : DiskAt B w d S ms ml v c1 c2 fS) (hi : i < S.size) (hl : ws.length = 32) (hb : Sha.Byte ws) (hc : c1 < 1000000000) :
    Calls Tryd.prog 49 #[.pointer (some ⟨d, 0, none⟩), .agg (wcells i ws).toArray] w fun e w' => e = .returned (.tuple #[]) ∧ ∃ fS', DiskAt B w' d (Dk.put S i ws) ms ml v (c1 + 1) c2 fS' ∧ w.grownBy w' (some ms) := by
  have h0 : DiskAt B (w.alloc (.cells (wcells i ws).toArray 72)) d S ms ml v c1 c2 fS := h.below ((Below.refl _ _).alloc (Nat.le_refl _) _)
  have p1 : w.cell? ⟨d, 1, none⟩ = some (.map (some ms)) := h.blk.cell 1
  have p1a : (w.alloc (.cells (wcells i ws).toArray 72)).cell? ⟨d, 1, none⟩ = some (.map (some ms)) := (h.blk.alloc _).cell 1
  have HG : Hid ((w.alloc (.cells (wcells i ws).toArray 72)).rangeAt w.heap.size 1 (cellsB ws)) := Lib.hid (fun j u hj => by rw [Nat.add_comm]; have := row_of_blk (Blk.new w 72 (wcells i ws).toArray) (j + 1) u (by simpa [wcells] using hj); rwa [Nat.zero_add] at this)
  have pa : (w.alloc (.cells (wcells i ws).toArray 72)).cell? ⟨w.heap.size, 0, none⟩ = some (.int .i64 (i : Int)) := (Blk.new w 72 (wcells i ws).toArray).cell 0
  have HL := Lib.hid hl
  have q0 := eq_zero hl hb
  have HB := Lib.hid hb
  have HH := Lib.hid h0
  have hw : (Lit.int .i64 (i : Int)).wf = true := int_wf (by omega) (by have := h.ok.size; omega)
  have hW : ∀ ww, (w.alloc (.cells (wcells i ws).toArray 72)).grownBy ww (some ms) → w.grownBy ww (some ms) := fun ww hg => only_trans (only_alloc (World.grownBy.refl w _) _) hg
  have HW := Lib.hid hW
  clear h h0 hl hb hW
  rcases hz : (ws == List.replicate 32 0) with _ | _
  · rw [hz] at q0
    go_enter Tryd.func49, Tryd.ntmps49
    go_wp2_with (refine wpList_load_mid rfl 70 (.tmp 4) rfl w.heap.size 1 rfl (cellsB ws) _ HG.out Tryd.underlying70 rfl (by rw [cellsB_len, HL.out]; exact sector_size) ?_)
    refine wp_region_still_tail 8 (by kernel_rfl) (by kernel_rfl) ?_
    change wpStill _ _ (w.alloc (.cells (wcells i ws).toArray 72)).drew _ _ _
    dsimp only [List.take, List.drop]
    iterate 7 still_step
    refine wpStill_step (fun K hK => ?_)
    rw [if_pos (by rfl)]
    refine still_load_mid 70 (.tmp 20) rfl w.heap.size 1 rfl (cellsB ws) _ HG.out Tryd.underlying70 rfl (by rw [cellsB_len, HL.out]; exact sector_size) ?_
    refine hK _ ?_
    clear hK K
    refine wpStill_nil ?_
    try simp only [Act.put, List.setIfInBounds_toArray, List.set_cons_zero, List.set_cons_succ]
    change wpList _ _ _ _ _ (w.alloc (.cells (wcells i ws).toArray 72)).drew
    obtain ⟨w4, hrun, hm4, hg4⟩ := (HH.out.safe.block (w' := (w.alloc (.cells (wcells i ws).toArray 72)).drew) rfl).store Tryd.underlying54 (by unfold maxLen; omega) (i := (i : Int)) hw (.agg (cellsB ws).toArray)
    replace hg4 := only_trans (only_drew (World.grownBy.refl (w.alloc (.cells (wcells i ws).toArray 72)) (some ms))) hg4
    have HR := Lib.hid (HH.out.put HL.out HB.out hm4 hc hg4 rfl)
    have HG4 := Lib.hid (HW.out _ hg4)
    clear hm4 hg4
    go_wp2
    go_end0
    exact ⟨rfl, _, HR.out, HG4.out⟩
  · have hz' : ws = List.replicate 32 0 := by simpa using hz
    rw [hz] at q0
    obtain ⟨w4, hrun, hm4, hg4⟩ := (HH.out.safe.block (w' := (w.alloc (.cells (wcells i ws).toArray 72)).drew) rfl).drop Tryd.underlying54 (i := (i : Int)) hw 0
    replace hg4 := only_trans (only_drew (World.grownBy.refl (w.alloc (.cells (wcells i ws).toArray 72)) (some ms))) hg4
    have HR := Lib.hid ((HH.out.put HL.out HB.out (hm4.mono (Nat.le_succ c1)) hc hg4 (by rw [hz']; rfl)))
    have HG4 := Lib.hid (HW.out _ hg4)
    clear hm4 hg4 hz'
    go_enter Tryd.func49, Tryd.ntmps49
    go_wp2_with (refine wpList_load_mid rfl 70 (.tmp 4) rfl w.heap.size 1 rfl (cellsB ws) _ HG.out Tryd.underlying70 rfl (by rw [cellsB_len, HL.out]; exact sector_size) ?_)
    refine wp_region_still_tail 6 (by kernel_rfl) (by kernel_rfl) ?_
    change wpStill _ _ (w.alloc (.cells (wcells i ws).toArray 72)).drew _ _ _
    dsimp only [List.take, List.drop]
    repeat still_step
    refine wpStill_nil ?_
    change wpList _ _ _ _ _ (w.alloc (.cells (wcells i ws).toArray 72)).drew
    go_wp2
    refine bodyPost_ret (results_none rfl _ _ _) rfl ?_
    exact ⟨rfl, _, HR.out, HG4.out⟩
end
end Go.Proofs.YtbllilokcalbcaaDoor
