/- The document's own disk (layer 4's reference) in memory: its box, its rows, its sectors; what a deed makes of it. -/
import Derived.Test.YtpmadlkkldbceaaDoorDisk15
namespace Go.Proofs.YtpmadlkkldbceaaDoor
open Go Go.RowKit
/-- a sector of the document's disk -/
def Sec (B : Nat) (w : World) (u : Value) (bs : List Nat) : Prop := ∃ g, u = .slice (some ⟨g, 0, none⟩) 32 32 ∧ B ≤ g ∧ Blk w g 5 (u8s bs) ∧ bs.length = 32
theorem Sec.stands {B : Nat} {w w' : World} {u : Value} {bs : List Nat} (h : Sec B w u bs) (k : ∀ g, B ≤ g → Blk w g 5 (u8s bs) → w'.heap[g]? = w.heap[g]?) : Sec B w' u bs := by
  obtain ⟨g, h1, h2, h3, h4⟩ := h
  exact ⟨g, h1, h2, h3.stands (k g h2 h3), h4⟩
theorem Sec.one {B : Nat} {w : World} {u : Value} {bs : List Nat} (h : Sec B w u bs) : u.oneCell' = true := by
  obtain ⟨g, rfl, _⟩ := h; rfl
theorem Sec.rd {B : Nat} {w : World} {u : Value} {bs : List Nat} (h : Sec B w u bs) : Rd w u bs := by
  obtain ⟨g, rfl, _, h3, h4⟩ := h; exact rd_of_sec h3 h4
namespace Dk
def lf (S : D) : Int := if S.armed then (S.left : Int) else -1
end Dk
def atCells (ps : List (Nat × List Nat)) : List Value := ps.map fun p => .int .i64 (p.1 : Int)
structure RefAt (B BB : Nat) (w : World) (r : Nat) (S : Dk.D) (vS vA vB : Value) (us ub : List Value) : Prop where
  blk : Blk w r 61 #[vS, vA, vB, .int .i64 (Dk.lf S), .bool S.off, .int .i64 (S.deeds : Int)]
  rowS : w.ownsRow B 32 1 vS S.size us
  secS : ∀ i, i < S.size → ∃ u, us[i]? = some u ∧ Sec B w u (S.safe i)
  rowA : w.ownsRow B 3 1 vA S.pend.length (atCells S.pend)
  rowB : w.ownsRow BB 32 1 vB S.pend.length ub
  secB : ∀ (k : Nat) (p : Nat × List Nat), S.pend[k]? = some p → ∃ u, ub[k]? = some u ∧ Sec B w u p.2
  ne : ∀ g, vS.ownBlock = some g → g < BB
  bb : B ≤ BB ∧ BB ≤ w.heap.size
  bd : B ≤ r
  ok : Dk.Ok S
/-- which blocks the document's disk writes -/
def RX (r : Nat) (vS vA vB : Value) (b : Nat) : Prop := b = r ∨ vS.ownBlock = some b ∨ vA.ownBlock = some b ∨ vB.ownBlock = some b
structure RFr (w w' : World) (X : Nat → Prop) : Prop where
  os : w'.os = w.os
  tape : w'.tape = w.tape
  output : w'.output = w.output
  size : w.heap.size ≤ w'.heap.size
  block : ∀ b, b < w.heap.size → ¬ X b → w'.heap[b]? = w.heap[b]?
theorem RFr.refl {w : World} {X : Nat → Prop} : RFr w w X := ⟨rfl, rfl, rfl, Nat.le_refl _, fun _ _ _ => rfl⟩
theorem RFr.of {w w' : World} {X : Nat → Prop} {row : Option Nat} (hg : w.grownBy w' row) (h : ∀ g, row = some g → X g) : RFr w w' X :=
  ⟨hg.os, hg.tape, hg.output, hg.size, fun b hb hx => hg.block b hb (fun e => hx (h b e.symm))⟩
theorem RFr.trans {w w' w'' : World} {X Y : Nat → Prop} (h : RFr w w' X) (k : RFr w' w'' Y) (hY : ∀ b, b < w.heap.size → Y b → X b) : RFr w w'' X :=
  ⟨k.os.trans h.os, k.tape.trans h.tape, k.output.trans h.output, Nat.le_trans h.size k.size, fun b hb hx => (k.block b (Nat.lt_of_lt_of_le hb h.size) (fun hy => hx (hY b hb hy))).trans (h.block b hb hx)⟩
section
variable {B BB : Nat} {w w' : World} {r : Nat} {S S' : Dk.D} {vS vA vB : Value} {us ub : List Value}
theorem own_ne {b g t t' : Nat} {cs cs' : Array Value} (h1 : w.heap[b]? = some (.cells cs t (0, 0))) (h2 : w.heap[g]? = some (.cells cs' t' (0, 0))) (ht : t ≠ t') : b ≠ g := fun e => by
  subst e
  have := h1.symm.trans h2
  injection this with this
  injection this with _ e _
  exact ht e
theorem own_row {e s n : Nat} {v : Value} {xs : List Value} (h : w.ownsRow B e s v n xs) {g : Nat} (hg : v.ownBlock = some g) : ∃ cs, w.heap[g]? = some (.cells cs e (0, 0)) := by
  rcases h.2 with ⟨rfl, _⟩ | ⟨g', cap, cur, rfl, _, hh, _⟩
  · simp [Value.ownBlock] at hg
  · simp [Value.ownBlock] at hg
    subst hg
    exact ⟨_, hh⟩
/-- the box alone turns -/
theorem RefAt.box (h : RefAt B BB w r S vS vA vB us ub) (e1 : S'.size = S.size) (e2 : S'.safe = S.safe) (e3 : S'.pend = S.pend) (hl : S'.left ≤ 9223372036854775807) (hd : S'.deeds ≤ 1000000)
    (hb : Blk w' r 61 #[vS, vA, vB, .int .i64 (Dk.lf S'), .bool S'.off, .int .i64 (S'.deeds : Int)]) (hg : w.grownBy w' (some r)) : RefAt B BB w' r S' vS vA vB us ub := by
  have hne : ∀ (B' : Nat) (v : Value) (e n : Nat) (xs : List Value), w.ownsRow B' e 1 v n xs → e ≠ 61 → v.ownBlock = none ∨ v.ownBlock ≠ some r := fun B' v e n xs ho he => by
    cases hv : v.ownBlock with
    | none => exact Or.inl rfl
    | some g =>
      obtain ⟨cs, hc⟩ := own_row ho hv
      exact Or.inr (fun e' => own_ne hc h.blk he (by injection e'))
  have hsec : ∀ u bs, Sec B w u bs → Sec B w' u bs := fun u bs hs => hs.stands fun g _ hk => hg.block g hk.lt (fun e => own_ne hk h.blk (by decide) (by injection e))
  exact ⟨hb, by rw [e1]; exact h.rowS.kept hg (hne _ _ _ _ _ h.rowS (by decide)), fun i hi => by
    obtain ⟨u, h1, h2⟩ := h.secS i (e1 ▸ hi)
    exact ⟨u, h1, by rw [e2]; exact hsec _ _ h2⟩, by rw [e3]; exact h.rowA.kept hg (hne _ _ _ _ _ h.rowA (by decide)), by rw [e3]; exact h.rowB.kept hg (hne _ _ _ _ _ h.rowB (by decide)), fun k p hp => by
    obtain ⟨u, h1, h2⟩ := h.secB k p (e3 ▸ hp)
    exact ⟨u, h1, hsec _ _ h2⟩, h.ne, ⟨h.bb.1, Nat.le_trans h.bb.2 hg.size⟩, h.bd, ⟨by rw [e1]; exact h.ok.size, by rw [e2]; exact h.ok.len, by rw [e2]; exact h.ok.byte, by rw [e3, e1]; exact h.ok.plen, by rw [e3]; exact h.ok.few, hl, hd⟩⟩
/-- it stands where its blocks do -/
theorem RefAt.stands (h : RefAt B BB w r S vS vA vB us ub) (hz : w.heap.size ≤ w'.heap.size) (k : ∀ b, (b = r ∨ vS.ownBlock = some b ∨ vA.ownBlock = some b ∨ vB.ownBlock = some b ∨ ∃ cs, Blk w b 5 cs ∧ B ≤ b) → w'.heap[b]? = w.heap[b]?) : RefAt B BB w' r S vS vA vB us ub := by
  have hsec : ∀ u bs, Sec B w u bs → Sec B w' u bs := fun u bs hs => hs.stands fun g hB hk => k g (Or.inr (Or.inr (Or.inr (Or.inr ⟨_, hk, hB⟩))))
  exact ⟨h.blk.stands (k r (Or.inl rfl)), ownsRow_stands h.rowS fun b hb => k b (Or.inr (Or.inl hb)), fun i hi => by
    obtain ⟨u, h1, h2⟩ := h.secS i hi
    exact ⟨u, h1, hsec _ _ h2⟩, ownsRow_stands h.rowA fun b hb => k b (Or.inr (Or.inr (Or.inl hb))), ownsRow_stands h.rowB fun b hb => k b (Or.inr (Or.inr (Or.inr (Or.inl hb)))), fun j p hp => by
    obtain ⟨u, h1, h2⟩ := h.secB j p hp
    exact ⟨u, h1, hsec _ _ h2⟩, h.ne, ⟨h.bb.1, Nat.le_trans h.bb.2 hz⟩, h.bd, h.ok⟩
theorem RefAt.below (h : RefAt B BB w r S vS vA vB us ub) (hb : Below w.heap.size w w') : RefAt B BB w' r S vS vA vB us ub := h.stands hb.size fun b hi => hb.block b (by
  rcases hi with rfl | hi | hi | hi | ⟨cs, hi, _⟩
  · exact h.blk.lt
  · exact (h.rowS.lt b hi).2
  · exact (h.rowA.lt b hi).2
  · exact (h.rowB.lt b hi).2
  · exact hi.lt)
theorem refdeed_dead (w : World) (h : RefAt B BB w r S vS vA vB us ub) (hd : Dk.dead S = true) :
    Calls Tryd.prog 31 #[.pointer (some ⟨r, 0, none⟩)] w fun e w' => e = .returned (.bool false) ∧ RefAt B BB w' r { S with off := true } vS vA vB us ub ∧ w.grownBy w' (some r) := by
  unfold Dk.dead at hd
  obtain ⟨ha, hl⟩ := Bool.and_eq_true_iff.1 hd
  have hl0 : S.left = 0 := by simpa using hl
  have p3 : w.cell? ⟨r, 3, none⟩ = some (.int .i64 0) := by have := h.blk.cell 3; simp only [Dk.lf, ha, hl0] at this; exact this
  have p4 : w.cell? ⟨r, 4, none⟩ = some (.bool S.off) := h.blk.cell 4
  have z4 := h.blk.frozen 4
  have HG : Hid (w.grownBy (w.setCell ⟨r, 4, none⟩ (.bool true)) (some r)) := Lib.hid (set_own 4 _)
  have H : Hid (RefAt B BB (w.setCell ⟨r, 4, none⟩ (.bool true)) r { S with off := true } vS vA vB us ub) := Lib.hid (h.box rfl rfl rfl h.ok.left h.ok.deeds (h.blk.set_ 4 (.bool true)) HG.out)
  clear h
  go_enter Tryd.func31, Tryd.ntmps31
  go_wp2
  go_ret
  exact ⟨rfl, H.out, HG.out⟩
theorem refdeed_did (w : World) (h : RefAt B BB w r S vS vA vB us ub) (hd : Dk.dead S = false) (hk : S.deeds + 1 ≤ 1000000) :
    Calls Tryd.prog 31 #[.pointer (some ⟨r, 0, none⟩)] w fun e w' => e = .returned (.bool true) ∧ RefAt B BB w' r (Dk.did S) vS vA vB us ub ∧ w.grownBy w' (some r) := by
  have p5 : w.cell? ⟨r, 5, none⟩ = some (.int .i64 (S.deeds : Int)) := h.blk.cell 5
  have z3 := h.blk.frozen 3
  have z5 := h.blk.frozen 5
  have W1 : IntKind.i64.wrap ((S.deeds : Int) + 1) = (S.deeds : Int) + 1 := IntWalk.i64_in _ (by omega)
  cases ha : S.armed with
  | false =>
    have e : Dk.did S = { S with deeds := S.deeds + 1 } := by unfold Dk.did; rw [ha]; rfl
    rw [e]
    have p3 : w.cell? ⟨r, 3, none⟩ = some (.int .i64 (-1)) := by have := h.blk.cell 3; simp only [Dk.lf, ha] at this; exact this
    have HG : Hid (w.grownBy (w.setCell ⟨r, 5, none⟩ (.int .i64 ((S.deeds : Int) + 1))) (some r)) := Lib.hid (set_own 5 _)
    have H : Hid (RefAt B BB (w.setCell ⟨r, 5, none⟩ (.int .i64 ((S.deeds : Int) + 1))) r { S with deeds := S.deeds + 1 } vS vA vB us ub) := Lib.hid (h.box rfl rfl rfl h.ok.left hk (h.blk.set_ 5 _) HG.out)
    clear h hd e
    go_enter Tryd.func31, Tryd.ntmps31
    go_wp2
    go_ret
    exact ⟨rfl, H.out, HG.out⟩
  | true =>
    have hl : 0 < S.left := by
      unfold Dk.dead at hd
      rw [ha, Bool.true_and] at hd
      have := beq_eq_false_iff_ne.1 hd
      omega
    have hle := h.ok.left
    have e : Dk.did S = { S with left := S.left - 1, deeds := S.deeds + 1 } := by unfold Dk.did; rw [ha]; rfl
    rw [e]
    have p3 : w.cell? ⟨r, 3, none⟩ = some (.int .i64 (S.left : Int)) := by have := h.blk.cell 3; simp only [Dk.lf, ha] at this; exact this
    have b0 : ((S.left : Int) == 0) = false := by simp; omega
    have i0 : (0 : Int) < (S.left : Int) := by omega
    have W0 : IntKind.i64.wrap ((S.left : Int) - 1) = (S.left : Int) - 1 := IntWalk.i64_in _ (by omega)
    have HG : Hid (w.grownBy ((w.setCell ⟨r, 3, none⟩ (.int .i64 ((S.left : Int) - 1))).setCell ⟨r, 5, none⟩ (.int .i64 ((S.deeds : Int) + 1))) (some r)) := Lib.hid (only_trans (set_own 3 _) (set_own 5 _))
    have H : Hid (RefAt B BB ((w.setCell ⟨r, 3, none⟩ (.int .i64 ((S.left : Int) - 1))).setCell ⟨r, 5, none⟩ (.int .i64 ((S.deeds : Int) + 1))) r { S with left := S.left - 1, deeds := S.deeds + 1 } vS vA vB us ub) := Lib.hid (h.box rfl rfl rfl (by show S.left - 1 ≤ _; omega) hk (by
      have hb := (h.blk.set_ 3 (.int .i64 ((S.left : Int) - 1))).set_ 5 (.int .i64 ((S.deeds : Int) + 1))
      simp only [List.setIfInBounds_toArray, List.set_cons_zero, List.set_cons_succ] at hb
      have el : ((S.left - 1 : Nat) : Int) = (S.left : Int) - 1 := by omega
      simp only [Dk.lf, ha, if_true, el]
      exact hb) HG.out)
    clear h hd e hl hle
    go_enter Tryd.func31, Tryd.ntmps31
    go_wp2
    go_ret
    exact ⟨rfl, H.out, HG.out⟩
end
end Go.Proofs.YtpmadlkkldbceaaDoor
