/- The document's own disk is written (Write). -/
import Derived.Test.YtpmadlkkldbceaaDoorRef41
import Derived.Laws.CopyOwn
namespace Go.Proofs.YtpmadlkkldbceaaDoor
open Go Go.RowKit
def RS (B : Nat) (w : World) (vS : Value) (us : List Value) (S : Dk.D) : Prop := w.ownsRow B 32 1 vS S.size us ∧ ∀ i, i < S.size → ∃ u, us[i]? = some u ∧ Sec B w u (S.safe i)
def RB (B BB : Nat) (w : World) (vB : Value) (ub : List Value) (ps : List (Nat × List Nat)) : Prop := w.ownsRow BB 32 1 vB ps.length ub ∧ ∀ (k : Nat) (p : Nat × List Nat), ps[k]? = some p → ∃ u, ub[k]? = some u ∧ Sec B w u p.2
section
variable {B BB : Nat} {w w' : World} {r : Nat} {S : Dk.D} {vS vA vB : Value} {us ub : List Value} {ps : List (Nat × List Nat)} {row : Option Nat}
theorem ty_ne {g t e n s : Nat} {cs : Array Value} {v : Value} {xs : List Value} (h1 : w.heap[g]? = some (.cells cs t (0, 0))) (h2 : w.ownsRow B e s v n xs) (ht : t ≠ e) : v.ownBlock ≠ some g := fun e' => by
  obtain ⟨cs', hc⟩ := own_row h2 e'
  exact own_ne h1 hc ht rfl
theorem ownR_kept {e n : Nat} {v : Value} {xs : List Value} (h : w.ownsRow B e 1 v n xs) (hg : w.grownBy w' row) (hne : ∀ g, row = some g → v.ownBlock ≠ some g) : w'.ownsRow B e 1 v n xs :=
  h.kept hg (by
    cases hv : v.ownBlock with
    | none => exact Or.inl rfl
    | some g =>
      refine Or.inr (fun e' => hne g e'.symm hv))
theorem Sec.kept {u : Value} {bs : List Nat} (h : Sec B w u bs) (hg : w.grownBy w' row) (hne : ∀ g cs, row = some g → ¬ Blk w g 5 cs) : Sec B w' u bs :=
  h.stands fun g _ hk => hg.block g hk.lt (fun e => hne g _ e.symm hk)
theorem RS.kept (h : RS B w vS us S) (hg : w.grownBy w' row) (h1 : ∀ g, row = some g → vS.ownBlock ≠ some g) (h2 : ∀ g cs, row = some g → ¬ Blk w g 5 cs) : RS B w' vS us S :=
  ⟨ownR_kept h.1 hg h1, fun i hi => by obtain ⟨u, k1, k2⟩ := h.2 i hi; exact ⟨u, k1, k2.kept hg h2⟩⟩
theorem RB.kept (h : RB B BB w vB ub ps) (hg : w.grownBy w' row) (h1 : ∀ g, row = some g → vB.ownBlock ≠ some g) (h2 : ∀ g cs, row = some g → ¬ Blk w g 5 cs) : RB B BB w' vB ub ps :=
  ⟨ownR_kept h.1 hg h1, fun k p hp => by obtain ⟨u, k1, k2⟩ := h.2 k p hp; exact ⟨u, k1, k2.kept hg h2⟩⟩
theorem no_u8 {g t : Nat} {cs' : Array Value} (h1 : w.heap[g]? = some (.cells cs' t (0, 0))) (ht : t ≠ 5) : ∀ cs, ¬ Blk w g 5 cs := fun cs hk => own_ne h1 hk ht rfl
theorem RefAt.rs (h : RefAt B BB w r S vS vA vB us ub) : RS B w vS us S := ⟨h.rowS, h.secS⟩
theorem RefAt.rb (h : RefAt B BB w r S vS vA vB us ub) : RB B BB w vB ub S.pend := ⟨h.rowB, h.secB⟩
theorem RS.bel (h : RS B w vS us S) (hb : Below w.heap.size w w') : RS B w' vS us S := h.kept (only_of_below hb none) (fun _ e => by cases e) (fun _ _ e => by cases e)
theorem RB.bel (h : RB B BB w vB ub ps) (hb : Below w.heap.size w w') : RB B BB w' vB ub ps := h.kept (only_of_below hb none) (fun _ e => by cases e) (fun _ _ e => by cases e)
end
theorem int_info : (Tryd.prog.info? 3).map (fun i => (i.zero, i.size, i.bytes)) = some (some (.int .i64 0), 1, 8) := by kernel_rfl
theorem bsl_info : (Tryd.prog.info? 32).map (fun i => (i.zero, i.size, i.bytes)) = some (some (.slice none 0 0), 1, 24) := by kernel_rfl
theorem cell_one {w : World} {g t : Nat} {u : Value} (h : Blk w g t #[u]) : ∀ j v, ([u] : List Value)[j]? = some v → w.cell? ((⟨g, 0, none⟩ : Addr).add j) = some v := fun j v hj => by
  rcases j with _ | j
  · rw [Addr.add_mid, Nat.zero_add]
    exact (h.cell 0).trans hj
  · simp at hj
section
variable {B BB : Nat} {r : Nat} {S : Dk.D} {vS vA vB : Value} {us ub : List Value}
theorem refhas_any (i : Int) (b : Bool) (w : World) (h : RefAt B BB w r S vS vA vB us ub) (hb : b = decide (0 ≤ i ∧ i < (S.size : Int))) :
    Calls Tryd.prog 30 #[.pointer (some ⟨r, 0, none⟩), .int .i64 i] w fun e w' => e = .returned (.bool b) ∧ w = w' := by
  have p0 : w.cell? ⟨r, 0, none⟩ = some vS := h.blk.cell 0
  obtain ⟨A, c, rfl⟩ := row_slice h.rowS
  clear h
  by_cases h0 : 0 ≤ i
  · by_cases h1 : i < S.size
    · obtain rfl : b = true := by rw [hb]; exact decide_eq_true ⟨h0, h1⟩
      clear hb
      go_enter Tryd.func30, Tryd.ntmps30
      go_wp2
      go_ret
      exact ⟨rfl, rfl⟩
    · obtain rfl : b = false := by rw [hb]; exact decide_eq_false (fun k => h1 k.2)
      clear hb
      go_enter Tryd.func30, Tryd.ntmps30
      go_wp2
      go_ret
      exact ⟨rfl, rfl⟩
  · obtain rfl : b = false := by rw [hb]; exact decide_eq_false (fun k => h0 k.1)
    clear hb
    go_enter Tryd.func30, Tryd.ntmps30
    go_wp2
    go_ret
    exact ⟨rfl, rfl⟩
theorem refwrite_off (i : Int) (b : Value) (w : World) (h : RefAt B BB w r S vS vA vB us ub) (ho : S.off = true) :
    Calls Tryd.prog 12 #[.pointer (some ⟨r, 0, none⟩), .int .i64 i, b] w fun e w' => e = .returned (.int .i64 16) ∧ w = w' := by
  have p4 : w.cell? ⟨r, 4, none⟩ = some (.bool true) := by have := h.blk.cell 4; rw [ho] at this; exact this
  clear h ho
  go_enter Tryd.func12, Tryd.ntmps12
  go_wp2
  go_ret
  exact ⟨rfl, rfl⟩
theorem refwrite_no (i : Int) (b : Value) (w : World) (h : RefAt B BB w r S vS vA vB us ub) (ho : S.off = false) (hi : ¬ (0 ≤ i ∧ i < S.size)) :
    Calls Tryd.prog 12 #[.pointer (some ⟨r, 0, none⟩), .int .i64 i, b] w fun e w' => e = .returned (.int .i64 1) ∧ w = w' := by
  have p4 : w.cell? ⟨r, 4, none⟩ = some (.bool false) := by have := h.blk.cell 4; rw [ho] at this; exact this
  have CH := refhas_any i false w h (decide_eq_false hi).symm
  clear h ho
  go_enter Tryd.func12, Tryd.ntmps12
  go_wp2_with (go_at_call 30; refine CH.mono ?_; rintro e w' ⟨rfl, rfl⟩)
  go_ret
  exact ⟨rfl, rfl⟩
theorem refhas_yes (i : Nat) (w : World) (h : RefAt B BB w r S vS vA vB us ub) (hi : i < S.size) : Calls Tryd.prog 30 #[.pointer (some ⟨r, 0, none⟩), .int .i64 (i : Int)] w fun e w' => e = .returned (.bool true) ∧ w = w' :=
  refhas_any (i : Int) true w h (decide_eq_true (⟨by omega, by omega⟩ : (0 : Int) ≤ (i : Int) ∧ (i : Int) < S.size)).symm
theorem refwrite_long (i : Nat) (A : Option Addr) (n c : Nat) (w : World) (h : RefAt B BB w r S vS vA vB us ub) (ho : S.off = false) (hi : i < S.size) (hn : 32 < n) :
    Calls Tryd.prog 12 #[.pointer (some ⟨r, 0, none⟩), .int .i64 (i : Int), .slice A n c] w fun e w' => e = .returned (.int .i64 3) ∧ w = w' := by
  have p4 : w.cell? ⟨r, 4, none⟩ = some (.bool false) := by have := h.blk.cell 4; rw [ho] at this; exact this
  have CH := refhas_yes i w h hi
  have i0 : (32 : Int) < (n : Int) := by omega
  clear h ho
  go_enter Tryd.func12, Tryd.ntmps12
  go_wp2_with (go_at_call 30; refine CH.mono ?_; rintro e w' ⟨rfl, rfl⟩)
  go_ret
  exact ⟨rfl, rfl⟩
theorem refwrite_dead (i : Nat) (A : Option Addr) (n c : Nat) (w : World) (h : RefAt B BB w r S vS vA vB us ub) (ho : S.off = false) (hi : i < S.size) (hn : n ≤ 32) (hd : Dk.dead S = true) :
    Calls Tryd.prog 12 #[.pointer (some ⟨r, 0, none⟩), .int .i64 (i : Int), .slice A n c] w fun e w' => e = .returned (.int .i64 16) ∧ RefAt B BB w' r { S with off := true } vS vA vB us ub ∧ w.grownBy w' (some r) := by
  have p4 : w.cell? ⟨r, 4, none⟩ = some (.bool false) := by have := h.blk.cell 4; rw [ho] at this; exact this
  have CH := refhas_yes i w h hi
  have CD := refdeed_dead w h hd
  have i0 : ¬ (32 : Int) < (n : Int) := by omega
  clear h ho
  go_enter Tryd.func12, Tryd.ntmps12
  go_wp2_with (first
    | (go_at_call 30; refine CH.mono ?_; rintro e w' ⟨rfl, rfl⟩)
    | (go_at_call 31; refine CD.mono ?_; rintro e w' ⟨rfl, h1, h2⟩; have H1 := Lib.hid h1; have H2 := Lib.hid h2; clear h1 h2))
  go_ret
  exact ⟨rfl, H1.out, H2.out⟩
end
end Go.Proofs.YtpmadlkkldbceaaDoor
