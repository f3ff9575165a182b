/- A disk in memory: its block, its two maps, its row of pending writes. -/
import Derived.Test.YtbllilokcalbcaaDoorMMapF
import Derived.Test.YtbllilokcalbcaaDoorMByt
import Derived.Test.YtbllilokcalbcaaDoorMErr
import Derived.WalkLawsBesides
import Derived.WalkSpells
import Derived.Laws.OwnMore
namespace Go.Proofs.YtbllilokcalbcaaDoor
open Go Go.RowKit
namespace Dk
/-- the place of the last write of a sector -/
def lastAt (i : Int) : Nat → List (Nat × List Nat) → Option Nat
  | _, [] => none
  | k, p :: ps => match lastAt i (k + 1) ps with
    | some j => some j
    | none => if (p.1 : Int) = i then some k else none
def last (ps : List (Nat × List Nat)) (i : Int) : Option Nat := lastAt i 0 ps
theorem lastAt_snoc (i : Int) : ∀ (ps : List (Nat × List Nat)) (k : Nat) (q : Nat × List Nat), lastAt i k (ps ++ [q]) = if (q.1 : Int) = i then some (k + ps.length) else lastAt i k ps
  | [], k, q => by simp [lastAt]
  | p :: ps, k, q => by
    rw [List.cons_append, lastAt, lastAt_snoc i ps (k + 1) q]
    by_cases h : (q.1 : Int) = i
    · simp only [if_pos h]
      simp; omega
    · simp only [if_neg h]
      rw [lastAt]
theorem last_snoc (ps : List (Nat × List Nat)) (q : Nat × List Nat) (i : Int) : last (ps ++ [q]) i = if (q.1 : Int) = i then some ps.length else last ps i := by
  unfold last
  rw [lastAt_snoc, Nat.zero_add]
theorem lastAt_some {i : Int} : ∀ {ps : List (Nat × List Nat)} {k j : Nat}, lastAt i k ps = some j → k ≤ j ∧ ∃ p, ps[j - k]? = some p ∧ (p.1 : Int) = i
  | [], k, j, h => by cases h
  | p :: ps, k, j, h => by
    rw [lastAt] at h
    cases hr : lastAt i (k + 1) ps with
    | some j' =>
      rw [hr] at h
      injection h with h
      subst h
      obtain ⟨h1, q, h2, h3⟩ := lastAt_some hr
      refine ⟨by omega, q, ?_, h3⟩
      rw [show j' - k = (j' - (k + 1)) + 1 by omega]
      simpa using h2
    | none =>
      rw [hr] at h
      by_cases hp : (p.1 : Int) = i
      · simp only [if_pos hp] at h
        injection h with h
        subst h
        exact ⟨Nat.le_refl _, p, by simp, hp⟩
      · simp only [if_neg hp] at h
        cases h
theorem last_some {i : Int} {ps : List (Nat × List Nat)} {j : Nat} (h : last ps i = some j) : ∃ p, ps[j]? = some p ∧ (p.1 : Int) = i := by
  obtain ⟨_, p, h1, h2⟩ := lastAt_some h
  exact ⟨p, by simpa using h1, h2⟩
/-- what a disk is: its sectors as they are safe (32 bytes each), what is pending, in order, its switches and numbers -/
structure D where
  size : Nat
  safe : Nat → List Nat
  pend : List (Nat × List Nat)
  off : Bool
  armed : Bool
  left : Nat
  deeds : Nat
structure Ok (S : D) : Prop where
  size : S.size ≤ 4096
  len : ∀ i, (S.safe i).length = 32
  byte : ∀ i, Sha.Byte (S.safe i)
  plen : ∀ p ∈ S.pend, p.1 < S.size ∧ p.2.length = 32 ∧ Sha.Byte p.2
  few : S.pend.length ≤ 1000000
  left : S.left ≤ 9223372036854775807
  deeds : S.deeds ≤ 1000000
end Dk
def cellsW (ps : List (Nat × List Nat)) : List Value := ps.flatMap fun p => .int .i64 (p.1 : Int) :: cellsB p.2
/-- A disk at block d; its memory lies from block B on. -/
structure DiskAt (B : Nat) (w : World) (d : Nat) (S : Dk.D) (ms ml : Nat) (v : Value) (c1 c2 : Nat) (fS : Int → Option Value) : Prop where
  blk : Blk w d 58 #[.int .i64 (S.size : Int), .map (some ms), v, .map (some ml), .bool S.off, .bool S.armed, .int .i64 (S.left : Int), .int .i64 (S.deeds : Int)]
  safe : MapF w ms c1 fS
  safeAt : ∀ i : Nat, i < S.size → (fS i).getD (.agg (u8s (List.replicate 32 0))) = .agg (u8s (S.safe i))
  last : MapF w ml c2 (fun i => (Dk.last S.pend i).map fun (k : Nat) => Value.int .i64 (k : Int))
  row : w.ownsRow B 72 33 v S.pend.length (cellsW S.pend)
  ok : Dk.Ok S
  bd : B ≤ d ∧ B ≤ ms ∧ B ≤ ml
  ne : ms ≠ ml ∧ d ≠ ms ∧ d ≠ ml
  c1 : c1 ≤ 1000000000
  c2 : c2 ≤ 1000000000
section
variable {B : Nat} {w w' : World} {d ms ml c1 c2 : Nat} {S : Dk.D} {v : Value} {fS : Int → Option Value}
theorem DiskAt.rowNe (h : DiskAt B w d S ms ml v c1 c2 fS) : some d ≠ v.ownBlock ∧ some ms ≠ v.ownBlock ∧ some ml ≠ v.ownBlock := by
  have hr := h.row
  have hm1 := h.safe
  have hm2 := h.last
  have hb := h.blk
  rcases hr.2 with ⟨rfl, _⟩ | ⟨g, cap, cur, rfl, _, hh, _⟩
  · exact ⟨by simp [Value.ownBlock], by simp [Value.ownBlock], by simp [Value.ownBlock]⟩
  · refine ⟨fun e => ?_, fun e => ?_, fun e => ?_⟩
    · injection e with e
      subst e
      have := hb.symm.trans hh
      injection this with this
      injection this with _ e _
      revert e; decide
    · injection e with e
      subst e
      obtain ⟨D, ⟨es, clock, h1, _⟩, _⟩ := hm1
      rw [h1] at hh
      cases hh
    · injection e with e
      subst e
      obtain ⟨D, ⟨es, clock, h1, _⟩, _⟩ := hm2
      rw [h1] at hh
      cases hh
/-- the disk stands as it stood where all from B on does -/
theorem DiskAt.kept (h : DiskAt B w d S ms ml v c1 c2 fS) {row : Option Nat} (hg : w.grownBy w' row) (h1 : some d ≠ row) (h2 : some ms ≠ row) (h3 : some ml ≠ row) (h4 : v.ownBlock = none ∨ v.ownBlock ≠ row) : DiskAt B w' d S ms ml v c1 c2 fS :=
  ⟨h.blk.grown hg h1, h.safe.kept hg h2, h.safeAt, h.last.kept hg h3, h.row.kept hg h4, h.ok, h.bd, h.ne, h.c1, h.c2⟩
theorem DiskAt.below (h : DiskAt B w d S ms ml v c1 c2 fS) (hb : Below w.heap.size w w') : DiskAt B w' d S ms ml v c1 c2 fS :=
  h.kept (only_of_below hb none) (by simp) (by simp) (by simp) (by cases hv : v.ownBlock with | none => exact Or.inl rfl | some g => exact Or.inr (by simp))
end
end Go.Proofs.YtbllilokcalbcaaDoor
/- What of a disk only reads, or makes one: New, has, Safe, Pending, Off, Size, Deeds; Arm, deed. -/
namespace Go.Proofs.YtbllilokcalbcaaDoor
open Go Go.RowKit
def zeros32 : List Nat := List.replicate 32 0
theorem zeroS (w : World) : (zeroValue 70).run Tryd.prog w = .ok (.agg (u8s (List.replicate 32 0))) w := by kernel_rfl
theorem sector_size : (Tryd.prog.info? 70).map (·.size) = some 32 := by kernel_rfl
theorem int_wf {i : Int} (h0 : 0 ≤ i) (h1 : i ≤ 9223372036854775807) : (Lit.int .i64 i).wf = true := WalkArith.wf_i64 (by omega)
/-- a disk of noughts -/
def fresh (n : Nat) : Dk.D := ⟨n, fun _ => List.replicate 32 0, [], false, false, 0, 0⟩
theorem fresh_ok {n : Nat} (h : n ≤ 4096) : Dk.Ok (fresh n) := ⟨h, fun _ => by simp [fresh], fun _ i => by simp only [fresh, List.getD_eq_getElem?_getD]; rcases Nat.lt_or_ge i 32 with hi | hi; (rw [List.getElem?_replicate, if_pos hi]; decide); (rw [List.getElem?_eq_none (by simp; omega)]; decide), fun p hp => (by cases hp), by simp [fresh], by simp [fresh], by simp [fresh]⟩
abbrev newBox (w : World) (n : Int) : World := ((w.alloc (.map #[] 0)).alloc (.map #[] 0)).alloc (.cells #[.int .i64 n, .map (some w.heap.size), .slice none 0 0, .map (some (w.heap.size + 1)), .bool false, .bool false, .int .i64 0, .int .i64 0] 58)
theorem below_newBox (w : World) (n : Int) : Below w.heap.size w (newBox w n) := (((Below.refl _ _).alloc (Nat.le_refl _) _).alloc (by simp) _).alloc (by simp <;> omega) _
theorem disk_new (n : Nat) (w : World) (h2 : 2 ≤ n) (h4 : n ≤ 4096) :
    Calls Tryd.prog 8 #[.int .i64 (n : Int)] w fun e w' => ∃ d ms ml, e = .returned (.tuple #[.pointer (some ⟨d, 0, none⟩), .nilIface]) ∧ DiskAt w.heap.size w' d (fresh n) ms ml (.slice none 0 0) 0 0 (fun _ => none) ∧ Below w.heap.size w w' := by
  have hmm := @run_makeMap Tryd.prog
  have H : Hid (DiskAt w.heap.size (newBox w (n : Int)) (w.heap.size + 2) (fresh n) w.heap.size (w.heap.size + 1) (.slice none 0 0) 0 0 (fun _ => none)) := Lib.hid (by
    have hz1 : (w.alloc (.map #[] 0)).heap.size = w.heap.size + 1 := by simp
    have hz2 : ((w.alloc (.map #[] 0)).alloc (.map #[] 0)).heap.size = w.heap.size + 2 := by simp
    have b1 : Below (w.alloc (.map #[] 0)).heap.size (w.alloc (.map #[] 0)) (newBox w (n : Int)) := ((Below.refl _ _).alloc (Nat.le_refl _) _).alloc (by simp) _
    have b2 : Below ((w.alloc (.map #[] 0)).alloc (.map #[] 0)).heap.size ((w.alloc (.map #[] 0)).alloc (.map #[] 0)) (newBox w (n : Int)) := (Below.refl _ _).alloc (Nat.le_refl _) _
    have m1 := (MapF.made w).below b1
    have m2 := (MapF.made (w.alloc (.map #[] 0))).below b2
    rw [hz1] at m2
    have hb := Blk.new ((w.alloc (.map #[] 0)).alloc (.map #[] 0)) 58 #[.int .i64 (n : Int), .map (some w.heap.size), .slice none 0 0, .map (some (w.heap.size + 1)), .bool false, .bool false, .int .i64 0, .int .i64 0]
    rw [hz2] at hb
    exact ⟨hb, m1, fun i _ => rfl, m2, ⟨by simp [fresh, cellsW], .inl ⟨rfl, rfl⟩⟩, fresh_ok h4, by omega, by omega, by omega, by omega⟩)
  have HB := Lib.hid (below_newBox w (n : Int))
  have i1 : ¬ (n : Int) < 2 := by omega
  have i2 : ¬ (4096 : Int) < (n : Int) := by omega
  go_enter Tryd.func8, Tryd.ntmps8
  go_wp2
  go_ret2
  exact ⟨w.heap.size + 2, rfl, ⟨w.heap.size, w.heap.size + 1, H.out⟩, HB.out⟩
theorem disk_none (n : Int) (aR : Addr) (w : World) (h : n < 2 ∨ 4096 < n) (hR : w.cell? ⟨0, 0, none⟩ = some (ev aR)) :
    Calls Tryd.prog 8 #[.int .i64 n] w fun e w' => e = .returned (.tuple #[.pointer none, ev aR]) ∧ ∃ m, w' = w.drewN m := by
  by_cases h1 : n < 2
  · go_enter Tryd.func8, Tryd.ntmps8
    go_wp2
    go_quiet (fail)
    go_wp2
    go_ret2
    exact ⟨rfl, nq, rfl⟩
  · have i2 : (4096 : Int) < n := by omega
    go_enter Tryd.func8, Tryd.ntmps8
    go_wp2
    go_quiet (fail)
    go_wp2
    go_ret2
    exact ⟨rfl, nq, rfl⟩
section
variable {B : Nat} {d ms ml c1 c2 : Nat} {S : Dk.D} {v : Value} {fS : Int → Option Value}
theorem has_any (i : Int) (r : Bool) (w : World) (h : DiskAt B w d S ms ml v c1 c2 fS) (hr : r = decide (0 ≤ i ∧ i < (S.size : Int))) :
    Calls Tryd.prog 78 #[.pointer (some ⟨d, 0, none⟩), .int .i64 i] w fun e w' => e = .returned (.bool r) ∧ w = w' := by
  have p0 : w.cell? ⟨d, 0, none⟩ = some (.int .i64 (S.size : Int)) := h.blk.cell 0
  clear h
  by_cases h0 : 0 ≤ i
  · by_cases h1 : i < S.size
    · obtain rfl : r = true := by rw [hr]; exact decide_eq_true ⟨h0, h1⟩
      clear hr
      go_enter Tryd.func78, Tryd.ntmps78
      go_wp2
      go_ret
      exact ⟨rfl, rfl⟩
    · obtain rfl : r = false := by rw [hr]; exact decide_eq_false (fun k => h1 k.2)
      clear hr
      go_enter Tryd.func78, Tryd.ntmps78
      go_wp2
      go_ret
      exact ⟨rfl, rfl⟩
  · obtain rfl : r = false := by rw [hr]; exact decide_eq_false (fun k => h0 k.1)
    clear hr
    go_enter Tryd.func78, Tryd.ntmps78
    go_wp2
    go_ret
    exact ⟨rfl, rfl⟩
theorem size_any (w : World) (h : DiskAt B w d S ms ml v c1 c2 fS) : Calls Tryd.prog 23 #[.pointer (some ⟨d, 0, none⟩)] w fun e w' => e = .returned (.int .i64 (S.size : Int)) ∧ w = w' := by
  have p0 : w.cell? ⟨d, 0, none⟩ = some (.int .i64 (S.size : Int)) := h.blk.cell 0
  clear h
  go_enter Tryd.func23, Tryd.ntmps23
  go_wp2
  go_ret
  exact ⟨rfl, rfl⟩
theorem row_slice {w : World} {e : TypeId} {s n : Nat} {cs : List Value} (h : w.ownsRow B e s v n cs) : ∃ A c, v = .slice A n c := by
  rcases h.2 with ⟨hv, hn⟩ | ⟨g, cap, cur, hv, _⟩
  · exact ⟨none, 0, by rw [hv, hn]⟩
  · exact ⟨_, cap, hv⟩
theorem safe_no (i : Int) (aR : Addr) (w : World) (h : DiskAt B w d S ms ml v c1 c2 fS) (hi : ¬ (0 ≤ i ∧ i < S.size)) (hR : w.cell? ⟨0, 0, none⟩ = some (ev aR)) :
    Calls Tryd.prog 79 #[.pointer (some ⟨d, 0, none⟩), .int .i64 i] w fun e w' => e = .returned (.tuple #[.slice none 0 0, ev aR]) ∧ ∃ m, w' = w.drewN m := by
  have CH := has_any i false w h (decide_eq_false hi).symm
  clear h
  go_enter Tryd.func79, Tryd.ntmps79
  go_wp2_with (go_at_call 78; refine CH.mono ?_; rintro e w' ⟨rfl, rfl⟩)
  go_quiet (fail)
  go_wp2
  go_ret2
  exact ⟨rfl, nq, rfl⟩
set_option maxRecDepth 100000 in
theorem safe_ok (i : Nat) (w : World) (h : DiskAt B w d S ms ml v c1 c2 fS) (hi : i < S.size) :
    Calls Tryd.prog 79 #[.pointer (some ⟨d, 0, none⟩), .int .i64 (i : Int)] w fun e w' => ∃ g, e = .returned (.tuple #[.slice (some ⟨g, 0, none⟩) 32 32, .nilIface]) ∧ Blk w' g 70 (u8s (S.safe i)) ∧ w.heap.size ≤ g ∧ Below w.heap.size w w' := by
  have CH := has_any (i : Int) true w h (decide_eq_true (⟨by omega, by omega⟩ : (0 : Int) ≤ (i : Int) ∧ (i : Int) < S.size)).symm
  have p1 : w.cell? ⟨d, 1, none⟩ = some (.map (some ms)) := h.blk.cell 1
  have hsz := h.ok.size
  have q0 : (Instr.lookup 54 (.map (some ms)) (.int .i64 (i : Int)) false).run Tryd.prog w = .ok (.agg (u8s (S.safe i))) w := by
    rw [h.safe.look Tryd.underlying54 (zeroS _) (int_wf (by omega) (by omega)), h.safeAt i hi]
  have hl := h.ok.len i
  have HL := Lib.hid hl
  generalize S.safe i = bs at q0 HL ⊢
  have HK : Hid (Blk ((w.alloc (.cells (u8s (List.replicate 32 0)) 70))) w.heap.size 70 (u8s (List.replicate 32 0))) := Lib.hid (Blk.new w _ _)
  clear h hl
  go_enter Tryd.func79, Tryd.ntmps79
  go_wp2_with (first | (go_at_call 78; refine CH.mono ?_; rintro e w' ⟨rfl, rfl⟩) | (refine wpList_store_row rfl 70 (.tmp 6) (.tmp 17) rfl w.heap.size _ rfl rfl 70 _ HK.out (by rw [u8s_size, HL.out]; exact sector_size) (by rw [u8s_size, u8s_size, HL.out]; rfl) (u8s_one _) ?_))
  go_ret2
  exact ⟨_, rfl, HK.out.row _, Nat.le_refl _, below_row ((Below.refl _ _).alloc (Nat.le_refl _) _) (Nat.le_refl _) _⟩
end
end Go.Proofs.YtbllilokcalbcaaDoor
/- A disk's deeds: deed, Arm; what is read of it: Read. -/
namespace Go.Proofs.YtbllilokcalbcaaDoor
open Go Go.RowKit
section
variable {B : Nat} {d ms ml c1 c2 : Nat} {S S' : Dk.D} {v : Value} {fS : Int → Option Value} {w w' : World}
/-- the switches and numbers alone have turned -/
theorem DiskAt.sw (h : DiskAt B w d S ms ml v c1 c2 fS) (e1 : S'.size = S.size) (e2 : S'.safe = S.safe) (e3 : S'.pend = S.pend) (hl : S'.left ≤ 9223372036854775807) (hd : S'.deeds ≤ 1000000)
    (hb : Blk w' d 58 #[.int .i64 (S'.size : Int), .map (some ms), v, .map (some ml), .bool S'.off, .bool S'.armed, .int .i64 (S'.left : Int), .int .i64 (S'.deeds : Int)]) (hg : w.grownBy w' (some d)) : DiskAt B w' d S' ms ml v c1 c2 fS :=
  ⟨hb, h.safe.kept hg (fun e => h.ne.2.1 (by injection e with e; exact e.symm)), fun i hi => by rw [e2]; exact h.safeAt i (e1 ▸ hi), by rw [e3]; exact h.last.kept hg (fun e => h.ne.2.2 (by injection e with e; exact e.symm)),
   by rw [e3]; exact h.row.kept hg (by cases hv : v.ownBlock with | none => exact Or.inl rfl | some g => exact Or.inr (fun e => h.rowNe.1 (by rw [hv, e]))),
   ⟨by rw [e1]; exact h.ok.size, by rw [e2]; exact h.ok.len, by rw [e2]; exact h.ok.byte, by rw [e3, e1]; exact h.ok.plen, by rw [e3]; exact h.ok.few, hl, hd⟩, h.bd, h.ne, h.c1, h.c2⟩
theorem set_own {w : World} {d : Nat} (k : Nat) (u : Value) : w.grownBy (w.setCell ⟨d, k, none⟩ u) (some d) := only_setCell (p := ⟨d, k, none⟩) (World.grownBy.refl w (some d)) (Or.inl rfl) _
theorem deed_fail (aD : Addr) (w : World) (h : DiskAt B w d S ms ml v c1 c2 fS) (ha : S.armed = true) (hl : S.left = 0) (hD : w.cell? ⟨2, 0, none⟩ = some (ev aD)) (hne : d ≠ 2) :
    Calls Tryd.prog 64 #[.pointer (some ⟨d, 0, none⟩)] w fun e w' => e = .returned (ev aD) ∧ DiskAt B w' d { S with off := true } ms ml v c1 c2 fS ∧ w.grownBy w' (some d) := by
  have p5 : w.cell? ⟨d, 5, none⟩ = some (.bool true) := by have := h.blk.cell 5; rw [ha] at this; exact this
  have p6 : w.cell? ⟨d, 6, none⟩ = some (.int .i64 0) := by have := h.blk.cell 6; rw [hl] at this; exact this
  have p4 : w.cell? ⟨d, 4, none⟩ = some (.bool S.off) := h.blk.cell 4
  have z4 := h.blk.frozen 4
  have pD : (w.setCell ⟨d, 4, none⟩ (.bool true)).cell? ⟨2, 0, none⟩ = some (ev aD) := (set_own 4 _).cell hD (fun e => hne (by injection e with e; exact e.symm))
  have H : Hid (DiskAt B (w.setCell ⟨d, 4, none⟩ (.bool true)) d { S with off := true } ms ml v c1 c2 fS) := Lib.hid (h.sw rfl rfl rfl h.ok.left h.ok.deeds (h.blk.set_ 4 (.bool true)) (set_own 4 _))
  have HG : Hid (w.grownBy (w.setCell ⟨d, 4, none⟩ (.bool true)) (some d)) := Lib.hid (set_own 4 _)
  clear h
  go_enter Tryd.func64, Tryd.ntmps64
  go_wp2
  go_ret
  exact ⟨rfl, H.out, HG.out⟩
theorem deed_free (w : World) (h : DiskAt B w d S ms ml v c1 c2 fS) (ha : S.armed = false) (hd : S.deeds + 1 ≤ 1000000) :
    Calls Tryd.prog 64 #[.pointer (some ⟨d, 0, none⟩)] w fun e w' => e = .returned .nilIface ∧ DiskAt B w' d { S with deeds := S.deeds + 1 } ms ml v c1 c2 fS ∧ w.grownBy w' (some d) := by
  have p5 : w.cell? ⟨d, 5, none⟩ = some (.bool false) := by have := h.blk.cell 5; rw [ha] at this; exact this
  have p7 : w.cell? ⟨d, 7, none⟩ = some (.int .i64 (S.deeds : Int)) := h.blk.cell 7
  have z7 := h.blk.frozen 7
  have W1 : IntKind.i64.wrap ((S.deeds : Int) + 1) = (S.deeds : Int) + 1 := IntWalk.i64_in _ (by omega)
  have H : Hid (DiskAt B (w.setCell ⟨d, 7, none⟩ (.int .i64 ((S.deeds : Int) + 1))) d { S with deeds := S.deeds + 1 } ms ml v c1 c2 fS) := Lib.hid (h.sw rfl rfl rfl h.ok.left hd (h.blk.set_ 7 (.int .i64 ((S.deeds : Int) + 1))) (set_own 7 _))
  have HG : Hid (w.grownBy (w.setCell ⟨d, 7, none⟩ (.int .i64 ((S.deeds : Int) + 1))) (some d)) := Lib.hid (set_own 7 _)
  clear h
  go_enter Tryd.func64, Tryd.ntmps64
  go_wp2
  go_ret
  exact ⟨rfl, H.out, HG.out⟩
theorem deed_armed (w : World) (h : DiskAt B w d S ms ml v c1 c2 fS) (ha : S.armed = true) (hl : 0 < S.left) (hd : S.deeds + 1 ≤ 1000000) :
    Calls Tryd.prog 64 #[.pointer (some ⟨d, 0, none⟩)] w fun e w' => e = .returned .nilIface ∧ DiskAt B w' d { S with left := S.left - 1, deeds := S.deeds + 1 } ms ml v c1 c2 fS ∧ w.grownBy w' (some d) := by
  have p5 : w.cell? ⟨d, 5, none⟩ = some (.bool true) := by have := h.blk.cell 5; rw [ha] at this; exact this
  have p6 : w.cell? ⟨d, 6, none⟩ = some (.int .i64 (S.left : Int)) := h.blk.cell 6
  have p7 : w.cell? ⟨d, 7, none⟩ = some (.int .i64 (S.deeds : Int)) := h.blk.cell 7
  have z6 := h.blk.frozen 6
  have z7 := h.blk.frozen 7
  have b0 : ((S.left : Int) == 0) = false := by simp; omega
  have hle := h.ok.left
  have W0 : IntKind.i64.wrap ((S.left : Int) - 1) = (S.left : Int) - 1 := IntWalk.i64_in _ (by omega)
  have W1 : IntKind.i64.wrap ((S.deeds : Int) + 1) = (S.deeds : Int) + 1 := IntWalk.i64_in _ (by omega)
  have el : ((S.left - 1 : Nat) : Int) = (S.left : Int) - 1 := by omega
  have HG : Hid (w.grownBy ((w.setCell ⟨d, 6, none⟩ (.int .i64 ((S.left : Int) - 1))).setCell ⟨d, 7, none⟩ (.int .i64 ((S.deeds : Int) + 1))) (some d)) := Lib.hid (only_trans (set_own 6 _) (set_own 7 _))
  have H : Hid (DiskAt B ((w.setCell ⟨d, 6, none⟩ (.int .i64 ((S.left : Int) - 1))).setCell ⟨d, 7, none⟩ (.int .i64 ((S.deeds : Int) + 1))) d { S with left := S.left - 1, deeds := S.deeds + 1 } ms ml v c1 c2 fS) := Lib.hid (h.sw rfl rfl rfl (by show S.left - 1 ≤ _; omega) hd (by
    have hb := (h.blk.set_ 6 (.int .i64 ((S.left : Int) - 1))).set_ 7 (.int .i64 ((S.deeds : Int) + 1))
    simp only [List.setIfInBounds_toArray, List.set_cons_zero, List.set_cons_succ] at hb
    show Blk _ d _ #[.int .i64 (S.size : Int), .map (some ms), v, .map (some ml), .bool S.off, .bool S.armed, .int .i64 ((S.left - 1 : Nat) : Int), .int .i64 ((S.deeds + 1 : Nat) : Int)]
    rw [el]
    exact hb) HG.out)
  clear h el
  go_enter Tryd.func64, Tryd.ntmps64
  go_wp2
  go_ret
  exact ⟨rfl, H.out, HG.out⟩
theorem arm_ok (n : Nat) (w : World) (h : DiskAt B w d S ms ml v c1 c2 fS) (hn : n ≤ 9223372036854775807) (ho : S.off = false) :
    Calls Tryd.prog 10 #[.pointer (some ⟨d, 0, none⟩), .int .i64 (n : Int)] w fun e w' => e = .returned .nilIface ∧ DiskAt B w' d { S with armed := true, left := n } ms ml v c1 c2 fS ∧ w.grownBy w' (some d) := by
  have p4 : w.cell? ⟨d, 4, none⟩ = some (.bool false) := by have := h.blk.cell 4; rw [ho] at this; exact this
  have p5 : w.cell? ⟨d, 5, none⟩ = some (.bool S.armed) := h.blk.cell 5
  have p6 : w.cell? ⟨d, 6, none⟩ = some (.int .i64 (S.left : Int)) := h.blk.cell 6
  have z5 := h.blk.frozen 5
  have z6 := h.blk.frozen 6
  have i0 : ¬ (n : Int) < 0 := by omega
  have HG : Hid (w.grownBy ((w.setCell ⟨d, 5, none⟩ (.bool true)).setCell ⟨d, 6, none⟩ (.int .i64 (n : Int))) (some d)) := Lib.hid (only_trans (set_own 5 _) (set_own 6 _))
  have H : Hid (DiskAt B ((w.setCell ⟨d, 5, none⟩ (.bool true)).setCell ⟨d, 6, none⟩ (.int .i64 (n : Int))) d { S with armed := true, left := n } ms ml v c1 c2 fS) := Lib.hid (h.sw rfl rfl rfl hn h.ok.deeds (by
    have hb := (h.blk.set_ 5 (.bool true)).set_ 6 (.int .i64 (n : Int))
    simp only [List.setIfInBounds_toArray, List.set_cons_zero, List.set_cons_succ] at hb
    exact hb) HG.out)
  clear h ho
  go_enter Tryd.func10, Tryd.ntmps10
  go_wp2
  go_ret
  exact ⟨rfl, H.out, HG.out⟩
theorem arm_neg (n : Int) (aR : Addr) (w : World) (hn : n < 0) (hR : w.cell? ⟨0, 0, none⟩ = some (ev aR)) :
    Calls Tryd.prog 10 #[.pointer (some ⟨d, 0, none⟩), .int .i64 n] w fun e w' => e = .returned (ev aR) ∧ w = w' := by
  go_enter Tryd.func10, Tryd.ntmps10
  go_wp2
  go_ret
  exact ⟨rfl, rfl⟩
theorem arm_off (n : Int) (aD : Addr) (w : World) (h : DiskAt B w d S ms ml v c1 c2 fS) (hn : 0 ≤ n) (ho : S.off = true) (hD : w.cell? ⟨2, 0, none⟩ = some (ev aD)) :
    Calls Tryd.prog 10 #[.pointer (some ⟨d, 0, none⟩), .int .i64 n] w fun e w' => e = .returned (ev aD) ∧ w = w' := by
  have p4 : w.cell? ⟨d, 4, none⟩ = some (.bool true) := by have := h.blk.cell 4; rw [ho] at this; exact this
  have i0 : ¬ n < 0 := by omega
  clear h
  go_enter Tryd.func10, Tryd.ntmps10
  go_wp2
  go_ret
  exact ⟨rfl, rfl⟩
end
end Go.Proofs.YtbllilokcalbcaaDoor
