/- A disk in memory: its block, its two maps, its row of pending writes. -/
import Derived.Test.YtdokojlgcplefaaDoorMLawKits
import Derived.WalkLawsBesides
import Derived.WalkSpells
import Derived.Laws.OwnMore
import Derived.Deep.MidRow
import Derived.Laws.CopyOwn
import Derived.OrdersHeld
import Derived.StillTailTactics
namespace Go.Proofs.YtdokojlgcplefaaDoor
open Go Go.RowKit
namespace Dk
def lastAt (i : Int) : Nat → List (Nat × List Nat) → Option Nat
 | _, [] => none
 | k, p :: ps => match lastAt i (k + 1) ps with
  | some j => some j
  | none => if (p.1 : Int) = i then some k else none
def last (ps : List (Nat × List Nat)) (i : Int) : Option Nat := lastAt i 0 ps
theorem lastAt_snoc (i : Int) : ∀ (ps : List (Nat × List Nat)) (k : Nat) (q : Nat × List Nat), lastAt i k (ps ++ [q]) = if (q.1 : Int) = i then some (k + ps.length) else lastAt i k ps
 | [], k, q => by simp [lastAt]
 | p :: ps, k, q => by
  rw [List.cons_append, lastAt, lastAt_snoc i ps (k + 1) q]
  by_cases h : (q.1 : Int) = i
  ·simp only [if_pos h]
   simp; omega
  ·simp only [if_neg h]
   rw [lastAt]
theorem last_snoc (ps : List (Nat × List Nat)) (q : Nat × List Nat) (i : Int) : last (ps ++ [q]) i = if (q.1 : Int) = i then some ps.length else last ps i := by
 unfold last
 rw [lastAt_snoc, Nat.zero_add]
theorem lastAt_some {i : Int} : ∀ {ps : List (Nat × List Nat)} {k j : Nat}, lastAt i k ps = some j → k ≤ j ∧ ∃ p, ps[j - k]? = some p ∧ (p.1 : Int) = i
 | [], k, j, h => by cases h
 | p :: ps, k, j, h => by
  rw [lastAt] at h
  cases hr : lastAt i (k + 1) ps with
  | some j' =>
   rw [hr] at h
   injection h with h
   subst h
   obtain ⟨h1, q, h2, h3⟩ := lastAt_some hr
   refine ⟨by omega, q, ?_, h3⟩
   rw [show j' - k = (j' - (k + 1)) + 1 by omega]
   simpa using h2
  | none =>
   rw [hr] at h
   by_cases hp : (p.1 : Int) = i
   ·simp only [if_pos hp] at h
    injection h with h
    subst h
    exact ⟨Nat.le_refl _, p, by simp, hp⟩
   ·simp only [if_neg hp] at h
    cases h
theorem last_some {i : Int} {ps : List (Nat × List Nat)} {j : Nat} (h : last ps i = some j) : ∃ p, ps[j]? = some p ∧ (p.1 : Int) = i := by
 obtain ⟨_, p, h1, h2⟩ := lastAt_some h
 exact ⟨p, by simpa using h1, h2⟩
structure D where
 size : Nat
 safe : Nat → List Nat
 pend : List (Nat × List Nat)
 off : Bool
 armed : Bool
 left : Nat
 deeds : Nat
structure Ok (S : D) : Prop where
 size : S.size ≤ 4096
 len : ∀ i, (S.safe i).length = 32
 byte : ∀ i, Sha.Byte (S.safe i)
 plen : ∀ p ∈ S.pend, p.1 < S.size ∧ p.2.length = 32 ∧ Sha.Byte p.2
 few : S.pend.length ≤ 1000000
 left : S.left ≤ 9223372036854775807
 deeds : S.deeds ≤ 1000000
end Dk
def cellsW (ps : List (Nat × List Nat)) : List Value := ps.flatMap fun p => .int .i64 (p.1 : Int) :: cellsB p.2
structure DiskAt (B : Nat) (w : World) (d : Nat) (S : Dk.D) (ms ml : Nat) (v : Value) (c1 c2 : Nat) (fS : Int → Option Value) : Prop where
 blk : Blk w d 53 #[.int .i64 (S.size : Int), .map (some ms), v, .map (some ml), .bool S.off, .bool S.armed, .int .i64 (S.left : Int), .int .i64 (S.deeds : Int)]
 safe : MapF w ms c1 fS
 safeAt : ∀ i : Nat, i < S.size → (fS i).getD (.agg (u8s (List.replicate 32 0))) = .agg (u8s (S.safe i))
 last : MapF w ml c2 (fun i => (Dk.last S.pend i).map fun (k : Nat) => Value.int .i64 (k : Int))
 row : w.ownsRow B 68 33 v S.pend.length (cellsW S.pend)
 ok : Dk.Ok S
 bd : B ≤ d ∧ B ≤ ms ∧ B ≤ ml
 ne : ms ≠ ml ∧ d ≠ ms ∧ d ≠ ml
 c1 : c1 ≤ 1000000000
 c2 : c2 ≤ 1000000000
section
variable {B : Nat} {w w' : World} {d ms ml c1 c2 : Nat} {S : Dk.D} {v : Value} {fS : Int → Option Value}
theorem DiskAt.rowNe (h : DiskAt B w d S ms ml v c1 c2 fS) : some d ≠ v.ownBlock ∧ some ms ≠ v.ownBlock ∧ some ml ≠ v.ownBlock := by
 have hr := h.row
 have hm1 := h.safe
 have hm2 := h.last
 have hb := h.blk
 rcases hr.2 with ⟨rfl, _⟩ | ⟨g, cap, cur, rfl, _, hh, _⟩
 ·exact ⟨by simp [Value.ownBlock], by simp [Value.ownBlock], by simp [Value.ownBlock]⟩
 ·refine ⟨fun e => ?_, fun e => ?_, fun e => ?_⟩
  ·injection e with e
   subst e
   have := hb.symm.trans hh
   injection this with this
   injection this with _ e _
   revert e; decide
  ·injection e with e
   subst e
   obtain ⟨D, ⟨es, clock, h1, _⟩, _⟩ := hm1
   rw [h1] at hh
   cases hh
  ·injection e with e
   subst e
   obtain ⟨D, ⟨es, clock, h1, _⟩, _⟩ := hm2
   rw [h1] at hh
   cases hh
theorem DiskAt.kept (h : DiskAt B w d S ms ml v c1 c2 fS) {row : Option Nat} (hg : w.grownBy w' row) (h1 : some d ≠ row) (h2 : some ms ≠ row) (h3 : some ml ≠ row) (h4 : v.ownBlock = none ∨ v.ownBlock ≠ row) : DiskAt B w' d S ms ml v c1 c2 fS :=
 ⟨h.blk.grown hg h1, h.safe.kept hg h2, h.safeAt, h.last.kept hg h3, h.row.kept hg h4, h.ok, h.bd, h.ne, h.c1, h.c2⟩
theorem DiskAt.below (h : DiskAt B w d S ms ml v c1 c2 fS) (hb : Below w.heap.size w w') : DiskAt B w' d S ms ml v c1 c2 fS :=
 h.kept (only_of_below hb none) (by simp) (by simp) (by simp) (by cases hv : v.ownBlock with | none => exact Or.inl rfl | some g => exact Or.inr (by simp))
end
end Go.Proofs.YtdokojlgcplefaaDoor
/- What of a disk only reads, or makes one: New, has, Safe, Pending, Off, Size, Deeds; Arm, deed. -/
namespace Go.Proofs.YtdokojlgcplefaaDoor
open Go Go.RowKit
theorem zeroS (w : World) : (zeroValue 66).run Tryd.prog w = .ok (.agg (u8s (List.replicate 32 0))) w := by kernel_rfl
theorem sector_size : (Tryd.prog.info? 66).map (·.size) = some 32 := by kernel_rfl
theorem int_wf {i : Int} (h0 : 0 ≤ i) (h1 : i ≤ 9223372036854775807) : (Lit.int .i64 i).wf = true := WalkArith.wf_i64 (by omega)
def fresh (n : Nat) : Dk.D := ⟨n, fun _ => List.replicate 32 0, [], false, false, 0, 0⟩
theorem fresh_ok {n : Nat} (h : n ≤ 4096) : Dk.Ok (fresh n) := ⟨h, fun _ => by simp [fresh], fun _ i => by simp only [fresh, List.getD_eq_getElem?_getD]; rcases Nat.lt_or_ge i 32 with hi | hi; (rw [List.getElem?_replicate, if_pos hi]; decide); (rw [List.getElem?_eq_none (by simp; omega)]; decide), fun p hp => (by cases hp), by simp [fresh], by simp [fresh], by simp [fresh]⟩
abbrev newBox (w : World) (n : Int) : World := ((w.alloc (.map #[] 0)).alloc (.map #[] 0)).alloc (.cells #[.int .i64 n, .map (some w.heap.size), .slice none 0 0, .map (some (w.heap.size + 1)), .bool false, .bool false, .int .i64 0, .int .i64 0] 53)
theorem below_newBox (w : World) (n : Int) : Below w.heap.size w (newBox w n) := (((Below.refl _ _).alloc (Nat.le_refl _) _).alloc (by simp) _).alloc (by simp <;> omega) _
theorem disk_new (n : Nat) (w : World) (h2 : 2 ≤ n) (h4 : n ≤ 4096) :
  Calls Tryd.prog 6 #[.int .i64 (n : Int)] w fun e w' => ∃ d ms ml, e = .returned (.tuple #[.pointer (some ⟨d, 0, none⟩), .nilIface]) ∧ DiskAt w.heap.size w' d (fresh n) ms ml (.slice none 0 0) 0 0 (fun _ => none) ∧ Below w.heap.size w w' := by
 have hmm := @run_makeMap Tryd.prog
 have H : Hid (DiskAt w.heap.size (newBox w (n : Int)) (w.heap.size + 2) (fresh n) w.heap.size (w.heap.size + 1) (.slice none 0 0) 0 0 (fun _ => none)) := Lib.hid (by
  have hz1 : (w.alloc (.map #[] 0)).heap.size = w.heap.size + 1 := by simp
  have hz2 : ((w.alloc (.map #[] 0)).alloc (.map #[] 0)).heap.size = w.heap.size + 2 := by simp
  have b1 : Below (w.alloc (.map #[] 0)).heap.size (w.alloc (.map #[] 0)) (newBox w (n : Int)) := ((Below.refl _ _).alloc (Nat.le_refl _) _).alloc (by simp) _
  have b2 : Below ((w.alloc (.map #[] 0)).alloc (.map #[] 0)).heap.size ((w.alloc (.map #[] 0)).alloc (.map #[] 0)) (newBox w (n : Int)) := (Below.refl _ _).alloc (Nat.le_refl _) _
  have m1 := (MapF.made w).below b1
  have m2 := (MapF.made (w.alloc (.map #[] 0))).below b2
  rw [hz1] at m2
  have hb := Blk.new ((w.alloc (.map #[] 0)).alloc (.map #[] 0)) 53 #[.int .i64 (n : Int), .map (some w.heap.size), .slice none 0 0, .map (some (w.heap.size + 1)), .bool false, .bool false, .int .i64 0, .int .i64 0]
  rw [hz2] at hb
  exact ⟨hb, m1, fun i _ => rfl, m2, ⟨by simp [fresh, cellsW], .inl ⟨rfl, rfl⟩⟩, fresh_ok h4, by omega, by omega, by omega, by omega⟩)
 have HB := Lib.hid (below_newBox w (n : Int))
 have i1 : ¬ (n : Int) < 2 := by omega
 have i2 : ¬ (4096 : Int) < (n : Int) := by omega
 go_enter Tryd.func6, Tryd.ntmps6
 go_wp2
 go_ret2
 exact ⟨w.heap.size + 2, rfl, ⟨w.heap.size, w.heap.size + 1, H.out⟩, HB.out⟩
section
variable {B : Nat} {d ms ml c1 c2 : Nat} {S : Dk.D} {v : Value} {fS : Int → Option Value}
theorem has_any (i : Int) (r : Bool) (w : World) (h : DiskAt B w d S ms ml v c1 c2 fS) (hr : r = decide (0 ≤ i ∧ i < (S.size : Int))) :
  Calls Tryd.prog 71 #[.pointer (some ⟨d, 0, none⟩), .int .i64 i] w fun e w' => e = .returned (.bool r) ∧ w = w' := by
 have p0 : w.cell? ⟨d, 0, none⟩ = some (.int .i64 (S.size : Int)) := h.blk.cell 0
 clear h
 by_cases h0 : 0 ≤ i
 ·by_cases h1 : i < S.size
  ·obtain rfl : r = true := by rw [hr]; exact decide_eq_true ⟨h0, h1⟩
   clear hr
   go_enter Tryd.func71, Tryd.ntmps71
   go_wp2
   go_ret
   exact ⟨rfl, rfl⟩
  ·obtain rfl : r = false := by rw [hr]; exact decide_eq_false (fun k => h1 k.2)
   clear hr
   go_enter Tryd.func71, Tryd.ntmps71
   go_wp2
   go_ret
   exact ⟨rfl, rfl⟩
 ·obtain rfl : r = false := by rw [hr]; exact decide_eq_false (fun k => h0 k.1)
  clear hr
  go_enter Tryd.func71, Tryd.ntmps71
  go_wp2
  go_ret
  exact ⟨rfl, rfl⟩
theorem size_any (w : World) (h : DiskAt B w d S ms ml v c1 c2 fS) : Calls Tryd.prog 18 #[.pointer (some ⟨d, 0, none⟩)] w fun e w' => e = .returned (.int .i64 (S.size : Int)) ∧ w = w' := by
 have p0 : w.cell? ⟨d, 0, none⟩ = some (.int .i64 (S.size : Int)) := h.blk.cell 0
 clear h
 go_enter Tryd.func18, Tryd.ntmps18
 go_wp2
 go_ret
 exact ⟨rfl, rfl⟩
theorem row_slice {w : World} {e : TypeId} {s n : Nat} {cs : List Value} (h : w.ownsRow B e s v n cs) : ∃ A c, v = .slice A n c := by
 rcases h.2 with ⟨hv, hn⟩ | ⟨g, cap, cur, hv, _⟩
 ·exact ⟨none, 0, by rw [hv, hn]⟩
 ·exact ⟨_, cap, hv⟩
set_option maxRecDepth 100000 in
theorem safe_ok (i : Nat) (w : World) (h : DiskAt B w d S ms ml v c1 c2 fS) (hi : i < S.size) :
  Calls Tryd.prog 72 #[.pointer (some ⟨d, 0, none⟩), .int .i64 (i : Int)] w fun e w' => ∃ g, e = .returned (.tuple #[.slice (some ⟨g, 0, none⟩) 32 32, .nilIface]) ∧ Blk w' g 66 (u8s (S.safe i)) ∧ w.heap.size ≤ g ∧ Below w.heap.size w w' := by
 have CH := has_any (i : Int) true w h (decide_eq_true (⟨by omega, by omega⟩ : (0 : Int) ≤ (i : Int) ∧ (i : Int) < S.size)).symm
 have p1 : w.cell? ⟨d, 1, none⟩ = some (.map (some ms)) := h.blk.cell 1
 have hsz := h.ok.size
 have q0 : (Instr.lookup 49 (.map (some ms)) (.int .i64 (i : Int)) false).run Tryd.prog w = .ok (.agg (u8s (S.safe i))) w := by
  rw [h.safe.look Tryd.underlying49 (zeroS _) (int_wf (by omega) (by omega)), h.safeAt i hi]
 have hl := h.ok.len i
 have HL := Lib.hid hl
 generalize S.safe i = bs at q0 HL ⊢
 have HK : Hid (Blk ((w.alloc (.cells (u8s (List.replicate 32 0)) 66))) w.heap.size 66 (u8s (List.replicate 32 0))) := Lib.hid (Blk.new w _ _)
 clear h hl
 go_enter Tryd.func72, Tryd.ntmps72
 go_wp2_with (first | (go_at_call 71; refine CH.mono ?_; rintro e w' ⟨rfl, rfl⟩) | (refine wpList_store_row rfl 66 (.tmp 6) (.tmp 17) rfl w.heap.size _ rfl rfl 66 _ HK.out (by rw [u8s_size, HL.out]; exact sector_size) (by rw [u8s_size, u8s_size, HL.out]; rfl) (u8s_one _) ?_))
 go_ret2
 exact ⟨_, rfl, HK.out.row _, Nat.le_refl _, below_row ((Below.refl _ _).alloc (Nat.le_refl _) _) (Nat.le_refl _) _⟩
end
end Go.Proofs.YtdokojlgcplefaaDoor
/- A disk's deeds: deed, Arm; what is read of it: Read. -/
namespace Go.Proofs.YtdokojlgcplefaaDoor
open Go Go.RowKit
section
variable {B : Nat} {d ms ml c1 c2 : Nat} {S S' : Dk.D} {v : Value} {fS : Int → Option Value} {w w' : World}
theorem DiskAt.sw (h : DiskAt B w d S ms ml v c1 c2 fS) (e1 : S'.size = S.size) (e2 : S'.safe = S.safe) (e3 : S'.pend = S.pend) (hl : S'.left ≤ 9223372036854775807) (hd : S'.deeds ≤ 1000000)
    (hb : Blk w' d 53 #[.int .i64 (S'.size : Int), .map (some ms), v, .map (some ml), .bool S'.off, .bool S'.armed, .int .i64 (S'.left : Int), .int .i64 (S'.deeds : Int)]) (hg : w.grownBy w' (some d)) : DiskAt B w' d S' ms ml v c1 c2 fS :=
  ⟨hb, h.safe.kept hg (fun e => h.ne.2.1 (by injection e with e; exact e.symm)), fun i hi => by rw [e2]; exact h.safeAt i (e1 ▸ hi), by rw [e3]; exact h.last.kept hg (fun e => h.ne.2.2 (by injection e with e; exact e.symm)),
   by rw [e3]; exact h.row.kept hg (by cases hv : v.ownBlock with | none => exact Or.inl rfl | some g => exact Or.inr (fun e => h.rowNe.1 (by rw [hv, e]))),
   ⟨by rw [e1]; exact h.ok.size, by rw [e2]; exact h.ok.len, by rw [e2]; exact h.ok.byte, by rw [e3, e1]; exact h.ok.plen, by rw [e3]; exact h.ok.few, hl, hd⟩, h.bd, h.ne, h.c1, h.c2⟩
theorem set_own {w : World} {d : Nat} (k : Nat) (u : Value) : w.grownBy (w.setCell ⟨d, k, none⟩ u) (some d) := only_setCell (p := ⟨d, k, none⟩) (World.grownBy.refl w (some d)) (Or.inl rfl) _
theorem deed_fail (aD : Addr) (w : World) (h : DiskAt B w d S ms ml v c1 c2 fS) (ha : S.armed = true) (hl : S.left = 0) (hD : w.cell? ⟨2, 0, none⟩ = some (ev aD)) (hne : d ≠ 2) :
  Calls Tryd.prog 57 #[.pointer (some ⟨d, 0, none⟩)] w fun e w' => e = .returned (ev aD) ∧ DiskAt B w' d { S with off := true } ms ml v c1 c2 fS ∧ w.grownBy w' (some d) := by
 have p5 : w.cell? ⟨d, 5, none⟩ = some (.bool true) := by have := h.blk.cell 5; rw [ha] at this; exact this
 have p6 : w.cell? ⟨d, 6, none⟩ = some (.int .i64 0) := by have := h.blk.cell 6; rw [hl] at this; exact this
 have p4 : w.cell? ⟨d, 4, none⟩ = some (.bool S.off) := h.blk.cell 4
 have z4 := h.blk.frozen 4
 have pD : (w.setCell ⟨d, 4, none⟩ (.bool true)).cell? ⟨2, 0, none⟩ = some (ev aD) := (set_own 4 _).cell hD (fun e => hne (by injection e with e; exact e.symm))
 have H : Hid (DiskAt B (w.setCell ⟨d, 4, none⟩ (.bool true)) d { S with off := true } ms ml v c1 c2 fS) := Lib.hid (h.sw rfl rfl rfl h.ok.left h.ok.deeds (h.blk.set_ 4 (.bool true)) (set_own 4 _))
 have HG : Hid (w.grownBy (w.setCell ⟨d, 4, none⟩ (.bool true)) (some d)) := Lib.hid (set_own 4 _)
 clear h
 go_enter Tryd.func57, Tryd.ntmps57
 go_wp2
 go_ret
 exact ⟨rfl, H.out, HG.out⟩
theorem deed_free (w : World) (h : DiskAt B w d S ms ml v c1 c2 fS) (ha : S.armed = false) (hd : S.deeds + 1 ≤ 1000000) :
  Calls Tryd.prog 57 #[.pointer (some ⟨d, 0, none⟩)] w fun e w' => e = .returned .nilIface ∧ DiskAt B w' d { S with deeds := S.deeds + 1 } ms ml v c1 c2 fS ∧ w.grownBy w' (some d) := by
 have p5 : w.cell? ⟨d, 5, none⟩ = some (.bool false) := by have := h.blk.cell 5; rw [ha] at this; exact this
 have p7 : w.cell? ⟨d, 7, none⟩ = some (.int .i64 (S.deeds : Int)) := h.blk.cell 7
 have z7 := h.blk.frozen 7
 have W1 : IntKind.i64.wrap ((S.deeds : Int) + 1) = (S.deeds : Int) + 1 := IntWalk.i64_in _ (by omega)
 have H : Hid (DiskAt B (w.setCell ⟨d, 7, none⟩ (.int .i64 ((S.deeds : Int) + 1))) d { S with deeds := S.deeds + 1 } ms ml v c1 c2 fS) := Lib.hid (h.sw rfl rfl rfl h.ok.left hd (h.blk.set_ 7 (.int .i64 ((S.deeds : Int) + 1))) (set_own 7 _))
 have HG : Hid (w.grownBy (w.setCell ⟨d, 7, none⟩ (.int .i64 ((S.deeds : Int) + 1))) (some d)) := Lib.hid (set_own 7 _)
 clear h
 go_enter Tryd.func57, Tryd.ntmps57
 go_wp2
 go_ret
 exact ⟨rfl, H.out, HG.out⟩
theorem deed_armed (w : World) (h : DiskAt B w d S ms ml v c1 c2 fS) (ha : S.armed = true) (hl : 0 < S.left) (hd : S.deeds + 1 ≤ 1000000) :
  Calls Tryd.prog 57 #[.pointer (some ⟨d, 0, none⟩)] w fun e w' => e = .returned .nilIface ∧ DiskAt B w' d { S with left := S.left - 1, deeds := S.deeds + 1 } ms ml v c1 c2 fS ∧ w.grownBy w' (some d) := by
 have p5 : w.cell? ⟨d, 5, none⟩ = some (.bool true) := by have := h.blk.cell 5; rw [ha] at this; exact this
 have p6 : w.cell? ⟨d, 6, none⟩ = some (.int .i64 (S.left : Int)) := h.blk.cell 6
 have p7 : w.cell? ⟨d, 7, none⟩ = some (.int .i64 (S.deeds : Int)) := h.blk.cell 7
 have z6 := h.blk.frozen 6
 have z7 := h.blk.frozen 7
 have b0 : ((S.left : Int) == 0) = false := by simp; omega
 have hle := h.ok.left
 have W0 : IntKind.i64.wrap ((S.left : Int) - 1) = (S.left : Int) - 1 := IntWalk.i64_in _ (by omega)
 have W1 : IntKind.i64.wrap ((S.deeds : Int) + 1) = (S.deeds : Int) + 1 := IntWalk.i64_in _ (by omega)
 have el : ((S.left - 1 : Nat) : Int) = (S.left : Int) - 1 := by omega
 have HG : Hid (w.grownBy ((w.setCell ⟨d, 6, none⟩ (.int .i64 ((S.left : Int) - 1))).setCell ⟨d, 7, none⟩ (.int .i64 ((S.deeds : Int) + 1))) (some d)) := Lib.hid (only_trans (set_own 6 _) (set_own 7 _))
 have H : Hid (DiskAt B ((w.setCell ⟨d, 6, none⟩ (.int .i64 ((S.left : Int) - 1))).setCell ⟨d, 7, none⟩ (.int .i64 ((S.deeds : Int) + 1))) d { S with left := S.left - 1, deeds := S.deeds + 1 } ms ml v c1 c2 fS) := Lib.hid (h.sw rfl rfl rfl (by show S.left - 1 ≤ _; omega) hd (by
  have hb := (h.blk.set_ 6 (.int .i64 ((S.left : Int) - 1))).set_ 7 (.int .i64 ((S.deeds : Int) + 1))
  simp only [List.setIfInBounds_toArray, List.set_cons_zero, List.set_cons_succ] at hb
  show Blk _ d _ #[.int .i64 (S.size : Int), .map (some ms), v, .map (some ml), .bool S.off, .bool S.armed, .int .i64 ((S.left - 1 : Nat) : Int), .int .i64 ((S.deeds + 1 : Nat) : Int)]
  rw [el]
  exact hb) HG.out)
 clear h el
 go_enter Tryd.func57, Tryd.ntmps57
 go_wp2
 go_ret
 exact ⟨rfl, H.out, HG.out⟩
theorem arm_ok (n : Nat) (w : World) (h : DiskAt B w d S ms ml v c1 c2 fS) (hn : n ≤ 9223372036854775807) (ho : S.off = false) :
  Calls Tryd.prog 8 #[.pointer (some ⟨d, 0, none⟩), .int .i64 (n : Int)] w fun e w' => e = .returned .nilIface ∧ DiskAt B w' d { S with armed := true, left := n } ms ml v c1 c2 fS ∧ w.grownBy w' (some d) := by
 have p4 : w.cell? ⟨d, 4, none⟩ = some (.bool false) := by have := h.blk.cell 4; rw [ho] at this; exact this
 have p5 : w.cell? ⟨d, 5, none⟩ = some (.bool S.armed) := h.blk.cell 5
 have p6 : w.cell? ⟨d, 6, none⟩ = some (.int .i64 (S.left : Int)) := h.blk.cell 6
 have z5 := h.blk.frozen 5
 have z6 := h.blk.frozen 6
 have i0 : ¬ (n : Int) < 0 := by omega
 have HG : Hid (w.grownBy ((w.setCell ⟨d, 5, none⟩ (.bool true)).setCell ⟨d, 6, none⟩ (.int .i64 (n : Int))) (some d)) := Lib.hid (only_trans (set_own 5 _) (set_own 6 _))
 have H : Hid (DiskAt B ((w.setCell ⟨d, 5, none⟩ (.bool true)).setCell ⟨d, 6, none⟩ (.int .i64 (n : Int))) d { S with armed := true, left := n } ms ml v c1 c2 fS) := Lib.hid (h.sw rfl rfl rfl hn h.ok.deeds (by
  have hb := (h.blk.set_ 5 (.bool true)).set_ 6 (.int .i64 (n : Int))
  simp only [List.setIfInBounds_toArray, List.set_cons_zero, List.set_cons_succ] at hb
  exact hb) HG.out)
 clear h ho
 go_enter Tryd.func8, Tryd.ntmps8
 go_wp2
 go_ret
 exact ⟨rfl, H.out, HG.out⟩
end
end Go.Proofs.YtdokojlgcplefaaDoor
/- What is read of a disk (Read). -/
namespace Go.Proofs.YtdokojlgcplefaaDoor
open Go Go.RowKit
theorem zeroI (w : World) : (zeroValue 3).run Tryd.prog w = .ok (.int .i64 0) w := by kernel_rfl
theorem cellsW_get : ∀ {ps : List (Nat × List Nat)} (_h : ∀ p ∈ ps, p.2.length = 32) {k : Nat} {p : Nat × List Nat} (_hk : ps[k]? = some p) (j : Nat), j < 33 → (cellsW ps)[33 * k + j]? = (Value.int .i64 (p.1 : Int) :: cellsB p.2)[j]?
 | q :: ps, h, 0, p, hk, j, hj => by
  obtain rfl : q = p := by simpa using hk
  rw [cellsW, List.flatMap_cons, Nat.mul_zero, Nat.zero_add, List.getElem?_append_left]
  rw [List.length_cons, cellsB_len, h q List.mem_cons_self]
  omega
 | q :: ps, h, k + 1, p, hk, j, hj => by
  have ih := cellsW_get (fun x hx => h x (List.mem_cons_of_mem _ hx)) (k := k) (p := p) (by simpa using hk) j hj
  rw [cellsW, List.flatMap_cons, List.getElem?_append_right (by rw [List.length_cons, cellsB_len, h q List.mem_cons_self]; omega), List.length_cons, cellsB_len, h q List.mem_cons_self, ← cellsW, show 33 * (k + 1) + j - (32 + 1) = 33 * k + j by omega]
  exact ih
section
variable {B : Nat} {d ms ml c1 c2 : Nat} {S : Dk.D} {v : Value} {fS : Int → Option Value}
theorem look_last {w : World} (h : DiskAt B w d S ms ml v c1 c2 fS) {i : Int} (hi : (Lit.int .i64 i).wf = true) :
  (Instr.lookup 50 (.map (some ml)) (.int .i64 i) true).run Tryd.prog w = .ok (.tuple #[.int .i64 (((Dk.last S.pend i).getD 0 : Nat) : Int), .bool (Dk.last S.pend i).isSome]) w := by
 rw [h.last.look_ok Tryd.underlying50 (zeroI _) hi]
 cases Dk.last S.pend i <;> rfl
theorem read_safe (i : Nat) (w : World) (h : DiskAt B w d S ms ml v c1 c2 fS) (ho : S.off = false) (hi : i < S.size) (hl : Dk.last S.pend (i : Int) = none) :
  Calls Tryd.prog 60 #[.pointer (some ⟨d, 0, none⟩), .int .i64 (i : Int)] w fun e w' => ∃ g, e = .returned (.tuple #[.slice (some ⟨g, 0, none⟩) 32 32, .nilIface]) ∧ Blk w' g 66 (u8s (S.safe i)) ∧ w.heap.size ≤ g ∧ Below w.heap.size w w' := by
 have p4 : w.cell? ⟨d, 4, none⟩ = some (.bool false) := by have := h.blk.cell 4; rw [ho] at this; exact this
 have p3 : w.cell? ⟨d, 3, none⟩ = some (.map (some ml)) := h.blk.cell 3
 have hsz := h.ok.size
 have q0 := look_last h (i := (i : Int)) (int_wf (by omega) (by omega))
 rw [hl] at q0
 have CS := safe_ok i w h hi
 clear h ho hl
 go_enter Tryd.func60, Tryd.ntmps60
 go_wp2_with (go_at_call 72; refine CS.mono ?_; rintro e w' ⟨g, rfl, h1, h2, h3⟩; have H1 := Lib.hid h1; have H3 := Lib.hid h3; clear h1 h3)
 go_ret2
 exact ⟨g, rfl, H1.out, h2, H3.out⟩
set_option maxRecDepth 100000 in
theorem read_pend (i k : Nat) (bs : List Nat) (w : World) (h : DiskAt B w d S ms ml v c1 c2 fS) (ho : S.off = false) (hi : i < S.size) (hl : Dk.last S.pend (i : Int) = some k) (hk : S.pend[k]? = some (i, bs)) :
  Calls Tryd.prog 60 #[.pointer (some ⟨d, 0, none⟩), .int .i64 (i : Int)] w fun e w' => ∃ g, e = .returned (.tuple #[.slice (some ⟨g, 0, none⟩) 32 32, .nilIface]) ∧ Blk w' g 66 (u8s bs) ∧ w.heap.size ≤ g ∧ Below w.heap.size w w' := by
 have p4 : w.cell? ⟨d, 4, none⟩ = some (.bool false) := by have := h.blk.cell 4; rw [ho] at this; exact this
 have p3 : w.cell? ⟨d, 3, none⟩ = some (.map (some ml)) := h.blk.cell 3
 have p2 : w.cell? ⟨d, 2, none⟩ = some v := h.blk.cell 2
 have hsz := h.ok.size
 have q0 := look_last h (i := (i : Int)) (int_wf (by omega) (by omega))
 rw [hl] at q0
 have hkl : k < S.pend.length := (List.getElem?_eq_some_iff.1 hk).1
 have hpl := fun p hp => (h.ok.plen p hp).2.1
 have hbl : bs.length = 32 := hpl _ (List.mem_of_getElem? hk)
 obtain ⟨g, cap, rfl⟩ : ∃ g cap, v = .slice (some ⟨g, 0, none⟩) S.pend.length cap := by
  rcases h.row.2 with ⟨_, h0⟩ | ⟨g, cap, cur, hv, _⟩
  ·omega
  ·exact ⟨g, cap, hv⟩
 have hrow := h.row
 have HG : Hid (w.rangeAt g (k * 33 + 1) (cellsB bs)) := Lib.hid fun j u hj => by
  have hjl : j < 32 := by have := (List.getElem?_eq_some_iff.1 hj).1; rwa [cellsB_len, hbl] at this
  have hc := cellsW_get hpl hk (1 + j) (by omega)
  rw [show (1 + j) = j + 1 by omega, List.getElem?_cons_succ, hj] at hc
  rw [show k * 33 + 1 + j = 33 * k + (j + 1) by omega, hrow.cellAt _ (by omega)]
  exact hc
 have i0 : ((k : Nat) : Int) < S.pend.length := by omega
 have i1 : (0 : Int) ≤ ((k : Nat) : Int) := by omega
 have HK : Hid (Blk (w.alloc (.cells (u8s (List.replicate 32 0)) 66)) w.heap.size 66 (u8s (List.replicate 32 0))) := Lib.hid (Blk.new w _ _)
 have HL := Lib.hid hbl
 clear h ho hl hpl hbl hrow hk
 go_enter Tryd.func60, Tryd.ntmps60
 go_wp2_with (first | (refine wpList_load_mid rfl 66 (.tmp 30) rfl g (k * 33 + 1) rfl (cellsB bs) _ HG.out Tryd.underlying66 rfl (by rw [cellsB_len, HL.out]; exact sector_size) ?_) | (refine wpList_store_row rfl 66 (.tmp 8) (.tmp 31) rfl w.heap.size (u8s bs) rfl rfl 66 _ HK.out (by rw [u8s_size, HL.out]; exact sector_size) (by rw [u8s_size, u8s_size, HL.out]; rfl) (u8s_one _) ?_))
 go_ret2
 exact ⟨_, rfl, HK.out.row _, Nat.le_refl _, below_row ((Below.refl _ _).alloc (Nat.le_refl _) _) (Nat.le_refl _) _⟩
end
end Go.Proofs.YtdokojlgcplefaaDoor
/- A disk is written ((*Disk).Write). -/
namespace Go.Proofs.YtdokojlgcplefaaDoor
open Go Go.RowKit
theorem run_neq_ev (a : Addr) (w : World) : (binOp .neq 27 (ev a) .nilIface).run Tryd.prog w = .ok (.bool true) w := by kernel_rfl
section
variable {B : Nat} {d ms ml c1 c2 : Nat} {S : Dk.D} {v : Value} {fS : Int → Option Value}
theorem write_off (i : Int) (b : Value) (aD : Addr) (w : World) (h : DiskAt B w d S ms ml v c1 c2 fS) (ho : S.off = true) (hD : w.cell? ⟨2, 0, none⟩ = some (ev aD)) :
  Calls Tryd.prog 56 #[.pointer (some ⟨d, 0, none⟩), .int .i64 i, b] w fun e w' => e = .returned (ev aD) ∧ w = w' := by
 have p4 : w.cell? ⟨d, 4, none⟩ = some (.bool true) := by have := h.blk.cell 4; rw [ho] at this; exact this
 clear h ho
 go_enter Tryd.func56, Tryd.ntmps56
 go_wp2
 go_ret
 exact ⟨rfl, rfl⟩
theorem has_yes (i : Nat) (w : World) (h : DiskAt B w d S ms ml v c1 c2 fS) (hi : i < S.size) : Calls Tryd.prog 71 #[.pointer (some ⟨d, 0, none⟩), .int .i64 (i : Int)] w fun e w' => e = .returned (.bool true) ∧ w = w' :=
 has_any (i : Int) true w h (decide_eq_true (⟨by omega, by omega⟩ : (0 : Int) ≤ (i : Int) ∧ (i : Int) < S.size)).symm
theorem write_dead (i : Nat) (A : Option Addr) (n c : Nat) (aD : Addr) (w : World) (h : DiskAt B w d S ms ml v c1 c2 fS) (ho : S.off = false) (hi : i < S.size) (hn : n ≤ 32) (ha : S.armed = true) (hl : S.left = 0) (hD : w.cell? ⟨2, 0, none⟩ = some (ev aD)) (hne : d ≠ 2) :
  Calls Tryd.prog 56 #[.pointer (some ⟨d, 0, none⟩), .int .i64 (i : Int), .slice A n c] w fun e w' => e = .returned (ev aD) ∧ DiskAt B w' d { S with off := true } ms ml v c1 c2 fS ∧ w.grownBy w' (some d) := by
 have p4 : w.cell? ⟨d, 4, none⟩ = some (.bool false) := by have := h.blk.cell 4; rw [ho] at this; exact this
 have CH := has_yes i w h hi
 have CD := deed_fail aD w h ha hl hD hne
 have i0 : ¬ (32 : Int) < (n : Int) := by omega
 have q0 := run_neq_ev aD
 clear h ho
 go_enter Tryd.func56, Tryd.ntmps56
 go_wp2_with (first | (go_at_call 71; refine CH.mono ?_; rintro e w' ⟨rfl, rfl⟩) | (go_at_call 57; refine CD.mono ?_; rintro e w' ⟨rfl, h1, h2⟩; have H1 := Lib.hid h1; have H2 := Lib.hid h2; clear h1 h2))
 go_ret
 exact ⟨rfl, H1.out, H2.out⟩
def padB (bs : List Nat) : List Nat := bs ++ List.replicate (32 - bs.length) 0
theorem padB_len {bs : List Nat} (h : bs.length ≤ 32) : (padB bs).length = 32 := by simp [padB]; omega
def wcells (i : Nat) (ws : List Nat) : List Value := .int .i64 (i : Int) :: cellsB ws
theorem wcells_len (i : Nat) {ws : List Nat} (h : ws.length = 32) : (wcells i ws).length = 33 := by rw [wcells, List.length_cons, cellsB_len, h]
theorem wcells_one (i : Nat) (ws : List Nat) : ∀ u ∈ wcells i ws, u.oneCell' = true := fun u hu => by
 rcases List.mem_cons.1 hu with rfl | hu
 ·rfl
 ·exact cellsB_one ws u hu
theorem drop_zeros (n k : Nat) : (cellsB (List.replicate n 0)).drop k = cellsB (List.replicate (n - k) 0) := by simp [cellsB]
theorem splice_pad (i : Nat) {bs : List Nat} (_h : bs.length ≤ 32) : splice (wcells i (List.replicate 32 0)) 1 (cellsB bs) = wcells i (padB bs) := by
 unfold splice wcells padB
 rw [cellsB_len, Nat.add_comm 1, List.drop_succ_cons, drop_zeros]
 show Value.int .i64 (i : Int) :: (cellsB bs ++ _) = _
 rw [cellsB, cellsB, cellsB, List.map_append]
theorem write_size : (Tryd.prog.info? 68).map (·.size) = some 33 := by kernel_rfl
theorem write_info : (Tryd.prog.info? 68).map (fun i => (i.zero, i.size, i.bytes)) = some (some (.agg (wcells 0 (List.replicate 32 0)).toArray), 33, 40) := by kernel_rfl
end
end Go.Proofs.YtdokojlgcplefaaDoor
