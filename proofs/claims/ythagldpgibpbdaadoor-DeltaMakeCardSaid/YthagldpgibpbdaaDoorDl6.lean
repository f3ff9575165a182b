/- delta.Apply's first answers; the whole of it. -/
import Derived.Test.YthagldpgibpbdaaDoorDl5
namespace Go.Proofs.YthagldpgibpbdaaDoor
open Go Go.RowKit Go.Shelf
attribute [local go_sem] Oper.semAt_some
set_option maxRecDepth 100000 in
set_option maxHeartbeats 1000000 in
theorem dapply_short (Ab A : Option Addr) (nb cb c : Nat) (_base d : List Nat) (ea : Nat → Addr) (w : World) (hS : ASents w ea) (h4 : d.length < 4) :
    Calls Tryd.prog 9 #[.slice Ab nb cb, .slice A d.length c] w (ApplyPost (.err 1) ea w) := by
  have SZ : ∀ w', Below w.heap.size w w' → Calls Tryd.prog 15 #[.slice A d.length c] w' fun e w'' => e = .returned (.tuple #[.int .i64 0, .int .i64 0, ev (ea 1)]) ∧ ∃ m, w'' = w'.drewN m := fun w' hw =>
    sizes_short A c d (ea 1) w' h4 ((hS 1 (by omega)).below hw (Nat.le_refl _)).var
  clear h4 hS
  refine (callsIn_wide (n := 4)).1 ?_
  refine callsIn_of_wp Tryd.func9 rfl trivial ?_ rfl
  simp only [Tryd.ntmps9, List.size_toArray, List.length_cons, List.length_nil, Nat.reduceAdd, Nat.reduceSub, Array.replicate_succ, Array.replicate_zero, List.push_toArray, List.append_toArray, List.nil_append, List.cons_append]
  gi_wp2_with (refine ⟨trivial, ?_⟩; gi_at_call 15; refine (callsIn_wide.2 (SZ _ ?_)).mono ?_; exact ((((Below.refl _ w).alloc (Nat.le_refl _) _).alloc (by simp) _).alloc (by simp; omega) _); rintro e w' ⟨rfl, m, rfl⟩)
  refine bodyPost_ret (v := .tuple #[.slice none 0 0, ev (ea 1)]) (by simp [results, Tryd.results9, go_sem]) rfl ⟨rfl, ?_⟩
  exact (((below_drewN ((((Below.refl _ w).alloc (Nat.le_refl _) _).alloc (by simp) _).alloc (by simp; omega) _) m).setCell (p := ⟨w.heap.size + 1, 0, none⟩) (Nat.le_add_right _ _) _).setCell (p := ⟨w.heap.size + 1 + 1, 0, none⟩) (by show w.heap.size ≤ w.heap.size + 1 + 1; omega) _).alloc (by simp; omega) _
set_option maxRecDepth 100000 in
set_option maxHeartbeats 1000000 in
theorem dapply_state (Ab A : Option Addr) (nb cb n c : Nat) (d : List Nat) (ea : Nat → Addr) (w : World) (hD : Rd w (.slice A n c) d) (hb : Sha.Byte d) (hS : ASents w ea) (h4 : 4 ≤ d.length) (hst : Dl.two d 0 ≠ nb) :
    Calls Tryd.prog 9 #[.slice Ab nb cb, .slice A n c] w (ApplyPost (.err 18) ea w) := by
  have SZ : ∀ w', Below w.heap.size w w' → Calls Tryd.prog 15 #[.slice A n c] w' fun e w'' => e = .returned (.tuple #[.int .i64 (Dl.two d 0 : Nat), .int .i64 (Dl.two d 2 : Nat), .nilIface]) ∧ ∃ m, w'' = w'.drewN m := fun w' hw => sizes_any A n c d w' (hD.below hw (Nat.le_refl _)) hb h4
  have hG := (hS 18 (by omega)).lt
  have cE : ∀ w', Below w.heap.size w w' → w'.cell? ⟨0, 0, none⟩ = some (ev (ea 18)) := fun w' hw => ((hS 18 (by omega)).below hw (Nat.le_refl _)).var
  have lE : 0 < w.heap.size := hG
  have hm : Tryd.prog.follows .mixedOrders = true := by kernel_rfl
  have b0 : ((Dl.two d 0 : Nat) : Int) ≠ (nb : Int) := by omega
  have b1 : (((Dl.two d 0 : Nat) : Int) != (nb : Int)) = true := by simp; omega
  clear hst
  clear h4 hS hD hb hG
  refine (callsIn_wide (n := 4)).1 ?_
  refine callsIn_of_wp Tryd.func9 rfl trivial ?_ rfl
  simp only [Tryd.ntmps9, List.size_toArray, List.length_cons, List.length_nil, Nat.reduceAdd, Nat.reduceSub, Array.replicate_succ, Array.replicate_zero, List.push_toArray, List.append_toArray, List.nil_append, List.cons_append]
  gi_wp2_with (refine ⟨trivial, ?_⟩; gi_at_call 15; refine (callsIn_wide.2 (SZ _ ?_)).mono ?_; exact ((((Below.refl _ w).alloc (Nat.le_refl _) _).alloc (by simp) _).alloc (by simp; omega) _); rintro e w' ⟨rfl, m, rfl⟩)
  have hb3 := below_drewN ((((Below.refl _ w).alloc (Nat.le_refl _) (.cells #[.slice Ab nb cb] 22)).alloc (by simp) (.cells #[.slice none 0 0] 22)).alloc (by simp; omega) (.cells #[.nilIface] 26)) m
  have c3 := cE _ hb3
  gi_region_with_o (fail)
  all_goals gi_wp2
  all_goals
    refine bodyPost_ret (v := .tuple #[.slice none 0 0, ev (ea 18)]) (by simp [results, Tryd.results9, go_sem]) rfl ⟨rfl, ?_⟩
    exact below_drewN (((hb3.setCell (p := ⟨w.heap.size + 1, 0, none⟩) (Nat.le_add_right _ _) _).setCell (p := ⟨w.heap.size + 1 + 1, 0, none⟩) (by show w.heap.size ≤ w.heap.size + 1 + 1; omega) _).alloc (by simp; omega) _) 1
set_option maxRecDepth 100000 in
set_option maxHeartbeats 1000000 in
theorem dapply_large (Ab A : Option Addr) (nb cb n c : Nat) (d : List Nat) (ea : Nat → Addr) (w : World) (hD : Rd w (.slice A n c) d) (hb : Sha.Byte d) (hS : ASents w ea) (h4 : 4 ≤ d.length) (hst : Dl.two d 0 = nb) (hlg : 300 < Dl.two d 2) :
    Calls Tryd.prog 9 #[.slice Ab nb cb, .slice A n c] w (ApplyPost (.err 12) ea w) := by
  have SZ : ∀ w', Below w.heap.size w w' → Calls Tryd.prog 15 #[.slice A n c] w' fun e w'' => e = .returned (.tuple #[.int .i64 (Dl.two d 0 : Nat), .int .i64 (Dl.two d 2 : Nat), .nilIface]) ∧ ∃ m, w'' = w'.drewN m := fun w' hw => sizes_any A n c d w' (hD.below hw (Nat.le_refl _)) hb h4
  have hG := (hS 12 (by omega)).lt
  have cE : ∀ w', Below w.heap.size w w' → w'.cell? ⟨1, 0, none⟩ = some (ev (ea 12)) := fun w' hw => ((hS 12 (by omega)).below hw (Nat.le_refl _)).var
  have lE : 1 < w.heap.size := hG
  have hm : Tryd.prog.follows .mixedOrders = true := by kernel_rfl
  rw [hst] at SZ
  have b1 : decide ((300 : Int) < ((Dl.two d 2 : Nat) : Int)) = true := by simp; omega
  have b2 : (300 : Int) < ((Dl.two d 2 : Nat) : Int) := by omega
  clear hst hlg
  clear h4 hS hD hb hG
  refine (callsIn_wide (n := 4)).1 ?_
  refine callsIn_of_wp Tryd.func9 rfl trivial ?_ rfl
  simp only [Tryd.ntmps9, List.size_toArray, List.length_cons, List.length_nil, Nat.reduceAdd, Nat.reduceSub, Array.replicate_succ, Array.replicate_zero, List.push_toArray, List.append_toArray, List.nil_append, List.cons_append]
  gi_wp2_with (refine ⟨trivial, ?_⟩; gi_at_call 15; refine (callsIn_wide.2 (SZ _ ?_)).mono ?_; exact ((((Below.refl _ w).alloc (Nat.le_refl _) _).alloc (by simp) _).alloc (by simp; omega) _); rintro e w' ⟨rfl, m, rfl⟩)
  have hb3 := below_drewN ((((Below.refl _ w).alloc (Nat.le_refl _) (.cells #[.slice Ab nb cb] 22)).alloc (by simp) (.cells #[.slice none 0 0] 22)).alloc (by simp; omega) (.cells #[.nilIface] 26)) m
  have c3 := cE _ hb3
  gi_region_with_o (fail)
  all_goals gi_wp2
  all_goals
    refine bodyPost_ret (v := .tuple #[.slice none 0 0, ev (ea 12)]) (by simp [results, Tryd.results9, go_sem]) rfl ⟨rfl, ?_⟩
    exact below_drewN (((hb3.setCell (p := ⟨w.heap.size + 1, 0, none⟩) (Nat.le_add_right _ _) _).setCell (p := ⟨w.heap.size + 1 + 1, 0, none⟩) (by show w.heap.size ≤ w.heap.size + 1 + 1; omega) _).alloc (by simp; omega) _) 1
theorem dapply (Ab A : Option Addr) (nb cb n c : Nat) (base d : List Nat) (ea : Nat → Addr) (w : World) (hB : Rd w (.slice Ab nb cb) base) (hD : Rd w (.slice A n c) d) (hb : Sha.Byte d) (hS : ASents w ea) :
    Calls Tryd.prog 9 #[.slice Ab nb cb, .slice A n c] w (ApplyPost (Dl.applyP base d) ea w) := by
  have en : n = d.length := by obtain ⟨_, _, hv, _⟩ := hD; injection hv
  have eb : nb = base.length := by obtain ⟨_, _, hv, _⟩ := hB; injection hv
  unfold Dl.applyP
  split
  · rename_i h4
    rw [en]
    exact dapply_short Ab A nb cb c base d ea w hS h4
  · rename_i h4
    split
    · rename_i hst
      exact dapply_state Ab A nb cb n c d ea w hD hb hS (by omega) (by rw [eb]; exact hst)
    · rename_i hst
      split
      · rename_i hlg
        exact dapply_large Ab A nb cb n c d ea w hD hb hS (by omega) (by rw [eb]; exact Classical.not_not.1 hst) hlg
      · rename_i hlg
        exact dapply_any Ab A nb cb n c base d ea w hB hD hb hS (by omega) (Classical.not_not.1 hst) (by omega)
end Go.Proofs.YthagldpgibpbdaaDoor
