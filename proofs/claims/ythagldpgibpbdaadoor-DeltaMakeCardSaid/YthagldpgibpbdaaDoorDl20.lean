/- The document's own words of layer 7: numbers of two bytes. -/
import Derived.Test.YthagldpgibpbdaaDoorDl18
namespace Go.Proofs.YthagldpgibpbdaaDoor
open Go Go.RowKit Go.Shelf
theorem rtwo_any (A : Option Addr) (n c : Nat) (xs : List Nat) (w : World) (h : Rd w (.slice A n c) xs) (hb : Sha.Byte xs) (h2 : 2 ≤ xs.length) :
    Calls Tryd.prog 19 #[.slice A n c] w fun e w' => e = .returned (.int .i64 (Dl.two xs 0 : Nat)) ∧ ∃ m, w' = w.drewN m := by
  obtain ⟨A', c', hv, hc, hA⟩ := h
  injection hv with e1 e2 e3
  subst e1 e3
  obtain rfl := e2
  obtain ⟨b, o, rfl, _, hx⟩ := hA (by omega)
  have x0 : w.cell? ⟨b, o, none⟩ = _ := hx 0 (by omega)
  have x1 := hx 1 (by omega)
  have i0 : 0 < xs.length := by omega
  have j0 : 1 < xs.length := by omega
  have p1 := hb 0
  have q1 := hb 1
  have HE : Hid (((xs.getD 0 0 : Nat) : Int) * 256 + ((xs.getD 1 0 : Nat) : Int) = (Dl.two xs 0 : Nat)) := Lib.hid (by show _ = (((xs.getD 0 0) * 256 + xs.getD 1 0 : Nat) : Int); omega)
  obtain ⟨r, hr⟩ : ∃ r, r = Dl.two xs 0 := ⟨_, rfl⟩
  rw [← hr] at HE ⊢
  clear hr hb
  generalize xs.getD 0 0 = p at x0 p1 HE
  generalize xs.getD 1 0 = q at x1 q1 HE
  generalize hn : xs.length = n at *
  obtain ⟨r1, hr1⟩ : ∃ r1, r1 = p * 256 := ⟨_, rfl⟩
  have v1 : wrap64 (p : Int) = (p : Int) := IntWalk.wrap64_in _ (by omega)
  have v2 : wrap64 (q : Int) = (q : Int) := IntWalk.wrap64_in _ (by omega)
  have u1 : wrap64 ((p : Int) * 256) = (r1 : Int) := by rw [hr1]; exact (IntWalk.wrap64_in _ (by omega)).trans (by omega)
  have u2 : wrap64 ((r1 : Int) + (q : Int)) = (r : Int) := by rw [← HE.out, hr1]; exact (IntWalk.wrap64_in _ (by omega)).trans (by omega)
  clear hr1 p1 q1 HE
  clear hx hA
  go_enter Tryd.func19, Tryd.ntmps19
  go_wp2
  go_quiet (fail)
  go_wp2
  go_ret
  exact ⟨by simp [v1, v2, u1, u2, Array.getD], _, rfl⟩
end Go.Proofs.YthagldpgibpbdaaDoor
