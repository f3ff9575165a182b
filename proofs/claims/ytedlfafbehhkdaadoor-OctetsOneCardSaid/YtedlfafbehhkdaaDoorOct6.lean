/- The document's comparison of two rows of fields (cartageref02.Same). -/
import Derived.Test.YtedlfafbehhkdaaDoorOct5
namespace Go.Proofs.YtedlfafbehhkdaaDoor
open Go Go.RowKit
/-- What a field says: its number and its bytes. -/
def Fld.says (f : Fld) : Int × List Nat := (f.n, f.bs)
set_option maxHeartbeats 400000 in
theorem same_any (b1 o1 c1 b2 o2 c2 : Nat) (A1 A2 : Option Addr) (fs gs : List Fld) (w : World) (hA1 : 0 < fs.length → A1 = some ⟨b1, o1, none⟩) (hA2 : 0 < fs.length → A2 = some ⟨b2, o2, none⟩) (h1 : FRow w b1 o1 fs) (h2 : FRow w b2 o2 gs) (he : fs.map Fld.says = gs.map Fld.says) (hz : fs.length ≤ 1000) :
    Calls Tryd.prog 13 #[.slice A1 fs.length c1, .slice A2 fs.length c2] w fun e w' => e = .returned (.bool true) ∧ ∃ m, w' = w.drewN m := by
  have hgl : gs.length = fs.length := by simpa using (congrArg List.length he).symm
  go_enter Tryd.func13, Tryd.ntmps13
  go_wp2
  go_loopw [13] (fun i wr => ∃ k n : Nat, k ≤ fs.length ∧ i = .int .i64 k ∧ wr = w.drewN n) (fun i _ => fs.length - (intOf i).toNat)
  case atStart => exact ⟨0, 0, Nat.zero_le _, rfl, rfl⟩
  case round =>
    obtain ⟨k, n, hk, rfl, rfl⟩ := hrel
    by_cases hlt : k < fs.length
    · obtain rfl := hA1 (by omega)
      obtain rfl := hA2 (by omega)
      have hlt2 : k < gs.length := by omega
      have p1 : w.cell? ⟨b1, o1 + k * 2, none⟩ = some (.int .i64 fs[k].n) := by rw [Nat.mul_comm]; exact h1.n k hlt
      have p2 : w.cell? ⟨b1, o1 + k * 2 + 1, none⟩ = some (.slice fs[k].A fs[k].l fs[k].c) := by rw [Nat.mul_comm]; exact h1.s k hlt
      have p3 : w.cell? ⟨b2, o2 + k * 2, none⟩ = some (.int .i64 gs[k].n) := by rw [Nat.mul_comm]; exact h2.n k hlt2
      have p4 : w.cell? ⟨b2, o2 + k * 2 + 1, none⟩ = some (.slice gs[k].A gs[k].l gs[k].c) := by rw [Nat.mul_comm]; exact h2.s k hlt2
      have e1 : fs[k].says = gs[k].says := by
        have h := congrArg (·[k]?) he
        simpa [hlt, hlt2] using h
      have r1 := (h1.r fs[k] (List.getElem_mem _)).1
      have r2 := (h2.r gs[k] (List.getElem_mem _)).1
      generalize fs[k] = f at p1 p2 e1 r1
      generalize gs[k] = g at p3 p4 e1 r2
      obtain ⟨fn, fA, fl, fc, fb⟩ := f
      obtain ⟨gn, gA, gl, gc, gb⟩ := g
      obtain ⟨rfl, rfl⟩ := Prod.mk.inj e1
      dsimp only at p1 p2 p3 p4 r1 r2
      have q1 : ∀ m, (convert 24 9 (.slice fA fl fc)).run Tryd.prog (w.drewN m) = .ok (.string (textOf fb)) (w.drewN m) := fun m => conv_rd (w := w.drewN m) r1
      have q2 : ∀ m, (convert 24 9 (.slice gA gl gc)).run Tryd.prog (w.drewN m) = .ok (.string (textOf fb)) (w.drewN m) := fun m => conv_rd (w := w.drewN m) r2
      clear r1 r2 e1 he h1 h2 hA1 hA2
      have i0 : ((k : Nat) : Int) < fs.length := by omega
      have i1 : (0 : Int) ≤ ((k : Nat) : Int) := by omega
      have b0 : ((fn : Int) != fn) = false := by simp
      go_wp2
      go_quiet (fail)
      go_wp2
      go_roundw
      case rel => exact ⟨k + 1, n + nq, by omega, by go_num, by simp⟩
      case measure => simp [intOf]; omega
    · go_wp2
      go_ret
      exact ⟨rfl, n, rfl⟩
end Go.Proofs.YtedlfafbehhkdaaDoor
