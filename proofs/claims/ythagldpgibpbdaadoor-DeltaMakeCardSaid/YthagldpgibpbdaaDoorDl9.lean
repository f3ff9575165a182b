/- delta.longest. -/
import Derived.Test.YthagldpgibpbdaaDoorDl8
namespace Go.Proofs.YthagldpgibpbdaaDoor
open Go Go.RowKit
theorem sl_hi (b o len cap h : Nat) (w : World) (h1 : h ≤ cap) {hi : Int} (eh : hi = h) :
    (Instr.slice 22 (.slice (some ⟨b, o, none⟩) len cap) none (some (.int .i64 hi)) none).run Tryd.prog w = .ok (.slice (some ⟨b, o, none⟩) h cap) w := by
  subst eh
  cases hq : Tryd.prog.info? 5 with
  | none => have h : (Tryd.prog.info? 5).map (·.size) = some 1 := by kernel_rfl
            simp [hq] at h
  | some i =>
    have hs : i.size = 1 := by have h : (Tryd.prog.info? 5).map (·.size) = some 1 := by kernel_rfl
                               simpa [hq] using h
    have hm : ((h : Nat) : Int) ≤ cap := by omega
    simp [Instr.slice, run_underlying Tryd.underlying22, Instr.sliceBounds, run_sliceBound, sizeOf, typeInfo, hq, hm, Addr.add]
theorem sl_any (A : Option Addr) (len cap l : Nat) (h1 : l ≤ len) {lo : Int} (el : lo = l) : ∃ A2, (∀ w, (Instr.slice 22 (.slice A len cap) (some (.int .i64 lo)) none none).run Tryd.prog w = .ok (.slice A2 (len - l) (cap - l)) w) := by
  subst el
  cases hq : Tryd.prog.info? 5 with
  | none => have h : (Tryd.prog.info? 5).map (·.size) = some 1 := by kernel_rfl
            simp [hq] at h
  | some i =>
    have hs : i.size = 1 := by have h : (Tryd.prog.info? 5).map (·.size) = some 1 := by kernel_rfl
                               simpa [hq] using h
    have hn : ((l : Nat) : Int) ≤ len := by omega
    refine ⟨if cap = l then A else A.map (·.add l), fun w => ?_⟩
    cases A <;> by_cases hc : cap = l <;> simp [Instr.slice, run_underlying Tryd.underlying22, Instr.sliceBounds, run_sliceBound, sizeOf, typeInfo, hq, hs, hn, hc]
theorem Rd.cutHi {w : World} {A : Option Addr} {n c : Nat} {xs : List Nat} (h : Rd w (.slice A n c) xs) {k : Nat} (hk : k ≤ xs.length) : Rd w (.slice A k c) (xs.take k) := by
  obtain ⟨A', c', hv, hc, hA⟩ := h
  injection hv with e1 e2 e3
  subst e1 e2 e3
  have hl : (xs.take k).length = k := by rw [List.length_take]; omega
  refine ⟨_, _, by rw [hl], by omega, fun h0 => ?_⟩
  obtain ⟨b, o, ha, hb, hx⟩ := hA (by omega)
  exact ⟨b, o, ha, hb, fun i hi => by rw [hl] at hi; rw [Sha.getD_take hi]; exact hx i (by omega)⟩
theorem Rd.at_ {w : World} {A : Option Addr} {n c : Nat} {xs : List Nat} (h : Rd w (.slice A n c) xs) (h0 : 0 < xs.length) : ∃ b o, A = some ⟨b, o, none⟩ ∧ b < w.heap.size := by
  obtain ⟨_, _, b, o, e, hb, _⟩ := h.blk h0
  exact ⟨b, o, e, hb⟩
theorem map_getD (xs : List Nat) (i : Nat) : (xs.map fun (n : Nat) => (n : Int)).getD i 0 = ((xs.getD i 0 : Nat) : Int) := by
  simp only [List.getD_eq_getElem?_getD, List.getElem?_map]
  cases xs[i]? <;> rfl
theorem index_any (b o n c b2 o2 k c2 : Nat) (xs ys : List Nat) (m : Int) (w : World) (hx : Rd w (.slice (some ⟨b, o, none⟩) n c) xs) (hy : Rd w (.slice (some ⟨b2, o2, none⟩) k c2) ys) (bx : Sha.Byte xs) (by_ : Sha.Byte ys) (hl : xs.length ≤ 1000000) (hk : ys.length ≤ 1000000)
    (hm : w.cell? ⟨22, 0, none⟩ = some (.int .i64 m)) :
    Calls Tryd.prog 33 #[.slice (some ⟨b, o, none⟩) n c, .slice (some ⟨b2, o2, none⟩) k c2] w fun e w' => e = .returned (.int .i64 (Lib.index (xs.map UInt8.ofNat) (ys.map UInt8.ofNat))) ∧ ∃ q, w' = w.drewN q := by
  have cel : ∀ {b o n c : Nat} {xs : List Nat}, Rd w (.slice (some ⟨b, o, none⟩) n c) xs → n = xs.length ∧ xs.length ≤ c ∧ ∀ i, i < n → w.cell? ((⟨b, o, none⟩ : Addr).add i) = some (.int .u8 ((xs.map fun (n : Nat) => (n : Int)).getD i 0)) := fun {b o n c xs} h => by
    obtain ⟨A', c', hv, hc, hA⟩ := h
    injection hv with e1 e2 e3
    subst e2 e3
    refine ⟨rfl, hc, fun i hi => ?_⟩
    obtain ⟨b', o', ha, _, hx⟩ := hA (by omega)
    rw [ha] at e1
    injection e1 with e1
    injection e1 with e4 e5
    subst e4 e5
    rw [Addr.add_mid, hx i hi, map_getD]
  obtain ⟨rfl, hc1, h1⟩ := cel hx
  obtain ⟨rfl, hc2, h2⟩ := cel hy
  rw [← Dl.bytesOf_nats xs, ← Dl.bytesOf_nats ys]
  have rng : ∀ {l : List Nat}, Sha.Byte l → ∀ x ∈ (l.map fun (n : Nat) => (n : Int)), 0 ≤ x ∧ x < 256 := fun {l} hb x hx => by
    obtain ⟨n, hn, rfl⟩ := List.mem_map.1 hx
    have := Dl.mem_byte hb n hn
    omega
  exact Tryd.bytes_Index_at ⟨b, o, none⟩ ⟨b2, o2, none⟩ xs.length c ys.length c2 (xs.map fun (n : Nat) => (n : Int)) (ys.map fun (n : Nat) => (n : Int)) m w (by simp) (by simp) (rng bx) (rng by_) h1 h2 hc1 (by omega) (by omega) hm
theorem longest_short (A : Option Addr) (nb cb : Nat) (B : Option Addr) (nt ct : Nat) (w : World) (h : nt < 4) :
    Calls Tryd.prog 31 #[.slice A nb cb, .slice B nt ct] w fun e w' => e = .returned (.agg #[.int .i64 0, .slice none 0 0, .int .i64 0]) ∧ Below w.heap.size w w' := by
  have h1 : (nt : Int) < 4 := by omega
  clear h
  go_enter Tryd.func31, Tryd.ntmps31
  go_wp2
  refine bodyPost_ret (v := .agg #[.int .i64 0, .slice none 0 0, .int .i64 0]) (by simp [results, Tryd.results31, go_sem]) rfl ⟨rfl, ?_⟩
  exact (((Below.refl _ w).alloc (Nat.le_refl _) _).alloc (by simp) _)
end Go.Proofs.YthagldpgibpbdaaDoor
