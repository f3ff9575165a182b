/- delta.common and delta.longest. -/
import Derived.Test.YtcnedkgadfegbaaDoorMDl6s
import Derived.Test.YtcnedkgadfegbaaDoorMShelf
import Derived.WalkLawsBesides
namespace Go.Proofs.YtcnedkgadfegbaaDoor
open Go Go.RowKit
set_option maxRecDepth 100000 in
set_option maxHeartbeats 1000000 in
theorem common_any (A B : Option Addr) (na ca nb cb : Nat) (xs ys : List Nat) (w : World) (hx : Rd w (.slice A na ca) xs) (hy : Rd w (.slice B nb cb) ys) (hlx : xs.length ≤ 1000000) (hly : ys.length ≤ 1000000) :
    Calls Tryd.prog 74 #[.slice A na ca, .slice B nb cb] w fun e w' => e = .returned (.int .i64 (Dl.cmn xs ys 127 : Nat)) ∧ ∃ m, w' = w.drewN m := by
  have ea : na = xs.length := by obtain ⟨_, _, hv, _⟩ := hx; injection hv
  have eb : nb = ys.length := by obtain ⟨_, _, hv, _⟩ := hy; injection hv
  subst ea eb
  have HX := Lib.hid hx
  have HY := Lib.hid hy
  clear hx hy
  obtain ⟨na, hna⟩ : ∃ na, na = xs.length := ⟨_, rfl⟩
  obtain ⟨nb, hnb⟩ : ∃ nb, nb = ys.length := ⟨_, rfl⟩
  rw [← hna] at HX hlx ⊢
  rw [← hnb] at HY hly ⊢
  have HNA := Lib.hid hna
  have HNB := Lib.hid hnb
  clear hna hnb
  by_cases z1 : na ≤ nb
  · by_cases z2 : na ≤ 127
    · have z3 : (na : Int) ≤ nb := by omega
      have z4 : (na : Int) ≤ 127 := by omega
      go_enter Tryd.func74, Tryd.ntmps74
      go_wp2
      go_loopw [13] (fun i wr => ∃ k m : Nat, k ≤ na ∧ i = .int .i64 k ∧ Hid (xs.take k = ys.take k) ∧ wr = w.drewN m) (fun i _ => na - (intOf i).toNat)
      case atStart => exact ⟨0, 0, Nat.zero_le _, rfl, Lib.hid rfl, rfl⟩
      case round =>
        obtain ⟨k, m, hk, rfl, HT, rfl⟩ := hrel
        by_cases hlt : k < na
        · have l1 : k < na := by omega
          have l2 : k < nb := by omega
          obtain ⟨_, _, b1, o1, rfl, _, g1⟩ := HX.out.blk (by rw [← HNA.out]; omega)
          obtain ⟨_, _, b2, o2, rfl, _, g2⟩ := HY.out.blk (by rw [← HNB.out]; omega)
          have x1 : w.cell? ⟨b1, o1 + k, none⟩ = _ := g1 k (by rw [← HNA.out]; omega)
          have x2 : w.cell? ⟨b2, o2 + k, none⟩ = _ := g2 k (by rw [← HNB.out]; omega)
          have HS := Lib.hid (show xs.getD k 0 = ys.getD k 0 → xs.take (k + 1) = ys.take (k + 1) from fun h => Dl.take_step (by rw [← HNA.out]; omega) (by rw [← HNB.out]; omega) HT.out h)
          have HN := Lib.hid (show xs.getD k 0 ≠ ys.getD k 0 → Dl.cmn xs ys 127 = k from fun h => Dl.cmn_stop (by omega) (by rw [← HNA.out]; omega) (by rw [← HNB.out]; omega) HT.out h)
          generalize xs.getD k 0 = p at x1 HS HN
          generalize ys.getD k 0 = q at x2 HS HN
          clear g1 g2
          have i1 : (0 : Int) ≤ ((k : Nat) : Int) := by omega
          by_cases e : p = q
          · have HE := Lib.hid (HS.out e)
            subst e
            clear HS HN
            go_wp2
            go_quiet (fail)
            go_wp2
            go_roundw
            case rel => exact ⟨k + 1, m + nq, by omega, by go_num, HE, by simp⟩
            case measure => simp [intOf]; omega
          · have HE := Lib.hid (HN.out e)
            have e1 : ((p : Int) != (q : Int)) = true := by simp; omega
            have e2 : ¬ (p : Int) = (q : Int) := by omega
            clear HS HN e
            go_wp2
            go_quiet (fail)
            go_wp2
            go_ret
            exact ⟨by rw [HE.out]; rfl, m + nq, by simp⟩
        · have HE : Hid (Dl.cmn xs ys 127 = na) := Lib.hid (Dl.cmn_full (by rw [← HNA.out, ← HNB.out]; omega) (by rw [← show k = na by omega]; exact HT.out))
          go_wp2
          go_ret
          exact ⟨by rw [HE.out]; rfl, m, rfl⟩
    · have z3 : (na : Int) ≤ nb := by omega
      have z4 : ¬ (na : Int) ≤ 127 := by omega
      have z5 : (127 : Int) ≤ na := by omega
      have z6 : (127 : Int) ≤ nb := by omega
      go_enter Tryd.func74, Tryd.ntmps74
      go_wp2
      go_loopw [13] (fun i wr => ∃ k m : Nat, k ≤ 127 ∧ i = .int .i64 k ∧ Hid (xs.take k = ys.take k) ∧ wr = w.drewN m) (fun i _ => 127 - (intOf i).toNat)
      case atStart => exact ⟨0, 0, Nat.zero_le _, rfl, Lib.hid rfl, rfl⟩
      case round =>
        obtain ⟨k, m, hk, rfl, HT, rfl⟩ := hrel
        by_cases hlt : k < 127
        · have l1 : k < na := by omega
          have l2 : k < nb := by omega
          obtain ⟨_, _, b1, o1, rfl, _, g1⟩ := HX.out.blk (by rw [← HNA.out]; omega)
          obtain ⟨_, _, b2, o2, rfl, _, g2⟩ := HY.out.blk (by rw [← HNB.out]; omega)
          have x1 : w.cell? ⟨b1, o1 + k, none⟩ = _ := g1 k (by rw [← HNA.out]; omega)
          have x2 : w.cell? ⟨b2, o2 + k, none⟩ = _ := g2 k (by rw [← HNB.out]; omega)
          have HS := Lib.hid (show xs.getD k 0 = ys.getD k 0 → xs.take (k + 1) = ys.take (k + 1) from fun h => Dl.take_step (by rw [← HNA.out]; omega) (by rw [← HNB.out]; omega) HT.out h)
          have HN := Lib.hid (show xs.getD k 0 ≠ ys.getD k 0 → Dl.cmn xs ys 127 = k from fun h => Dl.cmn_stop (by omega) (by rw [← HNA.out]; omega) (by rw [← HNB.out]; omega) HT.out h)
          generalize xs.getD k 0 = p at x1 HS HN
          generalize ys.getD k 0 = q at x2 HS HN
          clear g1 g2
          have i1 : (0 : Int) ≤ ((k : Nat) : Int) := by omega
          by_cases e : p = q
          · have HE := Lib.hid (HS.out e)
            subst e
            clear HS HN
            go_wp2
            go_quiet (fail)
            go_wp2
            go_roundw
            case rel => exact ⟨k + 1, m + nq, by omega, by go_num, HE, by simp⟩
            case measure => simp [intOf]; omega
          · have HE := Lib.hid (HN.out e)
            have e1 : ((p : Int) != (q : Int)) = true := by simp; omega
            have e2 : ¬ (p : Int) = (q : Int) := by omega
            clear HS HN e
            go_wp2
            go_quiet (fail)
            go_wp2
            go_ret
            exact ⟨by rw [HE.out]; rfl, m + nq, by simp⟩
        · have HE : Hid (Dl.cmn xs ys 127 = 127) := Lib.hid (Dl.cmn_full (by rw [← HNA.out, ← HNB.out]; omega) (by rw [← show k = 127 by omega]; exact HT.out))
          go_wp2
          go_ret
          exact ⟨by rw [HE.out]; rfl, m, rfl⟩
  · by_cases z2 : nb ≤ 127
    · have z3 : ¬ (na : Int) ≤ nb := by omega
      have z5 : (nb : Int) ≤ na := by omega
      have z4 : (nb : Int) ≤ 127 := by omega
      go_enter Tryd.func74, Tryd.ntmps74
      go_wp2
      go_loopw [13] (fun i wr => ∃ k m : Nat, k ≤ nb ∧ i = .int .i64 k ∧ Hid (xs.take k = ys.take k) ∧ wr = w.drewN m) (fun i _ => nb - (intOf i).toNat)
      case atStart => exact ⟨0, 0, Nat.zero_le _, rfl, Lib.hid rfl, rfl⟩
      case round =>
        obtain ⟨k, m, hk, rfl, HT, rfl⟩ := hrel
        by_cases hlt : k < nb
        · have l1 : k < na := by omega
          have l2 : k < nb := by omega
          obtain ⟨_, _, b1, o1, rfl, _, g1⟩ := HX.out.blk (by rw [← HNA.out]; omega)
          obtain ⟨_, _, b2, o2, rfl, _, g2⟩ := HY.out.blk (by rw [← HNB.out]; omega)
          have x1 : w.cell? ⟨b1, o1 + k, none⟩ = _ := g1 k (by rw [← HNA.out]; omega)
          have x2 : w.cell? ⟨b2, o2 + k, none⟩ = _ := g2 k (by rw [← HNB.out]; omega)
          have HS := Lib.hid (show xs.getD k 0 = ys.getD k 0 → xs.take (k + 1) = ys.take (k + 1) from fun h => Dl.take_step (by rw [← HNA.out]; omega) (by rw [← HNB.out]; omega) HT.out h)
          have HN := Lib.hid (show xs.getD k 0 ≠ ys.getD k 0 → Dl.cmn xs ys 127 = k from fun h => Dl.cmn_stop (by omega) (by rw [← HNA.out]; omega) (by rw [← HNB.out]; omega) HT.out h)
          generalize xs.getD k 0 = p at x1 HS HN
          generalize ys.getD k 0 = q at x2 HS HN
          clear g1 g2
          have i1 : (0 : Int) ≤ ((k : Nat) : Int) := by omega
          by_cases e : p = q
          · have HE := Lib.hid (HS.out e)
            subst e
            clear HS HN
            go_wp2
            go_quiet (fail)
            go_wp2
            go_roundw
            case rel => exact ⟨k + 1, m + nq, by omega, by go_num, HE, by simp⟩
            case measure => simp [intOf]; omega
          · have HE := Lib.hid (HN.out e)
            have e1 : ((p : Int) != (q : Int)) = true := by simp; omega
            have e2 : ¬ (p : Int) = (q : Int) := by omega
            clear HS HN e
            go_wp2
            go_quiet (fail)
            go_wp2
            go_ret
            exact ⟨by rw [HE.out]; rfl, m + nq, by simp⟩
        · have HE : Hid (Dl.cmn xs ys 127 = nb) := Lib.hid (Dl.cmn_full (by rw [← HNA.out, ← HNB.out]; omega) (by rw [← show k = nb by omega]; exact HT.out))
          go_wp2
          go_ret
          exact ⟨by rw [HE.out]; rfl, m, rfl⟩
    · have z3 : ¬ (na : Int) ≤ nb := by omega
      have z4 : ¬ (nb : Int) ≤ 127 := by omega
      have z5 : (nb : Int) ≤ na := by omega
      have z6 : (127 : Int) ≤ nb := by omega
      have z7 : (127 : Int) ≤ na := by omega
      go_enter Tryd.func74, Tryd.ntmps74
      go_wp2
      go_loopw [13] (fun i wr => ∃ k m : Nat, k ≤ 127 ∧ i = .int .i64 k ∧ Hid (xs.take k = ys.take k) ∧ wr = w.drewN m) (fun i _ => 127 - (intOf i).toNat)
      case atStart => exact ⟨0, 0, Nat.zero_le _, rfl, Lib.hid rfl, rfl⟩
      case round =>
        obtain ⟨k, m, hk, rfl, HT, rfl⟩ := hrel
        by_cases hlt : k < 127
        · have l1 : k < na := by omega
          have l2 : k < nb := by omega
          obtain ⟨_, _, b1, o1, rfl, _, g1⟩ := HX.out.blk (by rw [← HNA.out]; omega)
          obtain ⟨_, _, b2, o2, rfl, _, g2⟩ := HY.out.blk (by rw [← HNB.out]; omega)
          have x1 : w.cell? ⟨b1, o1 + k, none⟩ = _ := g1 k (by rw [← HNA.out]; omega)
          have x2 : w.cell? ⟨b2, o2 + k, none⟩ = _ := g2 k (by rw [← HNB.out]; omega)
          have HS := Lib.hid (show xs.getD k 0 = ys.getD k 0 → xs.take (k + 1) = ys.take (k + 1) from fun h => Dl.take_step (by rw [← HNA.out]; omega) (by rw [← HNB.out]; omega) HT.out h)
          have HN := Lib.hid (show xs.getD k 0 ≠ ys.getD k 0 → Dl.cmn xs ys 127 = k from fun h => Dl.cmn_stop (by omega) (by rw [← HNA.out]; omega) (by rw [← HNB.out]; omega) HT.out h)
          generalize xs.getD k 0 = p at x1 HS HN
          generalize ys.getD k 0 = q at x2 HS HN
          clear g1 g2
          have i1 : (0 : Int) ≤ ((k : Nat) : Int) := by omega
          by_cases e : p = q
          · have HE := Lib.hid (HS.out e)
            subst e
            clear HS HN
            go_wp2
            go_quiet (fail)
            go_wp2
            go_roundw
            case rel => exact ⟨k + 1, m + nq, by omega, by go_num, HE, by simp⟩
            case measure => simp [intOf]; omega
          · have HE := Lib.hid (HN.out e)
            have e1 : ((p : Int) != (q : Int)) = true := by simp; omega
            have e2 : ¬ (p : Int) = (q : Int) := by omega
            clear HS HN e
            go_wp2
            go_quiet (fail)
            go_wp2
            go_ret
            exact ⟨by rw [HE.out]; rfl, m + nq, by simp⟩
        · have HE : Hid (Dl.cmn xs ys 127 = 127) := Lib.hid (Dl.cmn_full (by rw [← HNA.out, ← HNB.out]; omega) (by rw [← show k = 127 by omega]; exact HT.out))
          go_wp2
          go_ret
          exact ⟨by rw [HE.out]; rfl, m, rfl⟩
end Go.Proofs.YtcnedkgadfegbaaDoor
/- delta.longest. -/
namespace Go.Proofs.YtcnedkgadfegbaaDoor
open Go Go.RowKit
theorem sl_hi (b o len cap h : Nat) (w : World) (h1 : h ≤ cap) {hi : Int} (eh : hi = h) :
    (Instr.slice 22 (.slice (some ⟨b, o, none⟩) len cap) none (some (.int .i64 hi)) none).run Tryd.prog w = .ok (.slice (some ⟨b, o, none⟩) h cap) w := by
  subst eh
  cases hq : Tryd.prog.info? 5 with
  | none => have h : (Tryd.prog.info? 5).map (·.size) = some 1 := by kernel_rfl
            simp [hq] at h
  | some i =>
    have hs : i.size = 1 := by have h : (Tryd.prog.info? 5).map (·.size) = some 1 := by kernel_rfl
                               simpa [hq] using h
    have hm : ((h : Nat) : Int) ≤ cap := by omega
    simp [Instr.slice, run_underlying Tryd.underlying22, Instr.sliceBounds, run_sliceBound, sizeOf, typeInfo, hq, hm, Addr.add]
theorem sl_any (A : Option Addr) (len cap l : Nat) (h1 : l ≤ len) {lo : Int} (el : lo = l) : ∃ A2, (∀ w, (Instr.slice 22 (.slice A len cap) (some (.int .i64 lo)) none none).run Tryd.prog w = .ok (.slice A2 (len - l) (cap - l)) w) := by
  subst el
  cases hq : Tryd.prog.info? 5 with
  | none => have h : (Tryd.prog.info? 5).map (·.size) = some 1 := by kernel_rfl
            simp [hq] at h
  | some i =>
    have hs : i.size = 1 := by have h : (Tryd.prog.info? 5).map (·.size) = some 1 := by kernel_rfl
                               simpa [hq] using h
    have hn : ((l : Nat) : Int) ≤ len := by omega
    refine ⟨if cap = l then A else A.map (·.add l), fun w => ?_⟩
    cases A <;> by_cases hc : cap = l <;> simp [Instr.slice, run_underlying Tryd.underlying22, Instr.sliceBounds, run_sliceBound, sizeOf, typeInfo, hq, hs, hn, hc]
theorem Rd.at_ {w : World} {A : Option Addr} {n c : Nat} {xs : List Nat} (h : Rd w (.slice A n c) xs) (h0 : 0 < xs.length) : ∃ b o, A = some ⟨b, o, none⟩ ∧ b < w.heap.size := by
  obtain ⟨_, _, b, o, e, hb, _⟩ := h.blk h0
  exact ⟨b, o, e, hb⟩
theorem map_getD (xs : List Nat) (i : Nat) : (xs.map fun (n : Nat) => (n : Int)).getD i 0 = ((xs.getD i 0 : Nat) : Int) := by
  simp only [List.getD_eq_getElem?_getD, List.getElem?_map]
  cases xs[i]? <;> rfl
theorem index_any (b o n c b2 o2 k c2 : Nat) (xs ys : List Nat) (m : Int) (w : World) (hx : Rd w (.slice (some ⟨b, o, none⟩) n c) xs) (hy : Rd w (.slice (some ⟨b2, o2, none⟩) k c2) ys) (bx : Sha.Byte xs) (by_ : Sha.Byte ys) (hl : xs.length ≤ 1000000) (hk : ys.length ≤ 1000000)
    (hm : w.cell? ⟨12, 0, none⟩ = some (.int .i64 m)) :
    Calls Tryd.prog 73 #[.slice (some ⟨b, o, none⟩) n c, .slice (some ⟨b2, o2, none⟩) k c2] w fun e w' => e = .returned (.int .i64 (Lib.index (xs.map UInt8.ofNat) (ys.map UInt8.ofNat))) ∧ ∃ q, w' = w.drewN q := by
  have cel : ∀ {b o n c : Nat} {xs : List Nat}, Rd w (.slice (some ⟨b, o, none⟩) n c) xs → n = xs.length ∧ xs.length ≤ c ∧ ∀ i, i < n → w.cell? ((⟨b, o, none⟩ : Addr).add i) = some (.int .u8 ((xs.map fun (n : Nat) => (n : Int)).getD i 0)) := fun {b o n c xs} h => by
    obtain ⟨A', c', hv, hc, hA⟩ := h
    injection hv with e1 e2 e3
    subst e2 e3
    refine ⟨rfl, hc, fun i hi => ?_⟩
    obtain ⟨b', o', ha, _, hx⟩ := hA (by omega)
    rw [ha] at e1
    injection e1 with e1
    injection e1 with e4 e5
    subst e4 e5
    rw [Addr.add_mid, hx i hi, map_getD]
  obtain ⟨rfl, hc1, h1⟩ := cel hx
  obtain ⟨rfl, hc2, h2⟩ := cel hy
  rw [← Dl.bytesOf_nats xs, ← Dl.bytesOf_nats ys]
  have rng : ∀ {l : List Nat}, Sha.Byte l → ∀ x ∈ (l.map fun (n : Nat) => (n : Int)), 0 ≤ x ∧ x < 256 := fun {l} hb x hx => by
    obtain ⟨n, hn, rfl⟩ := List.mem_map.1 hx
    have := Dl.mem_byte hb n hn
    omega
  exact Tryd.bytes_Index_at ⟨b, o, none⟩ ⟨b2, o2, none⟩ xs.length c ys.length c2 (xs.map fun (n : Nat) => (n : Int)) (ys.map fun (n : Nat) => (n : Int)) m w (by simp) (by simp) (rng bx) (rng by_) h1 h2 hc1 (by omega) (by omega) hm
theorem longest_short (A : Option Addr) (nb cb : Nat) (B : Option Addr) (nt ct : Nat) (w : World) (h : nt < 4) :
    Calls Tryd.prog 66 #[.slice A nb cb, .slice B nt ct] w fun e w' => e = .returned (.agg #[.int .i64 0, .slice none 0 0, .int .i64 0]) ∧ Below w.heap.size w w' := by
  have h1 : (nt : Int) < 4 := by omega
  clear h
  go_enter Tryd.func66, Tryd.ntmps66
  go_wp2
  refine bodyPost_ret (v := .agg #[.int .i64 0, .slice none 0 0, .int .i64 0]) (by simp [results, Tryd.results66, go_sem]) rfl ⟨rfl, ?_⟩
  exact (((Below.refl _ w).alloc (Nat.le_refl _) _).alloc (by simp) _)
end Go.Proofs.YtcnedkgadfegbaaDoor
