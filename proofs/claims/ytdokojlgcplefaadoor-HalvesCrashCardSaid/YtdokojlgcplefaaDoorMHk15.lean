/- The law's clash: was a torn record read that begins as the whole one? -/
import Derived.Test.YtdokojlgcplefaaDoorMHk14
import Derived.Test.YtdokojlgcplefaaDoorMHk13
namespace Go.Proofs.YtdokojlgcplefaaDoor
open Go Go.RowKit
theorem Upto.twoH {P : Program} {ops : Array Oper} {Q : Exit → Act → World → Prop} {md : Region.Mode} {S : World → Prop} {b i j : Nat} {oi oj : Oper} {n : Nat} {ls : Array Bool} {a : Act} {w : World} (hr : Region.ready md ops ls = [i, j]) (hi : ops[i]? = some oi) (hj : ops[j]? = some oj) (wi : Region.wanted oi (yielded ops a.tmps) = true) (wj : Region.wanted oj (yielded ops a.tmps) = true)
  (h1 : ∀ K : Act → World → Prop, (∀ a' w', (i ≠ b → ls.getD b true = false → S w') → Upto P md ops Q S b n (ls.setIfInBounds i true) a' w' → K a' w') → oi.wp P a w K Q)
  (h2 : ∀ K : Act → World → Prop, (∀ a' w', (j ≠ b → ls.getD b true = false → S w') → Upto P md ops Q S b n (ls.setIfInBounds j true) a' w' → K a' w') → oj.wp P a w K Q) : Upto P md ops Q S b (n + 1) ls a w := by
 refine ⟨fun h0 => by rw [hr] at h0; simp at h0, fun k hk => ?_⟩
 rw [hr] at hk
 rcases List.mem_cons.1 hk with rfl | hk
 ·unfold wpOp
  simp only [hi, wi, if_true]
  exact Or.inl (h1 (fun a' w' => (k ≠ b → ls.getD b true = false → S w') ∧ Upto P md ops Q S b n (ls.setIfInBounds k true) a' w') fun _ _ hs hh => ⟨hs, hh⟩)
 ·obtain rfl := List.mem_singleton.1 hk
  unfold wpOp
  simp only [hj, wj, if_true]
  exact Or.inl (h2 (fun a' w' => (k ≠ b → ls.getD b true = false → S w') ∧ Upto P md ops Q S b n (ls.setIfInBounds k true) a' w') fun _ _ hs hh => ⟨hs, hh⟩)
theorem RdLL.take {w : World} {A : Option Addr} {n c : Nat} {us : List Value} {ls : List (List Nat)} (h : RdLL w (.slice A n c) us ls) {k : Nat} (hk : k ≤ ls.length) : RdLL w (.slice A k c) (us.take k) (ls.take k) := by
 obtain ⟨A', c', e, hc, hl, hA, hr⟩ := h
 injection e with e1 e2 e3
 subst e1 e3
 have hkl : (ls.take k).length = k := by rw [List.length_take]; omega
 refine ⟨A, c, by rw [hkl], by omega, by rw [List.length_take, List.length_take]; omega, fun h0 => ?_, fun i u hi => ?_⟩
 ·obtain ⟨b, o, h1, h2, h3⟩ := hA (by omega)
  refine ⟨b, o, h1, h2, fun i u hi => h3 i u ?_⟩
  rw [List.getElem?_take] at hi
  split at hi
  ·exact hi
  ·cases hi
 ·rw [List.getElem?_take] at hi
  split at hi
  ·rename_i hik
   have := hr i u hi
   rwa [show (ls.take k).getD i [] = ls.getD i [] by simp only [List.getD, List.getElem?_take, if_pos hik]]
  ·cases hi
theorem RdLL.at_ {w : World} {A : Option Addr} {n c : Nat} {us : List Value} {ls : List (List Nat)} (h : RdLL w (.slice A n c) us ls) {k : Nat} (hk : k < ls.length) : ∃ b o A1 c1, A = some ⟨b, o, none⟩ ∧ b < w.heap.size ∧ w.cell? ⟨b, o + k, none⟩ = some (.slice A1 (ls.getD k []).length c1) ∧ Rd w (.slice A1 (ls.getD k []).length c1) (ls.getD k []) := by
 obtain ⟨A', c', e, hc, hl, hA, hr⟩ := h
 injection e with e1 e2 e3
 subst e1 e3
 obtain ⟨b, o, h1, h2, h3⟩ := hA (by omega)
 obtain ⟨u, hu⟩ : ∃ u, us[k]? = some u := ⟨us[k]'(by omega), List.getElem?_eq_getElem _⟩
 have hR := hr k u hu
 obtain ⟨A1, c1, rfl, _⟩ := id hR
 exact ⟨b, o, A1, c1, h1, h2, h3 k _ hu, hR⟩
theorem RdLL.len {w : World} {A : Option Addr} {n c : Nat} {us : List Value} {ls : List (List Nat)} (h : RdLL w (.slice A n c) us ls) : n = ls.length := by
 obtain ⟨A', c', e, _⟩ := h
 injection e with e1 e2 e3
theorem byte_take {ls : List (List Nat)} (h : ∀ l ∈ ls, Sha.Byte l) (k : Nat) : ∀ l ∈ ls.take k, Sha.Byte l := fun l hl => h l (List.mem_of_mem_take hl)
theorem rd_hi {w : World} {A : Option Addr} {n c : Nat} {xs : List Nat} (h : Rd w (.slice A n c) xs) {k : Nat} (hk : k ≤ xs.length) : Rd w (.slice A k c) (xs.take k) := by
 obtain ⟨A', c', e, hc, hA⟩ := h
 injection e with e1 e2 e3
 subst e1 e3
 have hl : (xs.take k).length = k := by rw [List.length_take]; omega
 refine ⟨A, c, by rw [hl], by omega, fun h0 => ?_⟩
 obtain ⟨b, o, h1, h2, h3⟩ := hA (by omega)
 refine ⟨b, o, h1, h2, fun i hi => ?_⟩
 rw [h3 i (by omega)]
 congr 3
 simp only [List.getD, List.getElem?_take, if_pos (show i < k by omega)]
theorem laidH_byte (n p : Nat) (b : List Nat) : Sha.Byte (laidH n p b) := byte_append (byte_of (Oc.nums_bytes _ _)) (fun j => by
 have h := byte_sub (sum_byte (laidT n p b)) 0 8
 rw [List.drop_zero] at h
 exact h j)
theorem rd_laid {w : World} {A : Option Addr} {m c n p : Nat} {b r : List Nat} (h : Rd w (.slice A m c) (laidH n p b ++ r)) : Rd w (.slice A 10 c) (laidH n p b) ∧ 10 ≤ c := by
 have hl := laidH_len n p b
 have h1 := rd_hi h (k := 10) (by rw [List.length_append, hl]; omega)
 rw [List.take_append_of_le_length (by omega), List.take_of_length_le (by omega)] at h1
 obtain ⟨A', c', e, hc, _⟩ := id h1
 injection e with _ _ e3
 exact ⟨h1, by omega⟩
def ClP (w : World) (got now next : List (List Nat)) (n : Nat) (e : Ending) (w' : World) : Prop :=
 ∃ r, e = .returned (.bool r) ∧ (∀ x b, got = now ++ [x] → next = now ++ [b] → x ≠ b → x.length = b.length → laidH n now.length x = laidH n now.length b → r = true) ∧ Below w.heap.size w w'
set_option maxRecDepth 100000 in
set_option maxHeartbeats 1000000 in
theorem clash_any (A1 A2 A3 : Option Addr) (n1 n2 n3 c1 c2 c3 n : Nat) (us1 us2 us3 : List Value) (got now next : List (List Nat)) (w : World) (h1 : RdLL w (.slice A1 n1 c1) us1 got) (h2 : RdLL w (.slice A2 n2 c2) us2 now) (h3 : RdLL w (.slice A3 n3 c3) us3 next)
  (b1 : ∀ l ∈ got, Sha.Byte l) (b2 : ∀ l ∈ now, Sha.Byte l) (b3 : ∀ l ∈ next, Sha.Byte l) (s1 : ∀ l ∈ got, 1 ≤ l.length ∧ l.length ≤ 3000) (s3 : ∀ l ∈ next, 1 ≤ l.length ∧ l.length ≤ 3000) (hn : n ≤ 4611686018427387903) (k1 : n1 ≤ 1000) (k2 : n2 ≤ 1000) (_k3 : n3 ≤ 1000) :
  Calls Tryd.prog 16 #[.slice A1 n1 c1, .slice A2 n2 c2, .slice A3 n3 c3, .int .i64 (n : Int)] w (ClP w got now next n) := by
 have e1 := h1.len
 have e2 := h2.len
 have e3 := h3.len
 by_cases hA : n1 = n2 + 1
 rotate_left
 ·have HF : Hid (ClP w got now next n (.returned (.bool false)) w) := Lib.hid ⟨false, rfl, fun x b hg _ => absurd (by rw [e1, hg, List.length_append, ← e2]; rfl) hA, Below.refl _ _⟩
  have q1 : ((n1 : Int) != (n2 : Int) + 1) = true := by simp; omega
  have q2 : ((n1 : Int) == (n2 : Int) + 1) = false := by simp; omega
  clear h1 h2 h3 e1 e2 e3 hA b1 b2 b3 s1 s3 hn
  go_enter Tryd.func16, Tryd.ntmps16
  go_wp2_with fail
  go_ret
  exact HF.out
 have q1 : ((n1 : Int) != (n2 : Int) + 1) = false := by simp; omega
 by_cases hB : n3 = n2 + 1
 rotate_left
 ·have HF : Hid (ClP w got now next n (.returned (.bool false)) w) := Lib.hid ⟨false, rfl, fun x b _ hg => absurd (by rw [e3, hg, List.length_append, ← e2]; rfl) hB, Below.refl _ _⟩
  have q2 : ((n3 : Int) != (n2 : Int) + 1) = true := by simp; omega
  clear h1 h2 h3 e1 e2 e3 hA hB b1 b2 b3 s1 s3 hn
  go_enter Tryd.func16, Tryd.ntmps16
  go_wp2_with fail
  go_ret
  exact HF.out
 have q2 : ((n3 : Int) != (n2 : Int) + 1) = false := by simp; omega
 have HL1 := Lib.hid e1
 have HL2 := Lib.hid e2
 have HL3 := Lib.hid e3
 have HA := Lib.hid hA
 have HB := Lib.hid hB
 have hc1 : n2 ≤ c1 := by obtain ⟨A', c', e, hc, _⟩ := h1; injection e with _ x2 x3; omega
 have hc3 : n2 ≤ c3 := by obtain ⟨A', c', e, hc, _⟩ := h3; injection e with _ x2 x3; omega
 have hsl1 : ∀ w, (Instr.sliceAt 33 (.slice A1 n1 c1) none (some (.int .i64 (n2 : Int))) none).run Tryd.prog w = .ok (.slice A1 n2 c1) w := fun w => run_sliceHi Tryd.underlying33 (by kernel_rfl) A1 n1 c1 n2 hc1 rfl w
 have hsl3 : ∀ w, (Instr.sliceAt 33 (.slice A3 n3 c3) none (some (.int .i64 (n2 : Int))) none).run Tryd.prog w = .ok (.slice A3 n2 c3) w := fun w => run_sliceHi Tryd.underlying33 (by kernel_rfl) A3 n3 c3 n2 hc3 rfl w
 have HR1 := Lib.hid h1
 have HR2 := Lib.hid h2
 have HR3 := Lib.hid h3
 have CS1 := sameLists_all _ _ _ _ _ _ w (h1.take (k := n2) (by omega)) h2 (byte_take b1 _) b2 (by rw [List.length_take]; omega) (by omega)
 obtain ⟨r1, hr1⟩ : ∃ r, r = sameLL (got.take n2) now := ⟨_, rfl⟩
 rw [← hr1] at CS1
 have HQ1 := Lib.hid hr1
 have HCS3 : Hid (∀ m, Calls Tryd.prog 13 #[.slice A3 n2 c3, .slice A2 n2 c2] (w.drewN m) (SlPost (w.drewN m) (sameLL (next.take n2) now))) := Lib.hid (fun m => by
  have hb : Below w.heap.size w (w.drewN m) := below_drewN (Below.refl _ _) m
  exact sameLists_all _ _ _ _ _ _ (w.drewN m) ((h3.take (k := n2) (by omega)).below hb (Nat.le_refl _)) (h2.below hb (Nat.le_refl _)) (byte_take b3 _) b2 (by rw [List.length_take]; omega) (by omega))
 have HB1 := Lib.hid b1
 have HB3 := Lib.hid b3
 have HS1 := Lib.hid s1
 have HS3 := Lib.hid s3
 have hk2 : (n2 : Int) ≤ 1000 := by omega
 clear h1 h2 h3 e1 e2 e3 hA hB b1 b2 b3 s1 s3 hr1 hc1 hc3
 go_enter Tryd.func16, Tryd.ntmps16
 go_wp2_with fail
 go_at_call 13
 refine CS1.mono ?_
 rintro e w1 ⟨rfl, m1, rfl⟩
 clear CS1
 rcases hq : r1 with _ | _
 ·have HF : Hid (∀ m, ClP w got now next n (.returned (.bool false)) (w.drewN m)) := Lib.hid (fun m => ⟨false, rfl, fun x b hg _ => by
   have h := HQ1.out.symm.trans hq
   rw [hg, HL2.out, List.take_left] at h
   exact absurd (decide_eq_false_iff_not.1 h) (by simp), below_drewN (Below.refl _ _) m⟩)
  clear hq hsl3
  go_wp2_with fail
  go_ret
  exact HF.out _
 have HQ1T : Hid (got.take n2 = now) := Lib.hid (of_decide_eq_true (HQ1.out.symm.trans hq))
 clear hq hsl1
 obtain ⟨r3, hr3⟩ : ∃ r, r = sameLL (next.take n2) now := ⟨_, rfl⟩
 have HQ3 := Lib.hid hr3
 have CS3 := HCS3.out m1
 rw [← hr3] at CS3
 clear hr3
 go_wp2_with fail
 go_at_call 13
 refine CS3.mono ?_
 rintro e w2 ⟨rfl, m2, rfl⟩
 clear CS3
 rcases hq : r3 with _ | _
 ·have HF : Hid (∀ m, ClP w got now next n (.returned (.bool false)) (w.drewN m)) := Lib.hid (fun m => ⟨false, rfl, fun x b _ hg => by
   have h := HQ3.out.symm.trans hq
   rw [hg, HL2.out, List.take_left] at h
   exact absurd (decide_eq_false_iff_not.1 h) (by simp), below_drewN (Below.refl _ _) m⟩)
  clear hq hsl3
  go_wp2_with fail
  go_ret
  exact HF.out _
 clear hq hsl3
 obtain ⟨w3, hw3⟩ : ∃ w3, w3 = w.drewN (m1 + m2) := ⟨_, rfl⟩
 have HB0 : Hid (Below w.heap.size w w3) := Lib.hid (by rw [hw3]; exact below_drewN (Below.refl _ _) (m1 + m2))
 obtain ⟨g1, o1, B1, d1, rfl, hg1, p1, R1⟩ := (HR1.out.below HB0.out (Nat.le_refl _)).at_ (k := n2) (by have := HL1.out; have := HA.out; omega)
 obtain ⟨g3, o3, B3, d3, rfl, hg3, p3, R3⟩ := (HR3.out.below HB0.out (Nat.le_refl _)).at_ (k := n2) (by have := HL3.out; have := HB.out; omega)
 obtain ⟨x, hx⟩ : ∃ x, x = got.getD n2 [] := ⟨_, rfl⟩
 obtain ⟨y, hy⟩ : ∃ y, y = next.getD n2 [] := ⟨_, rfl⟩
 rw [← hx] at p1 R1
 rw [← hy] at p3 R3
 have HXB : Hid (Sha.Byte x ∧ 1 ≤ x.length ∧ x.length ≤ 3000) := Lib.hid (by
  have hm : x ∈ got := by rw [hx, List.getD_eq_getElem?_getD, List.getElem?_eq_getElem (show n2 < got.length by have := HL1.out; have := HA.out; omega)]; exact List.getElem_mem _
  exact ⟨HB1.out x hm, HS1.out x hm⟩)
 have HYB : Hid (Sha.Byte y ∧ 1 ≤ y.length ∧ y.length ≤ 3000) := Lib.hid (by
  have hm : y ∈ next := by rw [hy, List.getD_eq_getElem?_getD, List.getElem?_eq_getElem (show n2 < next.length by have := HL3.out; have := HB.out; omega)]; exact List.getElem_mem _
  exact ⟨HB3.out y hm, HS3.out y hm⟩)
 have HXY : Hid (∀ (r : Bool) (w' : World), (x ≠ y → x.length = y.length → laidH n n2 x = laidH n n2 y → r = true) → Below w.heap.size w w' → ClP w got now next n (.returned (.bool r)) w') := Lib.hid (fun r w' hr hb => ⟨r, rfl, fun x' y' hgx hgy hne hle hla => by
  have ex : x = x' := by rw [hx, hgx, HL2.out, List.getD_eq_getElem?_getD, List.getElem?_append_right (Nat.le_refl _), Nat.sub_self]; rfl
  have ey : y = y' := by rw [hy, hgy, HL2.out, List.getD_eq_getElem?_getD, List.getElem?_append_right (Nat.le_refl _), Nat.sub_self]; rfl
  subst ex ey
  rw [← HL2.out] at hla
  exact hr hne hle hla, hb⟩)
 have i1 : (n2 : Int) < (n1 : Int) := by have := HA.out; omega
 have i3 : (n2 : Int) < (n3 : Int) := by have := HB.out; omega
 obtain ⟨lx, hlx⟩ : ∃ l, l = x.length := ⟨_, rfl⟩
 obtain ⟨ly, hly⟩ : ∃ l, l = y.length := ⟨_, rfl⟩
 rw [← hlx] at p1 R1
 rw [← hly] at p3 R3
 have HLX := Lib.hid hlx
 have HLY := Lib.hid hly
 have HRX := Lib.hid R1
 have HRY := Lib.hid R3
 clear hx hy hg1 hg3 R1 R3 hlx hly HR1 HR2 HR3 HQ1 HQ3 HCS3 HL1 HL3 HB1 HB3 HS1 HS3
 go_wp2_with (rw [← hw3])
 clear hw3
 go_quiet (fail)
 obtain ⟨w4, hw4⟩ : ∃ w4, w4 = w3.drewN nq := ⟨_, rfl⟩
 have HB4 : Hid (Below w.heap.size w w4) := Lib.hid (by rw [hw4]; exact below_drewN HB0.out _)
 have HX4 : Hid (Rd w4 (.slice B1 lx d1) x) := Lib.hid (by rw [hw4]; exact HRX.out.below (below_drewN (Below.refl _ _) _) (Nat.le_refl _))
 have HY4 : Hid (Rd w4 (.slice B3 ly d3) y) := Lib.hid (by rw [hw4]; exact HRY.out.below (below_drewN (Below.refl _ _) _) (Nat.le_refl _))
 rw [← hw4]
 clear hw4 p1 p3 HRX HRY
 obtain ⟨T1, hT1⟩ : ∃ T, T = textOf x := ⟨_, rfl⟩
 obtain ⟨T2, hT2⟩ : ∃ T, T = textOf y := ⟨_, rfl⟩
 have HCX : Hid (∀ w', Rd w' (.slice B1 lx d1) x → (convert 39 9 (.slice B1 lx d1)).run Tryd.prog w' = .ok (.string T1) w') := Lib.hid (fun w' h => by rw [hT1]; exact conv_rd h)
 have HCY : Hid (∀ w', Rd w' (.slice B3 ly d3) y → (convert 39 9 (.slice B3 ly d3)).run Tryd.prog w' = .ok (.string T2) w') := Lib.hid (fun w' h => by rw [hT2]; exact conv_rd h)
 have hTT : (T1.toList == T2.toList) = (x == y) := by rw [hT1, hT2]; exact textOf_beq HXB.out.1 HYB.out.1
 have hlx3 : (lx : Int) ≤ 3000 := by have := HLX.out; have := HXB.out.2.2; omega
 have hly3 : (ly : Int) ≤ 3000 := by have := HLY.out; have := HYB.out.2.2; omega
 clear hT1 hT2
 by_cases hne : x = y
 ·have t1 : (T1.toList == T2.toList) = true := by rw [hTT, hne]; simp
  have c1 : ∀ q, (convert 39 9 (.slice B1 lx d1)).run Tryd.prog (w4.drewN q) = .ok (.string T1) (w4.drewN q) := fun q => HCX.out _ (HX4.out.below (below_drewN (Below.refl _ _) q) (Nat.le_refl _))
  have c2 : ∀ q, (convert 39 9 (.slice B3 ly d3)).run Tryd.prog (w4.drewN q) = .ok (.string T2) (w4.drewN q) := fun q => HCY.out _ (HY4.out.below (below_drewN (Below.refl _ _) q) (Nat.le_refl _))
  have HF : Hid (∀ m, ClP w got now next n (.returned (.bool false)) (w4.drewN m)) := Lib.hid (fun m => HXY.out false _ (fun h => absurd hne h) (below_drewN HB4.out m))
  clear hTT hne
  go_wp2_with fail
  go_quiet (fail)
  go_wp2_with fail
  go_ret
  exact HF.out _
 have t1 : (T1.toList == T2.toList) = false := by rw [hTT]; simpa using hne
 by_cases hle : lx = ly
 rotate_left
 ·have c1 : ∀ q, (convert 39 9 (.slice B1 lx d1)).run Tryd.prog (w4.drewN q) = .ok (.string T1) (w4.drewN q) := fun q => HCX.out _ (HX4.out.below (below_drewN (Below.refl _ _) q) (Nat.le_refl _))
  have c2 : ∀ q, (convert 39 9 (.slice B3 ly d3)).run Tryd.prog (w4.drewN q) = .ok (.string T2) (w4.drewN q) := fun q => HCY.out _ (HY4.out.below (below_drewN (Below.refl _ _) q) (Nat.le_refl _))
  have t3 : ((lx : Int) == (ly : Int)) = false := by simp; omega
  have HF : Hid (∀ m, ClP w got now next n (.returned (.bool false)) (w4.drewN m)) := Lib.hid (fun m => HXY.out false _ (fun _ h => absurd (by rw [HLX.out, HLY.out, h]) hle) (below_drewN HB4.out m))
  clear hTT hne hle
  go_wp2_with fail
  go_quiet (fail)
  go_wp2_with fail
  go_ret
  exact HF.out _
 subst hle
 have HNE := Lib.hid hne
 have t3 : ((lx : Int) == (lx : Int)) = true := by simp
 have HCL : Hid (∀ w', Rd w' (.slice B1 lx d1) x → Calls Tryd.prog 32 #[.int .i64 (n : Int), .int .i64 (n2 : Int), .slice B1 lx d1] w' (LaidP w' n n2 x)) := Lib.hid (fun w' h => rlaid_any n n2 B1 lx d1 x w' hn (by omega) HLX.out.symm (by rw [HLX.out]; exact HXB.out.2.1) (by rw [HLX.out]; exact HXB.out.2.2) h HXB.out.1)
 have HCM : Hid (∀ w', Rd w' (.slice B3 lx d3) y → Calls Tryd.prog 32 #[.int .i64 (n : Int), .int .i64 (n2 : Int), .slice B3 lx d3] w' (LaidP w' n n2 y)) := Lib.hid (fun w' h => rlaid_any n n2 B3 lx d3 y w' hn (by omega) HLY.out.symm (by rw [HLY.out]; exact HYB.out.2.1) (by rw [HLY.out]; exact HYB.out.2.2) h HYB.out.1)
 have HT1 := Lib.hid t1
 clear hTT hne
 go_wp2_with fail
 obtain ⟨w5, hw5⟩ : ∃ w5, w5 = w4.drew := ⟨_, rfl⟩
 have HB5 : Hid (Below w.heap.size w w5) := Lib.hid (by rw [hw5]; exact below_drewN HB4.out 1)
 have HX5 : Hid (Rd w5 (.slice B1 lx d1) x) := Lib.hid (by rw [hw5]; exact HX4.out.below (below_drewN (Below.refl _ _) 1) (Nat.le_refl _))
 have HY5 : Hid (Rd w5 (.slice B3 lx d3) y) := Lib.hid (by rw [hw5]; exact HY4.out.below (below_drewN (Below.refl _ _) 1) (Nat.le_refl _))
 refine wp_region_upto (S := (fun w' => Rd w' (.slice B1 lx d1) x ∧ Rd w' (.slice B3 lx d3) y)) (b := 27) (by kernel_rfl) ?_
 change Upto _ _ _ _ _ _ _ _ _ w4.drew
 rw [← hw5]
 clear hw5
 refine Upto.takeY (i := 0) (v := ?_) rfl (by kernel_rfl) (by kernel_rfl) (by kernel_rfl) (by kernel_rfl) (fun _ _ _ h => h) (Or.inl ⟨by rfl, ?_⟩) (fun _ => ⟨HX5.out, HY5.out⟩) ?_
 rotate_left
 ·intro w _; go_simp; with_reducible rfl
 try simp only [Act.put, List.getElem_toArray, List.getElem_cons_zero, List.setIfInBounds_toArray, List.set_cons_zero, List.set_cons_succ]
 refine Upto.takeY (i := 2) (v := ?_) rfl (by kernel_rfl) (by kernel_rfl) (by kernel_rfl) (by kernel_rfl) (fun _ _ _ h => h) (Or.inl ⟨by rfl, ?_⟩) (fun _ => ⟨HX5.out, HY5.out⟩) ?_
 rotate_left
 ·intro w _; go_simp; with_reducible rfl
 try simp only [Act.put, List.getElem_toArray, List.getElem_cons_zero, List.getElem_cons_succ, List.setIfInBounds_toArray, List.set_cons_zero, List.set_cons_succ]
 refine Upto.take (i := 1) (v := .string T1) rfl (by kernel_rfl) (by kernel_rfl) (by kernel_rfl) (by kernel_rfl) (fun _ _ _ h => h) (Or.inl ⟨by rfl, ?_⟩) (⟨HX5.out, HY5.out⟩) ?_
 ·intro w' hS; go_simp; rw [HCX.out _ hS.1]; rfl
 try simp only [Act.put, List.getElem_toArray, List.getElem_cons_zero, List.getElem_cons_succ, List.setIfInBounds_toArray, List.set_cons_zero, List.set_cons_succ]
 refine Upto.take (i := 3) (v := .string T2) rfl (by kernel_rfl) (by kernel_rfl) (by kernel_rfl) (by kernel_rfl) (fun _ _ _ h => h) (Or.inl ⟨by rfl, ?_⟩) (⟨HX5.out, HY5.out⟩) ?_
 ·intro w' hS; go_simp; rw [HCY.out _ hS.2]; rfl
 try simp only [Act.put, List.getElem_toArray, List.getElem_cons_zero, List.getElem_cons_succ, List.setIfInBounds_toArray, List.set_cons_zero, List.set_cons_succ]
 refine Upto.takeY (i := 4) (v := .bool true) rfl (by kernel_rfl) (by kernel_rfl) (by kernel_rfl) (by kernel_rfl) (fun _ _ _ h => h) (Or.inl ⟨by rfl, ?_⟩) (fun _ => ⟨HX5.out, HY5.out⟩) ?_
 ·intro w' _; go_simp; first | done | simp [HT1.out]
 try simp only [Act.put, List.getElem_toArray, List.getElem_cons_zero, List.getElem_cons_succ, List.setIfInBounds_toArray, List.set_cons_zero, List.set_cons_succ]
 refine Upto.takeY (i := 5) (v := ?_) rfl (by kernel_rfl) (by kernel_rfl) (by kernel_rfl) (by kernel_rfl) (fun _ _ _ h => h) (Or.inl ⟨by rfl, ?_⟩) (fun _ => ⟨HX5.out, HY5.out⟩) ?_
 rotate_left
 ·intro w _; go_simp; with_reducible rfl
 try simp only [Act.put, List.getElem_toArray, List.getElem_cons_zero, List.getElem_cons_succ, List.setIfInBounds_toArray, List.set_cons_zero, List.set_cons_succ]
 refine Upto.takeY (i := 6) (v := ?_) rfl (by kernel_rfl) (by kernel_rfl) (by kernel_rfl) (by kernel_rfl) (fun _ _ _ h => h) (Or.inl ⟨by rfl, ?_⟩) (fun _ => ⟨HX5.out, HY5.out⟩) ?_
 rotate_left
 ·intro w _; go_simp; with_reducible rfl
 try simp only [Act.put, List.getElem_toArray, List.getElem_cons_zero, List.getElem_cons_succ, List.setIfInBounds_toArray, List.set_cons_zero, List.set_cons_succ]
 refine Upto.takeY (i := 7) (v := ?_) rfl (by kernel_rfl) (by kernel_rfl) (by kernel_rfl) (by kernel_rfl) (fun _ _ _ h => h) (Or.inl ⟨by rfl, ?_⟩) (fun _ => ⟨HX5.out, HY5.out⟩) ?_
 rotate_left
 ·intro w _; go_simp; with_reducible rfl
 try simp only [Act.put, List.getElem_toArray, List.getElem_cons_zero, List.getElem_cons_succ, List.setIfInBounds_toArray, List.set_cons_zero, List.set_cons_succ]
 refine Upto.takeY (i := 8) (v := ?_) rfl (by kernel_rfl) (by kernel_rfl) (by kernel_rfl) (by kernel_rfl) (fun _ _ _ h => h) (Or.inl ⟨by rfl, ?_⟩) (fun _ => ⟨HX5.out, HY5.out⟩) ?_
 rotate_left
 ·intro w _; go_simp; with_reducible rfl
 try simp only [Act.put, List.getElem_toArray, List.getElem_cons_zero, List.getElem_cons_succ, List.setIfInBounds_toArray, List.set_cons_zero, List.set_cons_succ]
 refine Upto.takeY (i := 9) (v := ?_) rfl (by kernel_rfl) (by kernel_rfl) (by kernel_rfl) (by kernel_rfl) (fun _ _ _ h => h) (Or.inl ⟨by rfl, ?_⟩) (fun _ => ⟨HX5.out, HY5.out⟩) ?_
 rotate_left
 ·intro w _; go_simp; with_reducible rfl
 try simp only [Act.put, List.getElem_toArray, List.getElem_cons_zero, List.getElem_cons_succ, List.setIfInBounds_toArray, List.set_cons_zero, List.set_cons_succ]
 refine Upto.takeY (i := 10) (v := .bool true) rfl (by kernel_rfl) (by kernel_rfl) (by kernel_rfl) (by kernel_rfl) (fun _ _ _ h => h) (Or.inl ⟨by rfl, ?_⟩) (fun _ => ⟨HX5.out, HY5.out⟩) ?_
 ·intro w' _; go_simp
 try simp only [Act.put, List.getElem_toArray, List.getElem_cons_zero, List.getElem_cons_succ, List.setIfInBounds_toArray, List.set_cons_zero, List.set_cons_succ]
 refine Upto.takeY (i := 11) (v := .bool true) rfl (by kernel_rfl) (by kernel_rfl) (by kernel_rfl) (by kernel_rfl) (fun _ _ _ h => h) (Or.inl ⟨by rfl, ?_⟩) (fun _ => ⟨HX5.out, HY5.out⟩) ?_
 ·intro w' _; go_simp
 try simp only [Act.put, List.getElem_toArray, List.getElem_cons_zero, List.getElem_cons_succ, List.setIfInBounds_toArray, List.set_cons_zero, List.set_cons_succ]
 refine Upto.takeY (i := 12) (v := ?_) rfl (by kernel_rfl) (by kernel_rfl) (by kernel_rfl) (by kernel_rfl) (fun _ _ _ h => h) (Or.inl ⟨by rfl, ?_⟩) (fun _ => ⟨HX5.out, HY5.out⟩) ?_
 rotate_left
 ·intro w _; go_simp; with_reducible rfl
 try simp only [Act.put, List.getElem_toArray, List.getElem_cons_zero, List.getElem_cons_succ, List.setIfInBounds_toArray, List.set_cons_zero, List.set_cons_succ]
 refine Upto.takeY (i := 13) (v := ?_) rfl (by kernel_rfl) (by kernel_rfl) (by kernel_rfl) (by kernel_rfl) (fun _ _ _ h => h) (Or.inl ⟨by rfl, ?_⟩) (fun _ => ⟨HX5.out, HY5.out⟩) ?_
 rotate_left
 ·intro w _; go_simp; with_reducible rfl
 try simp only [Act.put, List.getElem_toArray, List.getElem_cons_zero, List.getElem_cons_succ, List.setIfInBounds_toArray, List.set_cons_zero, List.set_cons_succ]
 refine Upto.takeY (i := 14) (v := ?_) rfl (by kernel_rfl) (by kernel_rfl) (by kernel_rfl) (by kernel_rfl) (fun _ _ _ h => h) (Or.inl ⟨by rfl, ?_⟩) (fun _ => ⟨HX5.out, HY5.out⟩) ?_
 rotate_left
 ·intro w _; go_simp; with_reducible rfl
 try simp only [Act.put, List.getElem_toArray, List.getElem_cons_zero, List.getElem_cons_succ, List.setIfInBounds_toArray, List.set_cons_zero, List.set_cons_succ]
 refine Upto.takeY (i := 15) (v := ?_) rfl (by kernel_rfl) (by kernel_rfl) (by kernel_rfl) (by kernel_rfl) (fun _ _ _ h => h) (Or.inl ⟨by rfl, ?_⟩) (fun _ => ⟨HX5.out, HY5.out⟩) ?_
 rotate_left
 ·intro w _; go_simp; with_reducible rfl
 try simp only [Act.put, List.getElem_toArray, List.getElem_cons_zero, List.getElem_cons_succ, List.setIfInBounds_toArray, List.set_cons_zero, List.set_cons_succ]
 refine Upto.takeY (i := 19) (v := ?_) rfl (by kernel_rfl) (by kernel_rfl) (by kernel_rfl) (by kernel_rfl) (fun _ _ _ h => h) (Or.inl ⟨by rfl, ?_⟩) (fun _ => ⟨HX5.out, HY5.out⟩) ?_
 rotate_left
 ·intro w _; go_simp; with_reducible rfl
 try simp only [Act.put, List.getElem_toArray, List.getElem_cons_zero, List.getElem_cons_succ, List.setIfInBounds_toArray, List.set_cons_zero, List.set_cons_succ]
 refine Upto.takeY (i := 20) (v := ?_) rfl (by kernel_rfl) (by kernel_rfl) (by kernel_rfl) (by kernel_rfl) (fun _ _ _ h => h) (Or.inl ⟨by rfl, ?_⟩) (fun _ => ⟨HX5.out, HY5.out⟩) ?_
 rotate_left
 ·intro w _; go_simp; with_reducible rfl
 try simp only [Act.put, List.getElem_toArray, List.getElem_cons_zero, List.getElem_cons_succ, List.setIfInBounds_toArray, List.set_cons_zero, List.set_cons_succ]
 refine Upto.takeY (i := 21) (v := ?_) rfl (by kernel_rfl) (by kernel_rfl) (by kernel_rfl) (by kernel_rfl) (fun _ _ _ h => h) (Or.inl ⟨by rfl, ?_⟩) (fun _ => ⟨HX5.out, HY5.out⟩) ?_
 rotate_left
 ·intro w _; go_simp; with_reducible rfl
 try simp only [Act.put, List.getElem_toArray, List.getElem_cons_zero, List.getElem_cons_succ, List.setIfInBounds_toArray, List.set_cons_zero, List.set_cons_succ]
 refine Upto.one (i := 16) (by kernel_rfl) rfl (by rfl) (fun K hK => ?_)
 go_simp
 refine (HCL.out w5 HX5.out).mono ?_
 rintro e w6 ⟨g6, m6, c6, r6, rfl, hm6, hr6, hb6⟩
 have HX6 := Lib.hid (HX5.out.below hb6 (Nat.le_refl _))
 have HY6 := Lib.hid (HY5.out.below hb6 (Nat.le_refl _))
 have HB6 := Lib.hid (below_then HB5.out hb6)
 have HR6 := Lib.hid (rd_laid hr6).1
 have hc6 := (rd_laid hr6).2
 have HC6N := Lib.hid hc6
 obtain ⟨T3, hT3⟩ : ∃ T, T = textOf (laidH n n2 x) := ⟨_, rfl⟩
 have HC6 : Hid (∀ w', Rd w' (.slice (some ⟨g6, 0, none⟩) 10 c6) (laidH n n2 x) → (convert 39 9 (.slice (some ⟨g6, 0, none⟩) 10 c6)).run Tryd.prog w' = .ok (.string T3) w') := Lib.hid (fun w' h => by rw [hT3]; exact conv_rd h)
 have HT3 := Lib.hid hT3
 dsimp only
 refine hK _ _ (fun _ _ => ⟨HX6.out, HY6.out⟩) ?_; clear hK K hr6 hb6 hm6 hc6 hT3
 try simp only [Act.put, List.getElem_toArray, List.getElem_cons_zero, List.getElem_cons_succ, List.setIfInBounds_toArray, List.set_cons_zero, List.set_cons_succ]
 refine Upto.takeY (i := 17) (v := .slice (some ⟨g6, 0, none⟩) 10 c6) rfl (by kernel_rfl) (by kernel_rfl) (by kernel_rfl) (by kernel_rfl) (fun _ _ _ h => h) (Or.inl ⟨by rfl, ?_⟩) (fun _ => ⟨HX6.out, HY6.out⟩) ?_
 ·intro w' _; go_simp; intro h; exact absurd h (by have := HC6N.out; omega)
 try simp only [Act.put, List.getElem_toArray, List.getElem_cons_zero, List.getElem_cons_succ, List.setIfInBounds_toArray, List.set_cons_zero, List.set_cons_succ]
 have HT4 : Hid (∃ T, T = textOf (laidH n n2 y)) := Lib.hid ⟨_, rfl⟩
 refine Upto.twoH (i := 18) (j := 22) (by kernel_rfl) rfl rfl (by rfl) (by rfl) (fun K hK => ?_) (fun K hK => ?_)
 ·have H6 := HX6
  have qc := HC6.out _ HR6.out
  go_simp
  refine hK _ _ (fun _ _ => ⟨HX6.out, HY6.out⟩) ?_; clear hK K qc
  try simp only [Act.put, List.getElem_toArray, List.getElem_cons_zero, List.getElem_cons_succ, List.setIfInBounds_toArray, List.set_cons_zero, List.set_cons_succ]
  refine Upto.one (i := 22) (by kernel_rfl) rfl (by rfl) (fun K hK => ?_)
  go_simp
  refine (HCM.out w6 HY6.out).mono ?_
  rintro e w7 ⟨g7, m7, c7, r7, rfl, hm7, hr7, hb7⟩
  have HX7 := Lib.hid (HX6.out.below hb7 (Nat.le_refl _))
  have HY7 := Lib.hid (HY6.out.below hb7 (Nat.le_refl _))
  have HB7 := Lib.hid (below_then HB6.out hb7)
  have HR67 := Lib.hid (HR6.out.below hb7 (Nat.le_refl _))
  have HR7 := Lib.hid (rd_laid hr7).1
  have HC7N := Lib.hid (rd_laid hr7).2
  dsimp only
  refine hK _ _ (fun _ _ => ⟨HX7.out, HY7.out⟩) ?_; clear hK K hr7 hb7 hm7
  try simp only [Act.put, List.getElem_toArray, List.getElem_cons_zero, List.getElem_cons_succ, List.setIfInBounds_toArray, List.set_cons_zero, List.set_cons_succ]
  refine Upto.takeY (i := 23) (v := .slice (some ⟨g7, 0, none⟩) 10 c7) rfl (by kernel_rfl) (by kernel_rfl) (by kernel_rfl) (by kernel_rfl) (fun _ _ _ h => h) (Or.inl ⟨by rfl, ?_⟩) (fun _ => ⟨HX7.out, HY7.out⟩) ?_
  ·intro w' _; go_simp; intro h; exact absurd h (by have := HC7N.out; omega)
  try simp only [Act.put, List.getElem_toArray, List.getElem_cons_zero, List.getElem_cons_succ, List.setIfInBounds_toArray, List.set_cons_zero, List.set_cons_succ]
  obtain ⟨T4, hT4⟩ := HT4.out
  have HC7 : Hid (∀ w', Rd w' (.slice (some ⟨g7, 0, none⟩) 10 c7) (laidH n n2 y) → (convert 39 9 (.slice (some ⟨g7, 0, none⟩) 10 c7)).run Tryd.prog w' = .ok (.string T4) w') := Lib.hid (fun w' h => by rw [hT4]; exact conv_rd h)
  have HTT : Hid ((T3.toList == T4.toList) = (laidH n n2 x == laidH n n2 y)) := Lib.hid (by rw [HT3.out, hT4]; exact textOf_beq (laidH_byte _ _ _) (laidH_byte _ _ _))
  clear hT4
  refine Upto.one (i := 24) (by kernel_rfl) rfl (by rfl) (fun K hK => ?_)
  have qc := HC7.out _ HR7.out
  go_simp
  refine hK _ _ (fun _ _ => ⟨HX7.out, HY7.out⟩) ?_; clear hK K qc
  try simp only [Act.put, List.getElem_toArray, List.getElem_cons_zero, List.getElem_cons_succ, List.setIfInBounds_toArray, List.set_cons_zero, List.set_cons_succ]
  obtain ⟨rr, hrr⟩ : ∃ rr, rr = (laidH n n2 x == laidH n n2 y) := ⟨_, rfl⟩
  rw [← hrr] at HTT
  have HF : Hid (ClP w got now next n (.returned (.bool rr)) w7) := Lib.hid (HXY.out rr _ (fun _ _ h => by rw [hrr, h]; simp) HB7.out)
  clear hrr
  refine Upto.takeY (i := 25) (v := .bool rr) rfl (by kernel_rfl) (by kernel_rfl) (by kernel_rfl) (by kernel_rfl) (fun _ _ _ h => h) (Or.inl ⟨by rfl, ?_⟩) (fun _ => ⟨HX7.out, HY7.out⟩) ?_
  ·intro w' _; go_simp; first | done | simp [HTT.out]
  try simp only [Act.put, List.getElem_toArray, List.getElem_cons_zero, List.getElem_cons_succ, List.setIfInBounds_toArray, List.set_cons_zero, List.set_cons_succ]
  refine Upto.takeY (i := 26) (v := .bool rr) rfl (by kernel_rfl) (by kernel_rfl) (by kernel_rfl) (by kernel_rfl) (fun _ _ _ h => h) (Or.inl ⟨by rfl, ?_⟩) (fun _ => ⟨HX7.out, HY7.out⟩) ?_
  ·intro w' _; go_simp; first | done | rfl
  try simp only [Act.put, List.getElem_toArray, List.getElem_cons_zero, List.getElem_cons_succ, List.setIfInBounds_toArray, List.set_cons_zero, List.set_cons_succ]
  refine Upto.one (i := 27) (by kernel_rfl) rfl (by rfl) (fun K hK => ?_)
  go_simp
  refine hK _ _ (fun h _ => absurd rfl h) ?_; clear hK K
  try simp only [Act.put, List.getElem_toArray, List.getElem_cons_zero, List.getElem_cons_succ, List.setIfInBounds_toArray, List.set_cons_zero, List.set_cons_succ]
  refine Upto.done (by kernel_rfl) ?_ _
  go_wp2_with fail
  go_ret
  exact HF.out
 ·have H6 := HX6
  go_simp
  refine (HCM.out w6 HY6.out).mono ?_
  rintro e w7 ⟨g7, m7, c7, r7, rfl, hm7, hr7, hb7⟩
  have HX7 := Lib.hid (HX6.out.below hb7 (Nat.le_refl _))
  have HY7 := Lib.hid (HY6.out.below hb7 (Nat.le_refl _))
  have HB7 := Lib.hid (below_then HB6.out hb7)
  have HR67 := Lib.hid (HR6.out.below hb7 (Nat.le_refl _))
  have HR7 := Lib.hid (rd_laid hr7).1
  have HC7N := Lib.hid (rd_laid hr7).2
  dsimp only
  refine hK _ _ (fun _ _ => ⟨HX7.out, HY7.out⟩) ?_; clear hK K hr7 hb7 hm7
  try simp only [Act.put, List.getElem_toArray, List.getElem_cons_zero, List.getElem_cons_succ, List.setIfInBounds_toArray, List.set_cons_zero, List.set_cons_succ]
  refine Upto.takeY (i := 23) (v := .slice (some ⟨g7, 0, none⟩) 10 c7) rfl (by kernel_rfl) (by kernel_rfl) (by kernel_rfl) (by kernel_rfl) (fun _ _ _ h => h) (Or.inl ⟨by rfl, ?_⟩) (fun _ => ⟨HX7.out, HY7.out⟩) ?_
  ·intro w' _; go_simp; intro h; exact absurd h (by have := HC7N.out; omega)
  try simp only [Act.put, List.getElem_toArray, List.getElem_cons_zero, List.getElem_cons_succ, List.setIfInBounds_toArray, List.set_cons_zero, List.set_cons_succ]
  obtain ⟨T4, hT4⟩ := HT4.out
  have HC7 : Hid (∀ w', Rd w' (.slice (some ⟨g7, 0, none⟩) 10 c7) (laidH n n2 y) → (convert 39 9 (.slice (some ⟨g7, 0, none⟩) 10 c7)).run Tryd.prog w' = .ok (.string T4) w') := Lib.hid (fun w' h => by rw [hT4]; exact conv_rd h)
  have HTT : Hid ((T3.toList == T4.toList) = (laidH n n2 x == laidH n n2 y)) := Lib.hid (by rw [HT3.out, hT4]; exact textOf_beq (laidH_byte _ _ _) (laidH_byte _ _ _))
  clear hT4
  refine Upto.twoH (i := 18) (j := 24) (by kernel_rfl) rfl rfl (by rfl) (by rfl) (fun K hK => ?_) (fun K hK => ?_)
  ·have H7 := HX7
   have qc := HC6.out _ HR67.out
   go_simp
   refine hK _ _ (fun _ _ => ⟨HX7.out, HY7.out⟩) ?_; clear hK K qc
   try simp only [Act.put, List.getElem_toArray, List.getElem_cons_zero, List.getElem_cons_succ, List.setIfInBounds_toArray, List.set_cons_zero, List.set_cons_succ]
   refine Upto.one (i := 24) (by kernel_rfl) rfl (by rfl) (fun K hK => ?_)
   have qc := HC7.out _ HR7.out
   go_simp
   refine hK _ _ (fun _ _ => ⟨HX7.out, HY7.out⟩) ?_; clear hK K qc
   try simp only [Act.put, List.getElem_toArray, List.getElem_cons_zero, List.getElem_cons_succ, List.setIfInBounds_toArray, List.set_cons_zero, List.set_cons_succ]
   obtain ⟨rr, hrr⟩ : ∃ rr, rr = (laidH n n2 x == laidH n n2 y) := ⟨_, rfl⟩
   rw [← hrr] at HTT
   have HF : Hid (ClP w got now next n (.returned (.bool rr)) w7) := Lib.hid (HXY.out rr _ (fun _ _ h => by rw [hrr, h]; simp) HB7.out)
   clear hrr
   refine Upto.takeY (i := 25) (v := .bool rr) rfl (by kernel_rfl) (by kernel_rfl) (by kernel_rfl) (by kernel_rfl) (fun _ _ _ h => h) (Or.inl ⟨by rfl, ?_⟩) (fun _ => ⟨HX7.out, HY7.out⟩) ?_
   ·intro w' _; go_simp; first | done | simp [HTT.out]
   try simp only [Act.put, List.getElem_toArray, List.getElem_cons_zero, List.getElem_cons_succ, List.setIfInBounds_toArray, List.set_cons_zero, List.set_cons_succ]
   refine Upto.takeY (i := 26) (v := .bool rr) rfl (by kernel_rfl) (by kernel_rfl) (by kernel_rfl) (by kernel_rfl) (fun _ _ _ h => h) (Or.inl ⟨by rfl, ?_⟩) (fun _ => ⟨HX7.out, HY7.out⟩) ?_
   ·intro w' _; go_simp; first | done | rfl
   try simp only [Act.put, List.getElem_toArray, List.getElem_cons_zero, List.getElem_cons_succ, List.setIfInBounds_toArray, List.set_cons_zero, List.set_cons_succ]
   refine Upto.one (i := 27) (by kernel_rfl) rfl (by rfl) (fun K hK => ?_)
   go_simp
   refine hK _ _ (fun h _ => absurd rfl h) ?_; clear hK K
   try simp only [Act.put, List.getElem_toArray, List.getElem_cons_zero, List.getElem_cons_succ, List.setIfInBounds_toArray, List.set_cons_zero, List.set_cons_succ]
   refine Upto.done (by kernel_rfl) ?_ _
   go_wp2_with fail
   go_ret
   exact HF.out
  ·have H7 := HX7
   have qc := HC7.out _ HR7.out
   go_simp
   refine hK _ _ (fun _ _ => ⟨HX7.out, HY7.out⟩) ?_; clear hK K qc
   try simp only [Act.put, List.getElem_toArray, List.getElem_cons_zero, List.getElem_cons_succ, List.setIfInBounds_toArray, List.set_cons_zero, List.set_cons_succ]
   refine Upto.one (i := 18) (by kernel_rfl) rfl (by rfl) (fun K hK => ?_)
   have qc := HC6.out _ HR67.out
   go_simp
   refine hK _ _ (fun _ _ => ⟨HX7.out, HY7.out⟩) ?_; clear hK K qc
   try simp only [Act.put, List.getElem_toArray, List.getElem_cons_zero, List.getElem_cons_succ, List.setIfInBounds_toArray, List.set_cons_zero, List.set_cons_succ]
   obtain ⟨rr, hrr⟩ : ∃ rr, rr = (laidH n n2 x == laidH n n2 y) := ⟨_, rfl⟩
   rw [← hrr] at HTT
   have HF : Hid (ClP w got now next n (.returned (.bool rr)) w7) := Lib.hid (HXY.out rr _ (fun _ _ h => by rw [hrr, h]; simp) HB7.out)
   clear hrr
   refine Upto.takeY (i := 25) (v := .bool rr) rfl (by kernel_rfl) (by kernel_rfl) (by kernel_rfl) (by kernel_rfl) (fun _ _ _ h => h) (Or.inl ⟨by rfl, ?_⟩) (fun _ => ⟨HX7.out, HY7.out⟩) ?_
   ·intro w' _; go_simp; first | done | simp [HTT.out]
   try simp only [Act.put, List.getElem_toArray, List.getElem_cons_zero, List.getElem_cons_succ, List.setIfInBounds_toArray, List.set_cons_zero, List.set_cons_succ]
   refine Upto.takeY (i := 26) (v := .bool rr) rfl (by kernel_rfl) (by kernel_rfl) (by kernel_rfl) (by kernel_rfl) (fun _ _ _ h => h) (Or.inl ⟨by rfl, ?_⟩) (fun _ => ⟨HX7.out, HY7.out⟩) ?_
   ·intro w' _; go_simp; first | done | rfl
   try simp only [Act.put, List.getElem_toArray, List.getElem_cons_zero, List.getElem_cons_succ, List.setIfInBounds_toArray, List.set_cons_zero, List.set_cons_succ]
   refine Upto.one (i := 27) (by kernel_rfl) rfl (by rfl) (fun K hK => ?_)
   go_simp
   refine hK _ _ (fun h _ => absurd rfl h) ?_; clear hK K
   try simp only [Act.put, List.getElem_toArray, List.getElem_cons_zero, List.getElem_cons_succ, List.setIfInBounds_toArray, List.set_cons_zero, List.set_cons_succ]
   refine Upto.done (by kernel_rfl) ?_ _
   go_wp2_with fail
   go_ret
   exact HF.out
end Go.Proofs.YtdokojlgcplefaaDoor
