/- Layer 5: lists of records in memory; copies, and whether two lists are the same. -/
import Derived.Test.YtbllilokcalbcaaDoorMHv8
namespace Go.Proofs.YtbllilokcalbcaaDoor
open Go Go.RowKit
/-- bytes in a row of bytes, from block B on -/
def RdU (B : Nat) (w : World) (v : Value) (xs : List Nat) : Prop :=
  ∃ A c, v = .slice A xs.length c ∧ xs.length ≤ c ∧ (0 < xs.length → ∃ g o cs, A = some ⟨g, o, none⟩ ∧ B ≤ g ∧ Blk w g 5 cs ∧ ∀ i, i < xs.length → cs[o + i]? = some (.int .u8 ((xs.getD i 0 : Nat) : Int)))
theorem RdU.rd {B : Nat} {w : World} {v : Value} {xs : List Nat} (h : RdU B w v xs) : Rd w v xs := by
  obtain ⟨A, c, rfl, hc, hA⟩ := h
  refine ⟨A, c, rfl, hc, fun h0 => ?_⟩
  obtain ⟨g, o, cs, e, _, hb, hx⟩ := hA h0
  exact ⟨g, o, e, hb.lt, fun i hi => (hb.cell (o + i)).trans (hx i hi)⟩
theorem RdU.of {B : Nat} {w w' : World} {v : Value} {xs : List Nat} (h : RdU B w v xs) (k : ∀ b cs, Blk w b 5 cs → Blk w' b 5 cs) : RdU B w' v xs := by
  obtain ⟨A, c, rfl, hc, hA⟩ := h
  refine ⟨A, c, rfl, hc, fun h0 => ?_⟩
  obtain ⟨g, o, cs, e, hB, hb, hx⟩ := hA h0
  exact ⟨g, o, cs, e, hB, k _ _ hb, hx⟩
theorem RdU.below {B : Nat} {w w' : World} {v : Value} {xs : List Nat} (h : RdU B w v xs) (hb : Below w.heap.size w w') : RdU B w' v xs := h.of fun _ _ hk => hk.below hb hk.lt
theorem RdU.tfr {B B' : Nat} {w w' : World} {v : Value} {xs : List Nat} (h : RdU B w v xs) (ht : TFr B' w w') : RdU B w' v xs := h.of fun _ _ hk => ht.typed _ _ _ hk (by decide) (by decide)
theorem RdU.mono {B B' : Nat} {w : World} {v : Value} {xs : List Nat} (h : RdU B w v xs) (hB : B' ≤ B) : RdU B' w v xs := by
  obtain ⟨A, c, rfl, hc, hA⟩ := h
  refine ⟨A, c, rfl, hc, fun h0 => ?_⟩
  obtain ⟨g, o, cs, e, hg, hb, hx⟩ := hA h0
  exact ⟨g, o, cs, e, Nat.le_trans hB hg, hb, hx⟩
theorem RdU.one {B : Nat} {w : World} {v : Value} {xs : List Nat} (h : RdU B w v xs) : v.oneCell' = true := by obtain ⟨A, c, rfl, _⟩ := h; rfl
/-- a copy of bytes, anew -/
theorem cloneU_any (v : Value) (xs : List Nat) (w : World) (hv : Rd w v xs) (hz : xs.length ≤ 1099511627776) :
    Calls Tryd.prog 31 #[v] w fun e w' => ∃ A c, e = .returned (.slice A xs.length c) ∧ RdU w.heap.size w' (.slice A xs.length c) xs ∧ Below w.heap.size w w' :=
  (clone_any v xs w hv hz).mono fun e w' ⟨A, c, he, hr, hg, hb⟩ => ⟨A, c, he, by
    obtain ⟨A', c', e1, hc, hA⟩ := hr
    injection e1 with e1 e2 e3
    subst e1 e3
    refine ⟨A, c, rfl, hc, fun h0 => ?_⟩
    obtain ⟨g, cs, eA, hgl, hk⟩ := hg h0
    obtain ⟨b, o, eA2, _, hx⟩ := hA h0
    rw [eA] at eA2
    injection eA2 with eA2
    injection eA2 with eb eo
    subst eb
    subst eo
    exact ⟨g, 0, cs, eA, hgl, hk, fun i hi => (hk.cell (0 + i)).symm.trans (hx i hi)⟩, hb⟩
/-- a list of records, in a row of the log's own -/
structure Recs (B : Nat) (w : World) (v : Value) (us : List Value) (ls : List (List Nat)) : Prop where
  row : w.ownsRow B 39 1 v ls.length us
  each : ∀ i u, us[i]? = some u → RdU B w u (ls.getD i [])
theorem Recs.ulen {B : Nat} {w : World} {v : Value} {us : List Value} {ls : List (List Nat)} (h : Recs B w v us ls) : us.length = ls.length := by have := h.row.1; omega
theorem Recs.of {B : Nat} {w w' : World} {v : Value} {us : List Value} {ls : List (List Nat)} (h : Recs B w v us ls) (k : ∀ b t cs, Blk w b t cs → (t = 39 ∨ t = 5) → Blk w' b t cs) : Recs B w' v us ls := by
  refine ⟨⟨h.row.1, ?_⟩, fun i u hu => (h.each i u hu).of fun b cs hk => k b _ cs hk (Or.inr rfl)⟩
  rcases h.row.2 with hn | ⟨g, cap, cur, rfl, hb, hg, hr⟩
  · exact .inl hn
  · exact .inr ⟨g, cap, cur, rfl, hb, k g _ cur hg (Or.inl rfl), hr⟩
theorem Recs.below {B : Nat} {w w' : World} {v : Value} {us : List Value} {ls : List (List Nat)} (h : Recs B w v us ls) (hb : Below w.heap.size w w') : Recs B w' v us ls := h.of fun _ _ _ hk _ => hk.below hb hk.lt
theorem Recs.tfr {B B' : Nat} {w w' : World} {v : Value} {us : List Value} {ls : List (List Nat)} (h : Recs B w v us ls) (ht : TFr B' w w') : Recs B w' v us ls := h.of fun _ _ _ hk e => ht.typed _ _ _ hk (by rcases e with rfl | rfl <;> decide) (by rcases e with rfl | rfl <;> decide)
/-- a list of lists of bytes, as a slice value that is only read -/
def RdLL (w : World) (v : Value) (vs : List Value) (ls : List (List Nat)) : Prop :=
  ∃ A c, v = .slice A ls.length c ∧ ls.length ≤ c ∧ vs.length = ls.length ∧ (0 < ls.length → ∃ b o, A = some ⟨b, o, none⟩ ∧ b < w.heap.size ∧ ∀ i u, vs[i]? = some u → w.cell? ⟨b, o + i, none⟩ = some u) ∧ ∀ i u, vs[i]? = some u → Rd w u (ls.getD i [])
theorem RdLL.below {w w' : World} {v : Value} {vs : List Value} {ls : List (List Nat)} (h : RdLL w v vs ls) {B : Nat} (hb : Below B w w') (hB : w.heap.size ≤ B) : RdLL w' v vs ls := by
  obtain ⟨A, c, rfl, hc, hl, hA, he⟩ := h
  refine ⟨A, c, rfl, hc, hl, fun h0 => ?_, fun i u hu => (he i u hu).below hb hB⟩
  obtain ⟨b, o, e, hbl, hx⟩ := hA h0
  have := hb.size
  exact ⟨b, o, e, by omega, fun i u hu => (hb.cell (p := ⟨b, o + i, none⟩) (by show b < B; omega)).trans (hx i u hu)⟩
theorem Recs.rdLL {B : Nat} {w : World} {v : Value} {us : List Value} {ls : List (List Nat)} (h : Recs B w v us ls) : RdLL w v us ls := by
  have hu := h.ulen
  have he : ∀ i u, us[i]? = some u → Rd w u (ls.getD i []) := fun i u hi => (h.each i u hi).rd
  rcases h.row.2 with ⟨rfl, h0⟩ | ⟨g, cap, cur, rfl, hb, hg, hn, hm, hs, ht⟩
  · exact ⟨none, 0, by rw [h0], by omega, hu, fun h1 => by omega, he⟩
  · refine ⟨_, cap, rfl, hn, hu, fun _ => ⟨g, 0, rfl, (Array.getElem?_eq_some_iff.1 hg).1, fun i u hi => ?_⟩, he⟩
    rw [Nat.zero_add, cell_of_row _ _ _ _ _ _ hg]
    have hil : i < us.length := (List.getElem?_eq_some_iff.1 hi).1
    have h2 := congrArg (·[i]?) ht
    simp only [List.getElem?_take, if_pos (show i < ls.length * 1 by omega)] at h2
    rw [show cur[i]? = cur.toList[i]? by simp, h2, hi]
theorem Recs.nil (B : Nat) (w : World) : Recs B w (.slice none 0 0) [] [] := ⟨⟨rfl, .inl ⟨rfl, rfl⟩⟩, fun i u hu => by simp at hu⟩
theorem bsl_info5 : (Tryd.prog.info? 39).map (fun i => (i.zero, i.size, i.bytes)) = some (some (.slice none 0 0), 1, 24) := by kernel_rfl
def nilS : Value := .slice none 0 0
def nilsA (n : Nat) : Array Value := (List.replicate n nilS).toArray
set_option maxRecDepth 100000 in
set_option maxHeartbeats 1000000 in
theorem copies_any (v : Value) (vs : List Value) (ls : List (List Nat)) (w : World) (h : RdLL w v vs ls) (hn : ls.length ≤ 100000) (hz : ∀ l ∈ ls, l.length ≤ 100000) :
    Calls Tryd.prog 34 #[v] w fun e w' => ∃ v', e = .returned v' ∧ (∃ us, Recs w.heap.size w' v' us ls) ∧ Below w.heap.size w w' := by
  obtain ⟨n, hnl⟩ : ∃ n, n = ls.length := ⟨_, rfl⟩
  have HLL := Lib.hid h
  obtain ⟨A, c, rfl, hc, hvl, hA, he⟩ := h
  rw [← hnl] at hc hvl hA hn HLL ⊢
  have HNL := Lib.hid hnl
  have HVL := Lib.hid hvl
  have HZ := Lib.hid hz
  have hmk : (Instr.makeSlice 33 (.int .i64 (n : Int)) (.int .i64 (n : Int))).run Tryd.prog w = .ok (.slice (some ⟨w.heap.size, 0, none⟩) n n) (w.alloc (.cells (nilsA n) 39)) := run_makeOne Tryd.underlying33 bsl_info5 rfl n (by omega) (by omega) rfl w
  have HB0 : Hid (Below w.heap.size w (w.alloc (.cells (nilsA n) 39))) := Lib.hid (below_al w _)
  have HK0 : Hid (Blk (w.alloc (.cells (nilsA n) 39)) w.heap.size 39 (nilsA n)) := Lib.hid (Blk.new w _ _)
  have hcap : n ≤ c := hc
  have HA := Lib.hid hA
  clear hA he hnl hvl hz
  go_enter Tryd.func34, Tryd.ntmps34
  go_wp2_with fail
  obtain ⟨wa, hwa⟩ : ∃ wa, wa = w.alloc (.cells (nilsA n) 39) := ⟨_, rfl⟩
  rw [← hwa] at HB0 HK0 ⊢
  clear hwa hmk
  go_loopw [11] (fun j wr => ∃ k : Nat, k ≤ n ∧ j = .int .i64 k ∧ ∃ us : List Value, us.length = k ∧ Hid (Blk wr w.heap.size 39 (us ++ List.replicate (n - k) nilS).toArray) ∧ Hid (∀ i u, us[i]? = some u → RdU (w.heap.size + 1) wr u (ls.getD i [])) ∧ Hid (Below w.heap.size w wr)) (fun j _ => n - (intOf j).toNat)
  case atStart => exact ⟨0, Nat.zero_le _, rfl, [], rfl, HK0, Lib.hid (fun i u hu => by simp at hu), HB0⟩
  case round =>
    obtain ⟨k, hk, rfl, us, hul, HK, HU, HB⟩ := hrel
    by_cases hlt : k < n
    · have i0 : ((k : Nat) : Int) < (n : Int) := by omega
      have i1 : (0 : Int) ≤ ((k : Nat) : Int) := by omega
      obtain ⟨b, o, rfl, hbl, hx⟩ := HA.out (by omega)
      obtain ⟨u, hu⟩ : ∃ u, vs[k]? = some u := ⟨vs[k]'(by rw [HVL.out]; exact hlt), List.getElem?_eq_getElem _⟩
      have p0 : wr.cell? ⟨b, o + k, none⟩ = some u := (HB.out.cell (p := ⟨b, o + k, none⟩) hbl).trans (hx k u hu)
      obtain ⟨A', c', eA, _, _, _, heach⟩ := HLL.out
      have hru := (heach k u hu).below HB.out (Nat.le_refl _)
      have hlk : (ls.getD k []).length ≤ 100000 := by
        have hkl : k < ls.length := by rw [← HNL.out]; exact hlt
        rw [List.getD, List.getElem?_eq_getElem hkl]
        exact HZ.out _ (List.getElem_mem _)
      have CC := cloneU_any u (ls.getD k []) wr hru (by omega)
      have HLT := Lib.hid hlt
      have HUL := Lib.hid hul
      obtain ⟨l, hl⟩ : ∃ l, l = ls.getD k [] := ⟨_, rfl⟩
      rw [← hl] at CC
      have HL := Lib.hid hl
      obtain ⟨Au, cu, rfl⟩ : ∃ A' c', u = .slice A' l.length c' := (by obtain ⟨A, c, e, _⟩ := hru; exact ⟨A, c, by rw [hl]; exact e⟩)
      generalize hll : l.length = ll at CC p0 hu
      have HLL2 := Lib.hid hll
      clear hx hru hlk hl hul hlt hk heach eA hll hu
      go_wp2_with fail
      go_at_call 31
      refine CC.mono ?_
      rintro e w2 ⟨A2, c2, rfl, hr2, hb2⟩
      have HKb := Lib.hid (HK.out.below hb2 HK.out.lt)
      have z2 := HKb.out.frozen k
      have p2 : w2.cell? ⟨w.heap.size, k, none⟩ = some nilS := by rw [HKb.out.cell k, List.getElem?_toArray, List.getElem?_append_right (by rw [HUL.out]; omega), HUL.out, Nat.sub_self, List.getElem?_replicate, if_pos (by have := HLT.out; omega)]
      have HB2 := Lib.hid (below_then HB.out hb2)
      have HK3 : Hid (Blk (w2.setCell ⟨w.heap.size, k, none⟩ (.slice A2 ll c2)) w.heap.size 39 ((us ++ [Value.slice A2 ll c2]) ++ List.replicate (n - (k + 1)) nilS).toArray) := Lib.hid (by
        have h3 := HKb.out.set_ k (.slice A2 ll c2)
        have e3 : ((us ++ List.replicate (n - k) nilS).toArray).setIfInBounds k (.slice A2 ll c2) = ((us ++ [Value.slice A2 ll c2]) ++ List.replicate (n - (k + 1)) nilS).toArray := by
          rw [List.setIfInBounds_toArray, show n - k = (n - (k + 1)) + 1 by have := HLT.out; omega, List.replicate_succ, List.set_append_right _ _ (by rw [HUL.out]; omega), HUL.out, Nat.sub_self]
          simp
        rwa [e3] at h3)
      have HU3 : Hid (∀ i u, (us ++ [Value.slice A2 ll c2])[i]? = some u → RdU (w.heap.size + 1) (w2.setCell ⟨w.heap.size, k, none⟩ (.slice A2 ll c2)) u (ls.getD i [])) := Lib.hid (fun i u hi => by
        have key : ∀ xs, RdU (w.heap.size + 1) w2 u xs → RdU (w.heap.size + 1) (w2.setCell ⟨w.heap.size, k, none⟩ (.slice A2 ll c2)) u xs := fun xs hx => by
          obtain ⟨A, c, rfl, hc, hA⟩ := hx
          refine ⟨A, c, rfl, hc, fun h0 => ?_⟩
          obtain ⟨g, o, cs, e, hB, hb, hy⟩ := hA h0
          exact ⟨g, o, cs, e, hB, hb.far (by show g ≠ w.heap.size; omega) _, hy⟩
        rcases Nat.lt_or_ge i us.length with h4 | h4
        · rw [List.getElem?_append_left h4] at hi
          exact key _ ((HU.out i u hi).below hb2)
        · rw [List.getElem?_append_right h4] at hi
          have h5 : i - us.length < 1 := (List.getElem?_eq_some_iff.1 hi).1
          have h6 : i = k := by rw [← HUL.out]; omega
          rw [show i - us.length = 0 by omega] at hi
          obtain rfl := Option.some.inj hi
          rw [h6, ← HL.out]
          have hB5 : w.heap.size + 1 ≤ wr.heap.size := HK.out.lt
          exact key l (RdU.mono hr2 hB5))
      have HB3 : Hid (Below w.heap.size w (w2.setCell ⟨w.heap.size, k, none⟩ (.slice A2 ll c2))) := Lib.hid (HB2.out.setCell (p := ⟨w.heap.size, k, none⟩) (Nat.le_refl _) _)
      clear hr2 hb2 CC
      go_wp2_with fail
      refine ⟨⟨k + 1, HLT.out, by simp, us ++ [Value.slice A2 ll c2], by rw [List.length_append, HUL.out]; rfl, HK3, HU3, HB3⟩, by have := HLT.out; simp [intOf]; omega⟩
    · obtain rfl : k = n := by omega
      have i0 : ¬ ((k : Nat) : Int) < (k : Int) := by omega
      clear hk hlt
      go_wp2_with fail
      go_ret
      have e0 : (us ++ List.replicate (k - k) nilS).toArray = us.toArray := by simp
      have hk0 := HK.out
      rw [e0] at hk0
      refine ⟨_, rfl, ⟨us, ⟨⟨by have := HNL.out; omega, .inr ⟨w.heap.size, k, us.toArray, by rw [← HNL.out]; rfl, Nat.le_refl _, hk0, Nat.le_of_eq HNL.out.symm, by unfold maxLen; omega, by simp; omega, ?_⟩⟩, fun i u hu => (HU.out i u hu).mono (by omega)⟩⟩, HB.out⟩
      have := HNL.out
      simp only [List.take_of_length_le (show us.length ≤ ls.length * 1 by omega)]
set_option maxRecDepth 100000 in
set_option maxHeartbeats 1000000 in
/-- two lists that are the same -/
theorem sameLists_yes (u v : Value) (us vs : List Value) (ls : List (List Nat)) (w : World) (h1 : RdLL w u us ls) (h2 : RdLL w v vs ls) (hn : ls.length ≤ 100000) :
    Calls Tryd.prog 15 #[u, v] w fun e w' => e = .returned (.bool true) ∧ ∃ m, w' = w.drewN m := by
  obtain ⟨n, hnl⟩ : ∃ n, n = ls.length := ⟨_, rfl⟩
  obtain ⟨A1, c1, rfl, hc1, hl1, hA1, he1⟩ := h1
  obtain ⟨A2, c2, rfl, hc2, hl2, hA2, he2⟩ := h2
  rw [← hnl] at hc1 hl1 hA1 hc2 hl2 hA2 hn ⊢
  have HA1 := Lib.hid hA1
  have HA2 := Lib.hid hA2
  have HE1 := Lib.hid he1
  have HE2 := Lib.hid he2
  have HL1 := Lib.hid hl1
  have HL2 := Lib.hid hl2
  clear hA1 hA2 he1 he2 hl1 hl2 hnl
  go_enter Tryd.func15, Tryd.ntmps15
  go_wp2_with fail
  go_loopw [13] (fun j wr => ∃ k : Nat, k ≤ n ∧ j = .int .i64 k ∧ ∃ m, wr = w.drewN m) (fun j _ => n - (intOf j).toNat)
  case atStart => exact ⟨0, Nat.zero_le _, rfl, 0, rfl⟩
  case round =>
    obtain ⟨k, hk, rfl, m, rfl⟩ := hrel
    by_cases hlt : k < n
    · have i0 : ((k : Nat) : Int) < (n : Int) := by omega
      have i1 : (0 : Int) ≤ ((k : Nat) : Int) := by omega
      obtain ⟨b1, o1, rfl, hb1, hx1⟩ := HA1.out (by omega)
      obtain ⟨b2, o2, rfl, hb2, hx2⟩ := HA2.out (by omega)
      obtain ⟨u1, hu1⟩ : ∃ u, us[k]? = some u := ⟨us[k]'(by rw [HL1.out]; exact hlt), List.getElem?_eq_getElem _⟩
      obtain ⟨u2, hu2⟩ : ∃ u, vs[k]? = some u := ⟨vs[k]'(by rw [HL2.out]; exact hlt), List.getElem?_eq_getElem _⟩
      obtain ⟨wo, hwo⟩ : ∃ wo, wo = w.drewN m := ⟨_, rfl⟩
      have p1 : wo.cell? ⟨b1, o1 + k, none⟩ = some u1 := by rw [hwo]; exact hx1 k u1 hu1
      have p2 : wo.cell? ⟨b2, o2 + k, none⟩ = some u2 := by rw [hwo]; exact hx2 k u2 hu2
      have r1 := HE1.out k u1 hu1
      have r2 := HE2.out k u2 hu2
      obtain ⟨T, hT⟩ : ∃ T, T = textOf (ls.getD k []) := ⟨_, rfl⟩
      have q1 : ∀ q, (convert 39 9 u1).run Tryd.prog (wo.drewN q) = .ok (.string T) (wo.drewN q) := fun q => by rw [hT, hwo]; exact conv_rd (w := (w.drewN m).drewN q) r1
      have q2 : ∀ q, (convert 39 9 u2).run Tryd.prog (wo.drewN q) = .ok (.string T) (wo.drewN q) := fun q => by rw [hT, hwo]; exact conv_rd (w := (w.drewN m).drewN q) r2
      have HLT := Lib.hid hlt
      have HWO : Hid (∀ q, ∃ m', wo.drewN q = w.drewN m') := Lib.hid (fun q => ⟨m + q, by rw [hwo]; simp⟩)
      clear hx1 hx2 r1 r2 hT hu1 hu2 hlt hk hb1 hb2
      rw [← hwo]
      clear hwo
      go_wp2_with fail
      go_quiet (fail)
      go_wp2_with fail
      refine ⟨⟨k + 1, HLT.out, by simp, HWO.out _⟩, by have := HLT.out; simp [intOf]; omega⟩
    · obtain rfl : k = n := by omega
      have i0 : ¬ ((k : Nat) : Int) < (k : Int) := by omega
      clear hk hlt
      go_wp2_with fail
      go_ret
      exact ⟨rfl, _, rfl⟩
end Go.Proofs.YtbllilokcalbcaaDoor
