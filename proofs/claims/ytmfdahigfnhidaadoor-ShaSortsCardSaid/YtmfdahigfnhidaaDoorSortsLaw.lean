/- The walk of the law ShaSorts. -/
import Derived.Test.YtmfdahigfnhidaaDoorSort
import Derived.Test.YtmfdahigfnhidaaDoorShaAlive
namespace Go.Proofs.YtmfdahigfnhidaaDoor.lawSorts
open Go Go.RowKit Go.Sort
set_option maxRecDepth 100000 in
theorem sort_len (v : Value) (l : List (List Nat)) (w : World) (hv : RdO w v l) (hl : Sha.Oids l) (hz : l.length < 1073741824) :
    Calls Tryd.prog 25 #[v] w fun e w' => ∃ r, Sorted w l r e w' ∧ r.length ≤ l.length := by
  obtain ⟨A, c, rfl, hc, hA⟩ := hv
  obtain ⟨i0, hi0, hiz, his, hib⟩ := info_parts oid_all
  have hmk : ∀ w' : World, (Instr.makeSlice 46 (.int .i64 (l.length : Nat)) (.int .i64 (l.length : Nat))).run Tryd.prog w' = .ok (.slice (some ⟨w'.heap.size, 0, none⟩) l.length l.length) (w'.alloc (.cells (madeCells (Value.agg (u8s (List.replicate 32 0))).cells (l.length * 32)) 27)) := fun w' => by
    have h := run_make (P := Tryd.prog) w' 46 27 i0 _ Tryd.underlying46 hi0 hiz .i64 .i64 (l.length : Nat) (l.length : Nat) (by omega) (Int.le_refl _) (by rw [hib]; omega) (by omega)
    rw [Int.toNat_natCast, his] at h
    exact h
  obtain ⟨made, hmade⟩ : ∃ made, made = madeCells (Value.agg (u8s (List.replicate 32 0))).cells (l.length * 32) := ⟨_, rfl⟩
  rw [← hmade] at hmk
  have hms : made.size = 32 * l.length := by rw [hmade, size_madeCells, Nat.mul_comm]
  clear hmade
  have hcp : ∀ ty, (Builtin.copy_ #[46, 46] ty #[.slice (some ⟨w.heap.size, 0, none⟩) l.length l.length, .slice A l.length c]).run Tryd.prog (w.alloc (.cells made 27)) = .ok (goInt l.length) ((w.alloc (.cells made 27)).setCells w.heap.size 0 (cellsN l.flatten)) := fun ty => by
    rcases Nat.eq_zero_or_pos l.length with h0 | h0
    · have e : l = [] := List.eq_nil_of_length_eq_zero h0
      subst e
      exact run_copy_none_k _ _ _ ty 27 _ _ 32 0 0 0 c Tryd.underlying46 oid_info' rfl
    · obtain ⟨b, o, rfl, hb, hx⟩ := hA h0
      have hfl : (cellsN l.flatten).length = 32 * l.length := by rw [cellsN_len, Sha.flat_len hl]
      refine run_copy_k _ _ _ ty 27 32 l.length w.heap.size 0 l.length ⟨b, o, none⟩ c (cellsN l.flatten) Tryd.underlying46 oid_info' (by rw [hfl, Nat.mul_comm]) ?_ ?_ (cellsN_one _)
      · intro j v hj
        have hjl : j < 32 * l.length := by have := (List.getElem?_eq_some_iff.1 hj).1; omega
        have e : 32 * (j / 32) + j % 32 = j := by omega
        have hg := getD_cells l hl (i := j / 32) (j := j % 32) (by omega) (by omega)
        rw [e, hj] at hg
        have hh := hx (j / 32) (by omega) (j % 32) v hg.symm
        rw [Addr.add_mid, ← e, ← Nat.add_assoc, World.cell?_alloc_past _ _ _ hb]
        exact hh
      · intro j hj
        rw [hfl] at hj
        have hB : Blk (w.alloc (.cells made 27)) w.heap.size 27 made := Blk.new w _ _
        rw [Nat.zero_add]
        exact ⟨by rw [hB.cell j, Array.getElem?_eq_getElem (by omega)]; rfl, hB.frozen j⟩
  have HROW := Lib.hid (copied w l hl made hms)
  have HBEL : Hid (Below w.heap.size w ((w.alloc (.cells made 27)).setCells w.heap.size 0 (cellsN l.flatten))) := Lib.hid (below_setCells (Nat.le_refl _) _ _ _ ((Below.refl _ _).alloc (Nat.le_refl _) _))
  have HLT : Hid (w.heap.size < ((w.alloc (.cells made 27)).setCells w.heap.size 0 (cellsN l.flatten)).heap.size) := by
    have h : ∀ (vs : List Value) (b o : Nat) (w : World), (w.setCells b o vs).heap.size = w.heap.size := by
      intro vs
      induction vs with
      | nil => intros; rfl
      | cons v r ih => intro b o w; rw [World.setCells, ih]; simp [World.setCell]
    exact Lib.hid (by rw [h]; simp)
  clear hA
  go_enter Tryd.func25, Tryd.ntmps25
  go_wp2_with fail
  clear hmk hcp
  generalize ((w.alloc (.cells made 27)).setCells w.heap.size 0 (cellsN l.flatten)) = w2 at HROW HBEL HLT ⊢
  refine (sort_contract w.heap.size l w2 hl HROW.out HLT.out hz).mono ?_
  rintro e w3 ⟨rfl, l', hlen, hol, hasc, hmem, hrow, hgr⟩
  have HLEN := Lib.hid hlen
  have HMEM := Lib.hid hmem
  have HASC := Lib.hid hasc
  have HROW3 := Lib.hid hrow
  have HOL := Lib.hid hol
  have HB3 := Lib.hid (below_of_only HBEL.out hgr (Nat.le_refl _))
  have HL3 := Lib.hid (Nat.lt_of_lt_of_le HLT.out hgr.size)
  clear hlen hmem hasc hrow hgr hol
  go_wp2_with fail
  rw [← HLEN.out]
  refine (compact_any w.heap.size l'.length l' w w3 w.heap.size HOL.out (by rw [HLEN.out]; omega) HROW3.out (Nat.le_refl _) (by rw [HLEN.out]; omega) (Nat.le_refl _) HB3.out).mono ?_
  rintro e w4 ⟨rfl, hkept⟩
  have HK := Lib.hid hkept
  clear hkept
  go_wp2_with fail
  go_ret
  refine ⟨Sha.compK l' l'.length, ⟨⟨w.heap.size, l'.length, rfl, Sha.compK_len _ _, ?_, HK.out.row⟩, ?_, ?_, Sha.compK_rising l' HASC.out _ (Nat.le_refl _), HK.out.bel⟩, by rw [← HLEN.out]; exact Sha.compK_len _ _⟩
  · intro h0
    have h1 := HK.out.row 0 h0
    have h2 : ((Sha.compK l' l'.length).getD 0 []).length = 32 := (Sha.Oids.getD (l := Sha.compK l' l'.length) (fun o ho => HOL.out o (List.mem_of_mem_take ((Sha.compK_mem l' _ (Nat.le_refl _) o).1 ho))) h0).1
    have h3 := h1 0 ((cellsN ((Sha.compK l' l'.length).getD 0 []))[0]'(by rw [cellsN_len, h2]; omega)) (List.getElem?_eq_getElem _)
    exact block_lt_of_cell h3
  · intro o ho
    exact HOL.out o (List.mem_of_mem_take ((Sha.compK_mem l' _ (Nat.le_refl _) o).1 ho))
  · intro x
    rw [Sha.compK_mem l' _ (Nat.le_refl _) x, List.take_length]
    exact HMEM.out x
/-- is o among the first k of l? (asked of l's one by one) -/
def seenL (l : List (List Nat)) (o : List Nat) : Nat → Bool
  | 0 => false
  | k + 1 => seenL l o k || (l.getD k [] == o)
def seenR (l : List (List Nat)) (o : List Nat) : Nat → Bool
  | 0 => false
  | k + 1 => seenR l o k || (o == l.getD k [])
theorem seenL_mem {l : List (List Nat)} {o : List Nat} : ∀ {k i : Nat}, i < k → l.getD i [] = o → seenL l o k = true
  | k + 1, i, hi, h => by
    unfold seenL
    rcases Nat.lt_or_ge i k with h1 | h1
    · rw [seenL_mem h1 h]; rfl
    · obtain rfl : i = k := by omega
      rw [h, beq_self_eq_true, Bool.or_true]
theorem seenR_mem {l : List (List Nat)} {o : List Nat} : ∀ {k i : Nat}, i < k → l.getD i [] = o → seenR l o k = true
  | k + 1, i, hi, h => by
    unfold seenR
    rcases Nat.lt_or_ge i k with h1 | h1
    · rw [seenR_mem h1 h]; rfl
    · obtain rfl : i = k := by omega
      rw [h, beq_self_eq_true, Bool.or_true]
theorem mem_getD {l : List (List Nat)} {o : List Nat} (h : o ∈ l) : ∃ i, i < l.length ∧ l.getD i [] = o := by
  obtain ⟨i, hi, e⟩ := List.mem_iff_getElem.1 h
  exact ⟨i, hi, by simp [List.getD, hi, e]⟩
theorem rless_t (xs ys : List Nat) (w : World) (hx : xs.length = 32 ∧ Sha.Byte xs) (hy : ys.length = 32 ∧ Sha.Byte ys) (hq : Sha.lexLt xs ys = true) :
    Calls Tryd.prog 23 #[.agg (u8s xs), .agg (u8s ys)] w fun e w' => e = .returned (.bool true) ∧ Below w.heap.size w w' := by
  have h := rless_any xs ys w hx.1 hy.1 hx.2 hy.2
  rw [hq] at h; exact h
theorem range_below {w w' : World} {B b o : Nat} {cs : List Value} (h : w.rangeAt b o cs) (hb : Below B w w') (hlt : b < B) : w'.rangeAt b o cs :=
  fun j v hv => (hb.cell (p := ⟨b, o + j, none⟩) hlt).trans (h j v hv)
theorem rdO_below {w w' : World} {v : Value} {l : List (List Nat)} (h : RdO w v l) (hb : Below w.heap.size w w') : RdO w' v l := by
  obtain ⟨A, c, hv, hc, hA⟩ := h
  refine ⟨A, c, hv, hc, fun h0 => ?_⟩
  obtain ⟨b, o, ha, hl, hx⟩ := hA h0
  have := hb.size
  exact ⟨b, o, ha, by omega, fun i hi => range_below (hx i hi) hb hl⟩
/-- append of digests onto an empty slice of the call's own -/
theorem wpList_copyO {ops : Array Oper} {rest : List Oper} {o : Oper} {a : Act} {w : World} {Q : Exit → Act → World → Prop} (hgd : o.guard = none) (s x : Operand)
    (ho : o.op = .call { callee := .builtin .append, args := #[s, x], argTypes := #[46, 46] }) (g : Nat) (hs : a.eval s = .slice (some ⟨g, 0, none⟩) 0 0) (hg : w.heap[g]? = some (.cells #[] 27 (0, 0)))
    (v : Value) (hx : a.eval x = v) (l : List (List Nat)) (hv : RdO w v l) (hl : Sha.Oids l) (hz : l.length < 1073741824)
    (h : ∀ v' w', RdO w' v' l → w.grownBy w' (some g) → wpList Tryd.prog ops Q rest (a.put o.dst v') w') : wpList Tryd.prog ops Q (o :: rest) a w := by
  obtain ⟨i0, hi0, hiz, his, hib⟩ := info_parts oid_all
  obtain ⟨A, c, rfl, hc, hA⟩ := hv
  have hglt : g < w.heap.size := (Array.getElem?_eq_some_iff.1 hg).1
  have hown : w.ownsRow 0 27 32 (.slice (some ⟨g, 0, none⟩) 0 0) 0 [] := ⟨by simp, .inr ⟨g, 0, #[], rfl, Nat.zero_le _, hg, Nat.le_refl _, Nat.zero_le _, by simp, by simp⟩⟩
  have hfl : (cellsN l.flatten).length = l.length * 32 := by rw [cellsN_len, Sha.flat_len hl, Nat.mul_comm]
  have fin : ∀ v' w', w'.ownsRow 0 27 32 v' (0 + l.length) ([] ++ cellsN l.flatten) → RdO w' v' l := fun v' w' ho => by
    rw [Nat.zero_add, List.nil_append] at ho
    rcases ho.2 with ⟨rfl, hn⟩ | ⟨g', cap, cur, rfl, _, hgg, hnc, _, hcs, htk⟩
    · exact ⟨none, 0, by rw [hn], by omega, fun h0 => by omega⟩
    · refine ⟨some ⟨g', 0, none⟩, cap, rfl, hnc, fun h0 => ⟨g', 0, rfl, (Array.getElem?_eq_some_iff.1 hgg).1, fun i hi j u hu => ?_⟩⟩
      have hj : j < (cellsN (l.getD i [])).length := (List.getElem?_eq_some_iff.1 hu).1
      rw [cellsN_len, (hl.getD hi).1] at hj
      have e := getD_cells l hl hi hj
      rw [hu, ← htk, List.getElem?_take] at e
      rw [if_pos (by omega)] at e
      rw [Nat.zero_add]
      rw [cell_of_row _ _ _ _ _ _ hgg]
      rw [← e]; simp
  cases A with
  | some ad =>
    refine wpList_append_own w hgd s x 46 ho 0 27 i0 _ 32 32 Tryd.underlying46 hi0 hiz his hib rfl (by decide) _ 0 [] hs hown ad l.length c (cellsN l.flatten) hx hfl ?_ (cellsN_one _) (by unfold maxLen; omega) (by omega) (Nat.zero_le _) ?_
    · intro j u hj
      have hjl : j < 32 * l.length := by have := (List.getElem?_eq_some_iff.1 hj).1; omega
      obtain ⟨b, o', ha, hb, hxx⟩ := hA (by omega)
      obtain rfl := Option.some.inj ha
      have e : 32 * (j / 32) + j % 32 = j := by omega
      have hg2 := getD_cells l hl (i := j / 32) (j := j % 32) (by omega) (by omega)
      rw [e, hj] at hg2
      have hh := hxx (j / 32) (by omega) (j % 32) u hg2.symm
      rw [Addr.add_mid, ← e, ← Nat.add_assoc]
      exact hh
    · intro v' w' h1 h2 _
      exact h v' w' (fin v' w' h1) h2
  | none =>
    have hn : l.length = 0 := by
      rcases Nat.eq_zero_or_pos l.length with h0 | h0
      · exact h0
      · obtain ⟨b, o', ha, _⟩ := hA h0
        cases ha
    have e : l = [] := List.eq_nil_of_length_eq_zero hn
    subst e
    refine wpList_plain hgd fun K hK => ?_
    have hrun : ∀ ty, (Builtin.append_ #[46, 46] ty #[.slice (some ⟨g, 0, none⟩) 0 0, .slice none 0 c]).run Tryd.prog w = .ok (.slice (some ⟨g, 0, none⟩) 0 0) w := fun ty => by
      simp [Builtin.append_, run_underlying Tryd.underlying46, sizeOf, typeInfo, hi0, Builtin.lenOf, Builtin.firstCells, storeCells]
    unfold Oper.wp execOp
    simp only [ho, resolve, invoke, builtin, Sem.run_bind, Sem.run_pure, Result.andThen_ok, List.map_toArray, List.map_cons, List.map_nil, hs, hx]
    rw [show ([] : List (List Nat)).length = 0 from rfl, hrun]
    exact hK _ _ (h _ _ ⟨_, _, rfl, Nat.le_refl _, fun h0 => by simp at h0⟩ (World.grownBy.refl w _))
set_option maxRecDepth 100000 in
set_option maxHeartbeats 4000000 in
theorem law_any (v : Value) (l : List (List Nat)) (w : World) (hv : RdO w v l) (hl : Sha.Oids l) (ht : Tabs w) (hz : l.length ≤ 40) :
    Calls Tryd.prog 6 #[v] w fun e w' => e = .returned (.bool true) ∧ Below w.heap.size w w' := by
  have HV := Lib.hid hv
  have HL := Lib.hid hl
  obtain ⟨A, c, rfl, hc, hA⟩ := hv
  clear hA hl
  obtain ⟨n, hn⟩ : ∃ n, n = l.length := ⟨_, rfl⟩
  rw [← hn] at hz hc HV ⊢
  have HN := Lib.hid hn
  clear hn
  go_enter Tryd.func6, Tryd.ntmps6
  go_wp2_with fail
  refine (alive_any w ht).mono ?_
  rintro e w1 ⟨rfl, hb1⟩
  have HB1 := Lib.hid hb1
  have HV1 := Lib.hid (rdO_below HV.out hb1)
  clear hb1
  have HG1 : Hid ((w1.alloc (.cells #[] 27)).heap[w1.heap.size]? = some (.cells #[] 27 (0, 0))) := Lib.hid (heap_alloc_new w1 _)
  have HBA : Hid (Below w1.heap.size w1 (w1.alloc (.cells #[] 27))) := Lib.hid ((Below.refl _ _).alloc (Nat.le_refl _) _)
  have HVA := Lib.hid (rdO_below HV1.out HBA.out)
  have HZ := Lib.hid (show l.length < 1073741824 by rw [← HN.out]; omega)
  go_wp2_with (first | (refine wpList_copyO rfl (.tmp 20) (.tmp 21) rfl w1.heap.size rfl HG1.out _ rfl l HVA.out HL.out HZ.out ?_; intro v' w2 hv2 hg2))
  have HIN := Lib.hid hv2
  have HB2 := Lib.hid (HB1.out.trans ((below_of_only HBA.out hg2 (Nat.le_refl _)).mono HB1.out.size))
  have HV2 : Hid (RdO w2 (.slice A n c) l) := Lib.hid (rdO_below HV1.out (below_of_only HBA.out hg2 (Nat.le_refl _)))
  clear hv2 hg2 HG1 HBA HVA HV1 HB1 HV
  refine (sort_len v' l w2 HIN.out HL.out HZ.out).mono ?_
  rintro e w3 ⟨r, ⟨⟨b, cr, rfl, hcr, hbl, hrow⟩, hol, hmem, hrise, hbs⟩, hml⟩
  have HI3 := Lib.hid (rdO_below HIN.out hbs)
  have HV3 := Lib.hid (rdO_below HV2.out hbs)
  have HB3 := Lib.hid (HB2.out.trans (hbs.mono HB2.out.size))
  have HROW := Lib.hid hrow
  have HMEM := Lib.hid hmem
  have HRISE := Lib.hid hrise
  have HOL := Lib.hid hol
  have HBL := Lib.hid hbl
  clear hbs hrow hmem hrise hol hbl HIN HV2 HB2
  obtain ⟨m, hm⟩ : ∃ m, m = r.length := ⟨_, rfl⟩
  rw [← hm] at hcr hml HROW HBL ⊢
  rw [← HN.out] at hml
  have HM := Lib.hid hm
  clear hm
  obtain ⟨A', c', rfl, hc', hA'⟩ := HI3.out
  rw [← HN.out] at hc' hA' HI3 ⊢
  have HIA := Lib.hid hA'
  clear hA'
  obtain ⟨A2, c2, he2, hc2, hA2⟩ := HV3.out
  injection he2 with e1 e2 e3
  subst e1 e3
  rw [← HN.out] at hA2
  have HVA := Lib.hid hA2
  clear hA2 e2 hc2
  go_wp2_with fail
  go_loopw [27] (fun i wr => ∃ k : Nat, k ≤ m ∧ i = .int .i64 k ∧ Below w3.heap.size w3 wr) (fun i _ => m - (intOf i).toNat)
  case atStart => exact ⟨0, by omega, rfl, Below.refl _ _⟩
  case round =>
    obtain ⟨wa, rfl⟩ : ∃ wa : World, wa = wr := ⟨_, rfl⟩
    obtain ⟨k, hk, rfl, hbe⟩ := hrel
    have HBE := Lib.hid hbe
    clear hbe
    by_cases hlt : k < m
    · have i0 : (0 : Int) ≤ ((k : Nat) : Int) := by omega
      have i1 : ((k : Nat) : Int) < m := by omega
      obtain ⟨o, ho⟩ : ∃ o, o = r.getD k [] := ⟨_, rfl⟩
      have hoo := HOL.out.getD (i := k) (by rw [← HM.out]; exact hlt)
      rw [← ho] at hoo
      have HOO := Lib.hid hoo
      have HO := Lib.hid ho
      have HLO := Lib.hid (show (u8s o).size = 32 by rw [u8s_size, hoo.1])
      have HLC := Lib.hid (show (cellsN o).length = 32 by rw [cellsN_len, hoo.1])
      have hra : wa.rangeAt b (32 * k) (cellsN o) := by
        have h := range_below (HROW.out k hlt) HBE.out (HBL.out (by omega))
        rw [← ho] at h; exact h
      have HRA := Lib.hid hra
      clear ho hoo hra
      have x1 := fun w' => run_index_k (P := Tryd.prog) Tryd.underlying46 oid_info' b 0 m cr k hlt (ii := (k : Int)) rfl w'
      simp only [Nat.zero_add] at x1
      have HNA : Hid (Blk (wa.alloc (.cells (u8s (List.replicate 32 0)) 27)) wa.heap.size 27 (u8s (List.replicate 32 0))) := Lib.hid (Blk.new wa _ _)
      go_wp2_with (first | (refine wpList_load_mid rfl 27 _ rfl b (32 * k) rfl (cellsN o) _ HRA.out Tryd.underlying27 rfl (by rw [HLC.out]; exact oid_info') ?_; rw [cellsN_arr]) | (refine wpList_store_row rfl 27 _ _ rfl wa.heap.size _ rfl rfl 27 _ HNA.out (by rw [HLO.out]; exact oid_info') (by rw [HLO.out, u8s_size]; rfl) (u8s_one _) ?_))
      clear x1
      have HP : Hid (Blk ((wa.alloc (.cells (u8s (List.replicate 32 0)) 27)).setRow wa.heap.size (u8s o)) wa.heap.size 27 (u8s o)) := Lib.hid (HNA.out.row _)
      have HBB : Hid (Below w3.heap.size w3 ((wa.alloc (.cells (u8s (List.replicate 32 0)) 27)).setRow wa.heap.size (u8s o))) := Lib.hid (below_row (HBE.out.alloc HBE.out.size _) HBE.out.size _)
      clear HNA HRA
      change Code.wp _ _ _ _ ((wa.alloc (.cells (u8s (List.replicate 32 0)) 27)).setRow wa.heap.size (u8s o))
      generalize ((wa.alloc (.cells (u8s (List.replicate 32 0)) 27)).setRow wa.heap.size (u8s o)) = wb at HP HBB ⊢
      generalize wa.heap.size = p6 at HP ⊢
      go_loopw [7, 34] (fun sv jj wr => ∃ j : Nat, j ≤ n ∧ jj = .int .i64 j ∧ sv = .bool (seenL l o j) ∧ Below wb.heap.size wb wr) (fun _ jj _ => n - (intOf jj).toNat)
      case atStart => exact ⟨0, by omega, rfl, rfl, Below.refl _ _⟩
      case round =>
        obtain ⟨wc, rfl⟩ : ∃ wc : World, wc = wr := ⟨_, rfl⟩
        obtain ⟨j, hj, rfl, rfl, hbf⟩ := hrel
        have HBF := Lib.hid hbf
        clear hbf
        by_cases hjl : j < n
        · have j0 : (0 : Int) ≤ ((j : Nat) : Int) := by omega
          have j1 : ((j : Nat) : Int) < n := by omega
          obtain ⟨b1, o1, rfl, hb1, hx1⟩ := HVA.out (by omega)
          obtain ⟨x, hx⟩ : ∃ x, x = l.getD j [] := ⟨_, rfl⟩
          have hxx := HL.out.getD (i := j) (by rw [← HN.out]; exact hjl)
          rw [← hx] at hxx
          have HXX := Lib.hid hxx
          have HX := Lib.hid hx
          have HLX := Lib.hid (show (u8s x).size = 32 by rw [u8s_size, hxx.1])
          have HLCX := Lib.hid (show (cellsN x).length = 32 by rw [cellsN_len, hxx.1])
          have hb31 : b1 < wb.heap.size := Nat.lt_of_lt_of_le hb1 HBB.out.size
          have hra : wc.rangeAt b1 (o1 + 32 * j) (cellsN x) := by
            have h := range_below (range_below (hx1 j hjl) HBB.out hb1) HBF.out hb31
            rw [← hx] at h; exact h
          have HRA := Lib.hid hra
          clear hx hxx hra hx1
          have x1 := fun w' => run_index_k (P := Tryd.prog) Tryd.underlying46 oid_info' b1 o1 n c j hjl (ii := (j : Int)) rfl w'
          have HNC : Hid (Blk (wc.alloc (.cells (u8s (List.replicate 32 0)) 27)) wc.heap.size 27 (u8s (List.replicate 32 0))) := Lib.hid (Blk.new wc _ _)
          have HPN : Hid (Blk ((wc.alloc (.cells (u8s (List.replicate 32 0)) 27)).setRow wc.heap.size (u8s x)) wc.heap.size 27 (u8s x)) := Lib.hid (HNC.out.row _)
          have HPO : Hid (Blk ((wc.alloc (.cells (u8s (List.replicate 32 0)) 27)).setRow wc.heap.size (u8s x)) p6 27 (u8s o)) := Lib.hid (((HP.out.below HBF.out HP.out.lt).alloc _).farRow (by have := HP.out.lt; have := HBF.out.size; omega) _)
          have HBG : Hid (Below wb.heap.size wb ((wc.alloc (.cells (u8s (List.replicate 32 0)) 27)).setRow wc.heap.size (u8s x))) := Lib.hid (below_row (HBF.out.alloc HBF.out.size _) HBF.out.size _)
          have heq := eq_oid x o HXX.out HOO.out
          have HS : Hid (seenL l o (j + 1) = (seenL l o j || (x == o))) := Lib.hid (by rw [HX.out]; rfl)
          cases hsn : seenL l o j
          all_goals
            rw [hsn] at HS
            clear hsn
            go_wp2_with (first | (refine wpList_load_mid rfl 27 _ rfl b1 (o1 + 32 * j) rfl (cellsN x) _ HRA.out Tryd.underlying27 rfl (by rw [HLCX.out]; exact oid_info') ?_; rw [cellsN_arr]) | (refine wpList_store_row rfl 27 _ _ rfl wc.heap.size _ rfl rfl 27 _ HNC.out (by rw [HLX.out]; exact oid_info') (by rw [HLX.out, u8s_size]; rfl) (u8s_one _) ?_) | (refine wpList_row_w (by rfl) 27 (.tmp 9) rfl wc.heap.size rfl 27 _ _ HPN.out Tryd.underlying27 rfl (by rw [HLX.out]; exact oid_info') ?_) | (refine wpList_row_w (by rfl) 27 (.tmp 6) rfl p6 rfl 27 _ _ HPO.out Tryd.underlying27 rfl (by rw [HLO.out]; exact oid_info') ?_))
            go_roundw
            case rel => exact ⟨j + 1, by omega, by go_num, by rw [HS.out]; simp, HBG.out⟩
            case measure => simp [intOf]; omega
        · obtain rfl : n = j := by omega
          have HSE : Hid (seenL l o n = true) := Lib.hid (by
            have h1 : o ∈ r := by
              rw [HO.out]
              have e : r.getD k [] = r[k]'(by rw [← HM.out]; exact hlt) := by simp [List.getD, show k < r.length by rw [← HM.out]; exact hlt]
              rw [e]; exact List.getElem_mem _
            obtain ⟨i, hi, hi2⟩ := mem_getD ((HMEM.out o).1 h1)
            exact seenL_mem (by rw [HN.out]; exact hi) hi2)
          rw [HSE.out]
          have HBW : Hid (Below w3.heap.size w3 wc) := Lib.hid (HBB.out.trans (HBF.out.mono HBB.out.size))
          have HBD := Lib.hid (below_drewN HBW.out 1)
          have HPD := Lib.hid (HP.out.below HBF.out HP.out.lt).drew
          rcases Nat.eq_zero_or_pos k with hk0 | hk0
          · subst hk0
            go_wp2_with fail
            refine wp_region_held (S := (fun w' => Below wc.drew.heap.size wc.drew w')) (by kernel_rfl) ?_
            change wpAnyH _ _ _ _ _ _ _ _ wc.drew
            refine wpAnyH_take (i := 0) (v := ?_) rfl (by kernel_rfl) (by kernel_rfl) (by kernel_rfl) (fun _ _ _ h => h) (Or.inl ⟨by rfl, ?_⟩) (Below.refl _ _) ?_
            rotate_left
            · intro w _; go_simp; with_reducible rfl
            try simp only [Act.put, List.getElem_toArray, List.getElem_cons_zero, List.getElem_cons_succ, List.setIfInBounds_toArray, List.set_cons_zero, List.set_cons_succ]
            refine wpAnyH_take (i := 1) (v := ?_) rfl (by kernel_rfl) (by kernel_rfl) (by kernel_rfl) (fun _ _ _ h => h) (Or.inl ⟨by rfl, ?_⟩) (Below.refl _ _) ?_
            rotate_left
            · intro w _; go_simp; with_reducible rfl
            try simp only [Act.put, List.getElem_toArray, List.getElem_cons_zero, List.getElem_cons_succ, List.setIfInBounds_toArray, List.set_cons_zero, List.set_cons_succ]
            refine wpAnyH_take (i := 2) (v := ?_) rfl (by kernel_rfl) (by kernel_rfl) (by kernel_rfl) (fun _ _ _ h => h) (Or.inl ⟨by rfl, ?_⟩) (Below.refl _ _) ?_
            rotate_left
            · intro w _; go_simp; with_reducible rfl
            try simp only [Act.put, List.getElem_toArray, List.getElem_cons_zero, List.getElem_cons_succ, List.setIfInBounds_toArray, List.set_cons_zero, List.set_cons_succ]
            refine wpAnyH_take (i := 3) (v := ?_) rfl (by kernel_rfl) (by kernel_rfl) (by kernel_rfl) (fun _ _ _ h => h) (Or.inl ⟨by rfl, ?_⟩) (Below.refl _ _) ?_
            rotate_left
            · intro w _; go_simp; with_reducible rfl
            try simp only [Act.put, List.getElem_toArray, List.getElem_cons_zero, List.getElem_cons_succ, List.setIfInBounds_toArray, List.set_cons_zero, List.set_cons_succ]
            refine wpAnyH_take (i := 4) (v := ?_) rfl (by kernel_rfl) (by kernel_rfl) (by kernel_rfl) (fun _ _ _ h => h) (Or.inl ⟨by rfl, ?_⟩) (Below.refl _ _) ?_
            rotate_left
            · intro w _; go_simp; with_reducible rfl
            try simp only [Act.put, List.getElem_toArray, List.getElem_cons_zero, List.getElem_cons_succ, List.setIfInBounds_toArray, List.set_cons_zero, List.set_cons_succ]
            refine wpAnyH_take (i := 5) (v := ?_) rfl (by kernel_rfl) (by kernel_rfl) (by kernel_rfl) (fun _ _ _ h => h) (Or.inl ⟨by rfl, ?_⟩) (Below.refl _ _) ?_
            rotate_left
            · intro w _; go_simp; with_reducible rfl
            try simp only [Act.put, List.getElem_toArray, List.getElem_cons_zero, List.getElem_cons_succ, List.setIfInBounds_toArray, List.set_cons_zero, List.set_cons_succ]
            refine wpAnyH_take (i := 6) (v := undef) rfl (by kernel_rfl) (by kernel_rfl) (by kernel_rfl) (fun _ _ _ h => h) (Or.inr ⟨by rfl, rfl⟩) (Below.refl _ _) ?_
            try simp only [Act.put, List.getElem_toArray, List.getElem_cons_zero, List.getElem_cons_succ, List.setIfInBounds_toArray, List.set_cons_zero, List.set_cons_succ]
            refine wpAnyH_take (i := 7) (v := undef) rfl (by kernel_rfl) (by kernel_rfl) (by kernel_rfl) (fun _ _ _ h => h) (Or.inr ⟨by rfl, rfl⟩) (Below.refl _ _) ?_
            try simp only [Act.put, List.getElem_toArray, List.getElem_cons_zero, List.getElem_cons_succ, List.setIfInBounds_toArray, List.set_cons_zero, List.set_cons_succ]
            refine wpAnyH_take (i := 8) (v := undef) rfl (by kernel_rfl) (by kernel_rfl) (by kernel_rfl) (fun _ _ _ h => h) (Or.inr ⟨by rfl, rfl⟩) (Below.refl _ _) ?_
            try simp only [Act.put, List.getElem_toArray, List.getElem_cons_zero, List.getElem_cons_succ, List.setIfInBounds_toArray, List.set_cons_zero, List.set_cons_succ]
            refine wpAnyH_take (i := 9) (v := undef) rfl (by kernel_rfl) (by kernel_rfl) (by kernel_rfl) (fun _ _ _ h => h) (Or.inr ⟨by rfl, rfl⟩) (Below.refl _ _) ?_
            try simp only [Act.put, List.getElem_toArray, List.getElem_cons_zero, List.getElem_cons_succ, List.setIfInBounds_toArray, List.set_cons_zero, List.set_cons_succ]
            refine wpAnyH_take (i := 10) (v := undef) rfl (by kernel_rfl) (by kernel_rfl) (by kernel_rfl) (fun _ _ _ h => h) (Or.inr ⟨by rfl, rfl⟩) (Below.refl _ _) ?_
            try simp only [Act.put, List.getElem_toArray, List.getElem_cons_zero, List.getElem_cons_succ, List.setIfInBounds_toArray, List.set_cons_zero, List.set_cons_succ]
            refine wpAnyH_take (i := 11) (v := undef) rfl (by kernel_rfl) (by kernel_rfl) (by kernel_rfl) (fun _ _ _ h => h) (Or.inr ⟨by rfl, rfl⟩) (Below.refl _ _) ?_
            try simp only [Act.put, List.getElem_toArray, List.getElem_cons_zero, List.getElem_cons_succ, List.setIfInBounds_toArray, List.set_cons_zero, List.set_cons_succ]
            refine wpAnyH_take (i := 12) (v := undef) rfl (by kernel_rfl) (by kernel_rfl) (by kernel_rfl) (fun _ _ _ h => h) (Or.inr ⟨by rfl, rfl⟩) (Below.refl _ _) ?_
            try simp only [Act.put, List.getElem_toArray, List.getElem_cons_zero, List.getElem_cons_succ, List.setIfInBounds_toArray, List.set_cons_zero, List.set_cons_succ]
            refine wpAnyH_take (i := 13) (v := undef) rfl (by kernel_rfl) (by kernel_rfl) (by kernel_rfl) (fun _ _ _ h => h) (Or.inr ⟨by rfl, rfl⟩) (Below.refl _ _) ?_
            try simp only [Act.put, List.getElem_toArray, List.getElem_cons_zero, List.getElem_cons_succ, List.setIfInBounds_toArray, List.set_cons_zero, List.set_cons_succ]
            refine wpAnyH_take (i := 14) (v := ?_) rfl (by kernel_rfl) (by kernel_rfl) (by kernel_rfl) (fun _ _ _ h => h) (Or.inl ⟨by rfl, ?_⟩) (Below.refl _ _) ?_
            rotate_left
            · intro w _; go_simp; with_reducible rfl
            try simp only [Act.put, List.getElem_toArray, List.getElem_cons_zero, List.getElem_cons_succ, List.setIfInBounds_toArray, List.set_cons_zero, List.set_cons_succ]
            refine wpAnyH_take (i := 15) (v := ?_) rfl (by kernel_rfl) (by kernel_rfl) (by kernel_rfl) (fun _ _ _ h => h) (Or.inl ⟨by rfl, ?_⟩) (Below.refl _ _) ?_
            rotate_left
            · intro w _; go_simp; with_reducible rfl
            try simp only [Act.put, List.getElem_toArray, List.getElem_cons_zero, List.getElem_cons_succ, List.setIfInBounds_toArray, List.set_cons_zero, List.set_cons_succ]
            refine wpAnyH_done (by kernel_rfl) ?_ _
            go_wp2_with fail
            go_roundw
            case rel => exact ⟨0 + 1, by omega, by go_num, HBD.out⟩
            case measure => simp [intOf]; omega
          · obtain ⟨y, hy⟩ : ∃ y, y = r.getD (k - 1) [] := ⟨_, rfl⟩
            have hyy := HOL.out.getD (i := k - 1) (by rw [← HM.out]; omega)
            rw [← hy] at hyy
            have HYY := Lib.hid hyy
            have HY := Lib.hid hy
            have HLY := Lib.hid (show (cellsN y).length = 32 by rw [cellsN_len, hyy.1])
            have hry : wc.drew.rangeAt b (32 * (k - 1)) (cellsN y) := by
              have h := range_below (HROW.out (k - 1) (by omega)) HBD.out (HBL.out (by omega))
              rw [← hy] at h; exact h
            have HRY := Lib.hid hry
            have HBLT : Hid (b < wc.drew.heap.size) := Lib.hid (Nat.lt_of_lt_of_le (HBL.out (by omega)) HBD.out.size)
            clear hy hyy hry
            have HQ : Hid (Sha.lexLt y o = true) := Lib.hid (by
              have h := HRISE.out (k - 1) k (by omega) (by rw [← HM.out]; exact hlt)
              rw [← HY.out, ← HO.out] at h
              exact decide_eq_true h)
            have k0 : (0 : Int) < ((k : Nat) : Int) := by omega
            have k1 : (0 : Int) ≤ ((k : Nat) : Int) - 1 := by omega
            have k2 : ((k : Nat) : Int) - 1 < m := by omega
            have W1 : IntKind.i64.wrap (((k : Nat) : Int) - 1) = ((k : Nat) : Int) - 1 := IntWalk.i64_in _ (by omega)
            have x1 := fun w' => run_index_k (P := Tryd.prog) Tryd.underlying46 oid_info' b 0 m cr (k - 1) (by omega) (ii := (k : Int) - 1) (by omega) w'
            simp only [Nat.zero_add] at x1
            go_wp2_with fail
            refine wp_region_held (S := (fun w' => Below wc.drew.heap.size wc.drew w')) (by kernel_rfl) ?_
            change wpAnyH _ _ _ _ _ _ _ _ wc.drew
            refine wpAnyH_take (i := 0) (v := ?_) rfl (by kernel_rfl) (by kernel_rfl) (by kernel_rfl) (fun _ _ _ h => h) (Or.inl ⟨by rfl, ?_⟩) (Below.refl _ _) ?_
            rotate_left
            · intro w _; go_simp; with_reducible rfl
            try simp only [Act.put, List.getElem_toArray, List.getElem_cons_zero, List.getElem_cons_succ, List.setIfInBounds_toArray, List.set_cons_zero, List.set_cons_succ]
            refine wpAnyH_take (i := 1) (v := ?_) rfl (by kernel_rfl) (by kernel_rfl) (by kernel_rfl) (fun _ _ _ h => h) (Or.inl ⟨by rfl, ?_⟩) (Below.refl _ _) ?_
            rotate_left
            · intro w _; go_simp; with_reducible rfl
            try simp only [Act.put, List.getElem_toArray, List.getElem_cons_zero, List.getElem_cons_succ, List.setIfInBounds_toArray, List.set_cons_zero, List.set_cons_succ]
            refine wpAnyH_take (i := 2) (v := ?_) rfl (by kernel_rfl) (by kernel_rfl) (by kernel_rfl) (fun _ _ _ h => h) (Or.inl ⟨by rfl, ?_⟩) (Below.refl _ _) ?_
            rotate_left
            · intro w _; go_simp; with_reducible rfl
            try simp only [Act.put, List.getElem_toArray, List.getElem_cons_zero, List.getElem_cons_succ, List.setIfInBounds_toArray, List.set_cons_zero, List.set_cons_succ]
            refine wpAnyH_take (i := 3) (v := ?_) rfl (by kernel_rfl) (by kernel_rfl) (by kernel_rfl) (fun _ _ _ h => h) (Or.inl ⟨by rfl, ?_⟩) (Below.refl _ _) ?_
            rotate_left
            · intro w _; go_simp; with_reducible rfl
            try simp only [Act.put, List.getElem_toArray, List.getElem_cons_zero, List.getElem_cons_succ, List.setIfInBounds_toArray, List.set_cons_zero, List.set_cons_succ]
            refine wpAnyH_take (i := 4) (v := ?_) rfl (by kernel_rfl) (by kernel_rfl) (by kernel_rfl) (fun _ _ _ h => h) (Or.inl ⟨by rfl, ?_⟩) (Below.refl _ _) ?_
            rotate_left
            · intro w _; go_simp; with_reducible rfl
            try simp only [Act.put, List.getElem_toArray, List.getElem_cons_zero, List.getElem_cons_succ, List.setIfInBounds_toArray, List.set_cons_zero, List.set_cons_succ]
            refine wpAnyH_take (i := 5) (v := ?_) rfl (by kernel_rfl) (by kernel_rfl) (by kernel_rfl) (fun _ _ _ h => h) (Or.inl ⟨by rfl, ?_⟩) (Below.refl _ _) ?_
            rotate_left
            · intro w _; go_simp; with_reducible rfl
            try simp only [Act.put, List.getElem_toArray, List.getElem_cons_zero, List.getElem_cons_succ, List.setIfInBounds_toArray, List.set_cons_zero, List.set_cons_succ]
            refine wpAnyH_take (i := 6) (v := ?_) rfl (by kernel_rfl) (by kernel_rfl) (by kernel_rfl) (fun _ _ _ h => h) (Or.inl ⟨by rfl, ?_⟩) (Below.refl _ _) ?_
            rotate_left
            · intro w _; go_simp; with_reducible rfl
            try simp only [Act.put, List.getElem_toArray, List.getElem_cons_zero, List.getElem_cons_succ, List.setIfInBounds_toArray, List.set_cons_zero, List.set_cons_succ]
            refine wpAnyH_take (i := 7) (v := ?_) rfl (by kernel_rfl) (by kernel_rfl) (by kernel_rfl) (fun _ _ _ h => h) (Or.inl ⟨by rfl, ?_⟩) (Below.refl _ _) ?_
            rotate_left
            · intro w _; go_simp; with_reducible rfl
            try simp only [Act.put, List.getElem_toArray, List.getElem_cons_zero, List.getElem_cons_succ, List.setIfInBounds_toArray, List.set_cons_zero, List.set_cons_succ]
            refine wpAnyH_take (i := 8) (v := ?_) rfl (by kernel_rfl) (by kernel_rfl) (by kernel_rfl) (fun _ _ _ h => h) (Or.inl ⟨by rfl, ?_⟩) (Below.refl _ _) ?_
            rotate_left
            · intro w _; go_simp; with_reducible rfl
            try simp only [Act.put, List.getElem_toArray, List.getElem_cons_zero, List.getElem_cons_succ, List.setIfInBounds_toArray, List.set_cons_zero, List.set_cons_succ]
            refine wpAnyH_take (i := 9) (v := ?_) rfl (by kernel_rfl) (by kernel_rfl) (by kernel_rfl) (fun _ _ _ h => h) (Or.inl ⟨by rfl, ?_⟩) (Below.refl _ _) ?_
            rotate_left
            · intro w _; go_simp; with_reducible rfl
            try simp only [Act.put, List.getElem_toArray, List.getElem_cons_zero, List.getElem_cons_succ, List.setIfInBounds_toArray, List.set_cons_zero, List.set_cons_succ]
            refine wpAnyH_take (i := 10) rfl (by kernel_rfl) (by kernel_rfl) (by kernel_rfl) (fun _ _ _ h => h) (yieldsIf_load_mid (by rfl) 27 _ rfl b _ rfl (cellsN y) _ (fun w4 h => range_below HRY.out h HBLT.out) Tryd.underlying27 rfl (by rw [HLY.out]; exact oid_info')) (Below.refl _ _) ?_
            try simp only [Act.put, List.getElem_toArray, List.getElem_cons_zero, List.getElem_cons_succ, List.setIfInBounds_toArray, List.set_cons_zero, List.set_cons_succ]
            rw [cellsN_arr]
            refine wpAnyH_take (i := 11) rfl (by kernel_rfl) (by kernel_rfl) (by kernel_rfl) (fun _ _ _ h => h) (takes_row 27 (.tmp 6) rfl (by rfl) (p6) rfl 27 (u8s o) _ (fun w4 h => HPD.out.below h HPD.out.lt) Tryd.underlying27 rfl (by rw [HLO.out]; exact oid_info')) (Below.refl _ _) ?_
            try simp only [Act.put, List.getElem_toArray, List.getElem_cons_zero, List.getElem_cons_succ, List.setIfInBounds_toArray, List.set_cons_zero, List.set_cons_succ]
            refine all_one (i := 12) (by kernel_rfl) rfl (by rfl) (fun K hK => ?_)
            go_simp
            refine (rless_t y o _ HYY.out HOO.out HQ.out).mono ?_
            rintro e wt ⟨rfl, hbt⟩
            dsimp only
            refine hK _ _ (hbt) ?_; clear hK K
            try simp only [Act.put, List.getElem_toArray, List.getElem_cons_zero, List.getElem_cons_succ, List.setIfInBounds_toArray, List.set_cons_zero, List.set_cons_succ]
            have HBT := Lib.hid hbt
            clear hbt
            refine wpAnyH_take (i := 13) (v := ?_) rfl (by kernel_rfl) (by kernel_rfl) (by kernel_rfl) (fun _ _ _ h => h) (Or.inl ⟨by rfl, ?_⟩) (HBT.out) ?_
            rotate_left
            · intro w _; go_simp; with_reducible rfl
            try simp only [Act.put, List.getElem_toArray, List.getElem_cons_zero, List.getElem_cons_succ, List.setIfInBounds_toArray, List.set_cons_zero, List.set_cons_succ]
            refine wpAnyH_take (i := 14) (v := ?_) rfl (by kernel_rfl) (by kernel_rfl) (by kernel_rfl) (fun _ _ _ h => h) (Or.inl ⟨by rfl, ?_⟩) (HBT.out) ?_
            rotate_left
            · intro w _; go_simp; with_reducible rfl
            try simp only [Act.put, List.getElem_toArray, List.getElem_cons_zero, List.getElem_cons_succ, List.setIfInBounds_toArray, List.set_cons_zero, List.set_cons_succ]
            refine wpAnyH_take (i := 15) (v := ?_) rfl (by kernel_rfl) (by kernel_rfl) (by kernel_rfl) (fun _ _ _ h => h) (Or.inl ⟨by rfl, ?_⟩) (HBT.out) ?_
            rotate_left
            · intro w _; go_simp; with_reducible rfl
            try simp only [Act.put, List.getElem_toArray, List.getElem_cons_zero, List.getElem_cons_succ, List.setIfInBounds_toArray, List.set_cons_zero, List.set_cons_succ]
            refine wpAnyH_done (by kernel_rfl) ?_ _
            go_wp2_with fail
            go_roundw
            case rel => exact ⟨k + 1, by omega, by go_num, HBD.out.trans (HBT.out.mono HBD.out.size)⟩
            case measure => simp [intOf]; omega
    · obtain rfl : m = k := by omega
      go_wp2_with fail
      go_loopw [64] (fun i wr => ∃ k : Nat, k ≤ n ∧ i = .int .i64 k ∧ Below w3.heap.size w3 wr) (fun i _ => n - (intOf i).toNat)
      case atStart => exact ⟨0, by omega, rfl, HBE.out⟩
      case round =>
        obtain ⟨we, rfl⟩ : ∃ we : World, we = wr := ⟨_, rfl⟩
        obtain ⟨k, hk2, rfl, hbe⟩ := hrel
        have HBE2 := Lib.hid hbe
        clear hbe
        by_cases hkn : k < n
        · have i0 : (0 : Int) ≤ ((k : Nat) : Int) := by omega
          have i1 : ((k : Nat) : Int) < n := by omega
          obtain ⟨b1, o1, rfl, hb1, hx1⟩ := HVA.out (by omega)
          obtain ⟨b2, o2, rfl, hb2, hx2⟩ := HIA.out (by omega)
          obtain ⟨x, hx⟩ : ∃ x, x = l.getD k [] := ⟨_, rfl⟩
          have hxx := HL.out.getD (i := k) (by rw [← HN.out]; exact hkn)
          rw [← hx] at hxx
          have HXX := Lib.hid hxx
          have HX := Lib.hid hx
          have HLX := Lib.hid (show (u8s x).size = 32 by rw [u8s_size, hxx.1])
          have HLCX := Lib.hid (show (cellsN x).length = 32 by rw [cellsN_len, hxx.1])
          have hra : we.rangeAt b1 (o1 + 32 * k) (cellsN x) := by
            have h := range_below (hx1 k hkn) HBE2.out hb1
            rw [← hx] at h; exact h
          have hra2 : w3.rangeAt b2 (o2 + 32 * k) (cellsN x) := by
            have h := hx2 k hkn
            rw [← hx] at h; exact h
          have HRA := Lib.hid hra
          have HRA2 := Lib.hid hra2
          have HB2L := Lib.hid hb2
          clear hx hxx hra hra2 hx1 hx2 hb2
          have x1 := fun w' => run_index_k (P := Tryd.prog) Tryd.underlying46 oid_info' b1 o1 n c k hkn (ii := (k : Int)) rfl w'
          have x2 := fun w' => run_index_k (P := Tryd.prog) Tryd.underlying46 oid_info' b2 o2 n c' k hkn (ii := (k : Int)) rfl w'
          have HNA : Hid (Blk (we.alloc (.cells (u8s (List.replicate 32 0)) 27)) we.heap.size 27 (u8s (List.replicate 32 0))) := Lib.hid (Blk.new we _ _)
          go_wp2_with (first | (refine wpList_load_mid rfl 27 _ rfl b1 (o1 + 32 * k) rfl (cellsN x) _ HRA.out Tryd.underlying27 rfl (by rw [HLCX.out]; exact oid_info') ?_; rw [cellsN_arr]) | (refine wpList_store_row rfl 27 _ _ rfl we.heap.size _ rfl rfl 27 _ HNA.out (by rw [HLX.out]; exact oid_info') (by rw [HLX.out, u8s_size]; rfl) (u8s_one _) ?_))
          clear x1
          have HP : Hid (Blk ((we.alloc (.cells (u8s (List.replicate 32 0)) 27)).setRow we.heap.size (u8s x)) we.heap.size 27 (u8s x)) := Lib.hid (HNA.out.row _)
          have HBB : Hid (Below w3.heap.size w3 ((we.alloc (.cells (u8s (List.replicate 32 0)) 27)).setRow we.heap.size (u8s x))) := Lib.hid (below_row (HBE2.out.alloc HBE2.out.size _) HBE2.out.size _)
          clear HNA HRA
          change Code.wp _ _ _ _ ((we.alloc (.cells (u8s (List.replicate 32 0)) 27)).setRow we.heap.size (u8s x))
          generalize ((we.alloc (.cells (u8s (List.replicate 32 0)) 27)).setRow we.heap.size (u8s x)) = wb at HP HBB ⊢
          generalize we.heap.size = p6 at HP ⊢
          go_loopw [12, 71] (fun sv jj wr => ∃ j : Nat, j ≤ m ∧ jj = .int .i64 j ∧ sv = .bool (seenR r x j) ∧ Below wb.heap.size wb wr) (fun _ jj _ => m - (intOf jj).toNat)
          case atStart => exact ⟨0, by omega, rfl, rfl, Below.refl _ _⟩
          case round =>
            obtain ⟨wc, rfl⟩ : ∃ wc : World, wc = wr := ⟨_, rfl⟩
            obtain ⟨j, hj, rfl, rfl, hbf⟩ := hrel
            have HBF := Lib.hid hbf
            clear hbf
            by_cases hjl : j < m
            · have j0 : (0 : Int) ≤ ((j : Nat) : Int) := by omega
              have j1 : ((j : Nat) : Int) < m := by omega
              obtain ⟨o, ho⟩ : ∃ o, o = r.getD j [] := ⟨_, rfl⟩
              have hoo := HOL.out.getD (i := j) (by rw [← HM.out]; exact hjl)
              rw [← ho] at hoo
              have HOO := Lib.hid hoo
              have HO := Lib.hid ho
              have HLO := Lib.hid (show (u8s o).size = 32 by rw [u8s_size, hoo.1])
              have HLC := Lib.hid (show (cellsN o).length = 32 by rw [cellsN_len, hoo.1])
              have hbl3 : b < w3.heap.size := HBL.out (by omega)
              have hra : wc.rangeAt b (32 * j) (cellsN o) := by
                have h := range_below (range_below (HROW.out j hjl) HBB.out hbl3) HBF.out (Nat.lt_of_lt_of_le hbl3 HBB.out.size)
                rw [← ho] at h; exact h
              have HRA := Lib.hid hra
              clear ho hoo hra
              have x1 := fun w' => run_index_k (P := Tryd.prog) Tryd.underlying46 oid_info' b 0 m cr j hjl (ii := (j : Int)) rfl w'
              simp only [Nat.zero_add] at x1
              have HNC : Hid (Blk (wc.alloc (.cells (u8s (List.replicate 32 0)) 27)) wc.heap.size 27 (u8s (List.replicate 32 0))) := Lib.hid (Blk.new wc _ _)
              have HPN : Hid (Blk ((wc.alloc (.cells (u8s (List.replicate 32 0)) 27)).setRow wc.heap.size (u8s o)) wc.heap.size 27 (u8s o)) := Lib.hid (HNC.out.row _)
              have HPO : Hid (Blk ((wc.alloc (.cells (u8s (List.replicate 32 0)) 27)).setRow wc.heap.size (u8s o)) p6 27 (u8s x)) := Lib.hid (((HP.out.below HBF.out HP.out.lt).alloc _).farRow (by have := HP.out.lt; have := HBF.out.size; omega) _)
              have HBG : Hid (Below wb.heap.size wb ((wc.alloc (.cells (u8s (List.replicate 32 0)) 27)).setRow wc.heap.size (u8s o))) := Lib.hid (below_row (HBF.out.alloc HBF.out.size _) HBF.out.size _)
              have heq := eq_oid x o HXX.out HOO.out
              have HS : Hid (seenR r x (j + 1) = (seenR r x j || (x == o))) := Lib.hid (by rw [HO.out]; rfl)
              cases hsn : seenR r x j
              all_goals
                rw [hsn] at HS
                clear hsn
                go_wp2_with (first | (refine wpList_load_mid rfl 27 _ rfl b (32 * j) rfl (cellsN o) _ HRA.out Tryd.underlying27 rfl (by rw [HLC.out]; exact oid_info') ?_; rw [cellsN_arr]) | (refine wpList_store_row rfl 27 _ _ rfl wc.heap.size _ rfl rfl 27 _ HNC.out (by rw [HLO.out]; exact oid_info') (by rw [HLO.out, u8s_size]; rfl) (u8s_one _) ?_) | (refine wpList_row_w (by rfl) 27 (.tmp 14) rfl wc.heap.size rfl 27 _ _ HPN.out Tryd.underlying27 rfl (by rw [HLO.out]; exact oid_info') ?_) | (refine wpList_row_w (by rfl) 27 (.tmp 11) rfl p6 rfl 27 _ _ HPO.out Tryd.underlying27 rfl (by rw [HLX.out]; exact oid_info') ?_))
                go_roundw
                case rel => exact ⟨j + 1, by omega, by go_num, by rw [HS.out]; simp, HBG.out⟩
                case measure => simp [intOf]; omega
            · obtain rfl : m = j := by omega
              have HSE : Hid (seenR r x m = true) := Lib.hid (by
                have h1 : x ∈ l := by
                  rw [HX.out]
                  have e : l.getD k [] = l[k]'(by rw [← HN.out]; exact hkn) := by simp [List.getD, show k < l.length by rw [← HN.out]; exact hkn]
                  rw [e]; exact List.getElem_mem _
                obtain ⟨i, hi, hi2⟩ := mem_getD ((HMEM.out x).2 h1)
                exact seenR_mem (by rw [HM.out]; exact hi) hi2)
              rw [HSE.out]
              have HBW : Hid (Below w3.heap.size w3 wc) := Lib.hid (HBB.out.trans (HBF.out.mono HBB.out.size))
              have HBD := Lib.hid (below_drewN HBW.out 1)
              have HPD := Lib.hid (HP.out.below HBF.out HP.out.lt).drew
              have heq := eq_oid x x HXX.out HXX.out
              rw [beq_self_eq_true] at heq
              have hri : wc.drew.rangeAt b2 (o2 + 32 * k) (cellsN x) := range_below HRA2.out HBD.out HB2L.out
              have HRI := Lib.hid hri
              have HB2D : Hid (b2 < wc.drew.heap.size) := Lib.hid (Nat.lt_of_lt_of_le HB2L.out HBD.out.size)
              clear hri
              go_wp2_with fail
              refine wp_region_held (S := (fun w' => Below wc.drew.heap.size wc.drew w')) (by kernel_rfl) ?_
              change wpAnyH _ _ _ _ _ _ _ _ wc.drew
              refine wpAnyH_take (i := 0) (v := ?_) rfl (by kernel_rfl) (by kernel_rfl) (by kernel_rfl) (fun _ _ _ h => h) (Or.inl ⟨by rfl, ?_⟩) (Below.refl _ _) ?_
              rotate_left
              · intro w _; go_simp; with_reducible rfl
              try simp only [Act.put, List.getElem_toArray, List.getElem_cons_zero, List.getElem_cons_succ, List.setIfInBounds_toArray, List.set_cons_zero, List.set_cons_succ]
              refine wpAnyH_take (i := 1) (v := ?_) rfl (by kernel_rfl) (by kernel_rfl) (by kernel_rfl) (fun _ _ _ h => h) (Or.inl ⟨by rfl, ?_⟩) (Below.refl _ _) ?_
              rotate_left
              · intro w _; go_simp; with_reducible rfl
              try simp only [Act.put, List.getElem_toArray, List.getElem_cons_zero, List.getElem_cons_succ, List.setIfInBounds_toArray, List.set_cons_zero, List.set_cons_succ]
              refine wpAnyH_take (i := 2) (v := ?_) rfl (by kernel_rfl) (by kernel_rfl) (by kernel_rfl) (fun _ _ _ h => h) (Or.inl ⟨by rfl, ?_⟩) (Below.refl _ _) ?_
              rotate_left
              · intro w _; go_simp; with_reducible rfl
              try simp only [Act.put, List.getElem_toArray, List.getElem_cons_zero, List.getElem_cons_succ, List.setIfInBounds_toArray, List.set_cons_zero, List.set_cons_succ]
              refine wpAnyH_take (i := 3) (v := ?_) rfl (by kernel_rfl) (by kernel_rfl) (by kernel_rfl) (fun _ _ _ h => h) (Or.inl ⟨by rfl, ?_⟩) (Below.refl _ _) ?_
              rotate_left
              · intro w _; go_simp; with_reducible rfl
              try simp only [Act.put, List.getElem_toArray, List.getElem_cons_zero, List.getElem_cons_succ, List.setIfInBounds_toArray, List.set_cons_zero, List.set_cons_succ]
              refine wpAnyH_take (i := 4) (v := ?_) rfl (by kernel_rfl) (by kernel_rfl) (by kernel_rfl) (fun _ _ _ h => h) (Or.inl ⟨by rfl, ?_⟩) (Below.refl _ _) ?_
              rotate_left
              · intro w _; go_simp; with_reducible rfl
              try simp only [Act.put, List.getElem_toArray, List.getElem_cons_zero, List.getElem_cons_succ, List.setIfInBounds_toArray, List.set_cons_zero, List.set_cons_succ]
              refine wpAnyH_take (i := 5) (v := ?_) rfl (by kernel_rfl) (by kernel_rfl) (by kernel_rfl) (fun _ _ _ h => h) (Or.inl ⟨by rfl, ?_⟩) (Below.refl _ _) ?_
              rotate_left
              · intro w _; go_simp; with_reducible rfl
              try simp only [Act.put, List.getElem_toArray, List.getElem_cons_zero, List.getElem_cons_succ, List.setIfInBounds_toArray, List.set_cons_zero, List.set_cons_succ]
              refine wpAnyH_take (i := 6) rfl (by kernel_rfl) (by kernel_rfl) (by kernel_rfl) (fun _ _ _ h => h) (yieldsIf_load_mid (by rfl) 27 _ rfl b2 _ rfl (cellsN x) _ (fun w4 h => range_below HRI.out h HB2D.out) Tryd.underlying27 rfl (by rw [HLCX.out]; exact oid_info')) (Below.refl _ _) ?_
              try simp only [Act.put, List.getElem_toArray, List.getElem_cons_zero, List.getElem_cons_succ, List.setIfInBounds_toArray, List.set_cons_zero, List.set_cons_succ]
              rw [cellsN_arr]
              refine wpAnyH_take (i := 7) rfl (by kernel_rfl) (by kernel_rfl) (by kernel_rfl) (fun _ _ _ h => h) (takes_row 27 (.tmp 11) rfl (by rfl) (p6) rfl 27 (u8s x) _ (fun w4 h => HPD.out.below h HPD.out.lt) Tryd.underlying27 rfl (by rw [HLX.out]; exact oid_info')) (Below.refl _ _) ?_
              try simp only [Act.put, List.getElem_toArray, List.getElem_cons_zero, List.getElem_cons_succ, List.setIfInBounds_toArray, List.set_cons_zero, List.set_cons_succ]
              refine wpAnyH_take (i := 8) (v := ?_) rfl (by kernel_rfl) (by kernel_rfl) (by kernel_rfl) (fun _ _ _ h => h) (Or.inl ⟨by rfl, ?_⟩) (Below.refl _ _) ?_
              rotate_left
              · intro w _; go_simp; with_reducible rfl
              try simp only [Act.put, List.getElem_toArray, List.getElem_cons_zero, List.getElem_cons_succ, List.setIfInBounds_toArray, List.set_cons_zero, List.set_cons_succ]
              refine wpAnyH_take (i := 9) (v := ?_) rfl (by kernel_rfl) (by kernel_rfl) (by kernel_rfl) (fun _ _ _ h => h) (Or.inl ⟨by rfl, ?_⟩) (Below.refl _ _) ?_
              rotate_left
              · intro w _; go_simp; with_reducible rfl
              try simp only [Act.put, List.getElem_toArray, List.getElem_cons_zero, List.getElem_cons_succ, List.setIfInBounds_toArray, List.set_cons_zero, List.set_cons_succ]
              refine wpAnyH_done (by kernel_rfl) ?_ _
              go_wp2_with fail
              go_roundw
              case rel => exact ⟨k + 1, by omega, by go_num, HBD.out⟩
              case measure => simp [intOf]; omega
        · obtain rfl : n = k := by omega
          go_wp2_with fail
          go_ret
          exact ⟨rfl, HB3.out.trans (HBE2.out.mono HB3.out.size)⟩
end Go.Proofs.YtmfdahigfnhidaaDoor.lawSorts
