/- The law's Row: objects that name each other. -/
import Derived.Test.YtlodalppnglclaaDoorMCl23s
import Derived.OwnWalk
import Derived.Deep.CutRange
import Derived.Deep.CutBlock
namespace Go.Proofs.YtlodalppnglclaaDoor
open Go Go.RowKit
theorem oid_info24 : (Tryd.prog.info? 37).map (fun i => (i.zero, i.size, i.bytes)) = some (some (.agg (cellsB (List.replicate 32 0)).toArray), 32, 32) := by kernel_rfl
theorem bts_info24 : (Tryd.prog.info? 40).map (fun i => (i.zero, i.size, i.bytes)) = some (some (.slice none 0 0), 1, 24) := by kernel_rfl
theorem lkC_one (l : Cl.Lk) : (lkC l).toArray.all (·.oneCell') = true := by
  simp [lkC, Value.oneCell']
theorem vals_one (a : Act) (i : Nat) (x : Operand) (v : Value) (h : a.eval x = v) : ((#[(i, x)] : Array (Nat × Operand)).map fun (i, x) => (i, a.eval x)).toList = [(i, v)] := by subst h; simp
theorem vals_two (a : Act) (i j : Nat) (x y : Operand) (v u : Value) (h : a.eval x = v) (h2 : a.eval y = u) : ((#[(i, x), (j, y)] : Array (Nat × Operand)).map fun (i, x) => (i, a.eval x)).toList = [(i, v), (j, u)] := by subst h h2; simp
abbrev zLk : Array Value := #[.int .i64 0, .slice none 0 0, .int .u8 0]
set_option maxRecDepth 100000 in
set_option maxHeartbeats 16000000 in
theorem lrow_any (A : Option Addr) (n c : Nat) (ls : List Cl.Lk) (a : Nat → Addr) (w : World) (h : LkT w A n ls) (ht : Tabs w) (hF : w.cell? ⟨0, 0, none⟩ = some (ev (a 3))) :
    Calls Tryd.prog 16 #[.slice A n c] w (RowPost w) := by
  by_cases h20 : 20 < n
  · have g1 : (20 : Int) < (n : Int) := by omega
    clear h ht hF h20
    go_enter Tryd.func16, Tryd.ntmps16
    go_wp2
    go_ret3
    exact ⟨_, _, ((Below.refl _ _).alloc (Nat.le_refl _) _).alloc (by simp) _, Or.inl rfl⟩
  have g1 : ¬ (20 : Int) < (n : Int) := by omega
  have HLK := Lib.hid h
  have HTB := Lib.hid ht
  have HFM := Lib.hid hF
  have HN := Lib.hid h20
  have HW0 : Hid (RowSt w ((w.alloc (.cells #[] 40)).alloc (.cells #[] 37)) (.slice (some ⟨w.heap.size, 0, none⟩) 0 0) (.slice (some ⟨w.heap.size + 1, 0, none⟩) 0 0) [] [] []) := Lib.hid ⟨own_below (own_new (Nat.le_refl _)) ((Below.refl _ _).alloc (Nat.le_refl _) _), by
      have h1 := own_new (w := w.alloc (.cells #[] 40)) (t := 37) (z := 32) (B := w.heap.size) (by simp)
      simpa [cellsP] using h1, fun p hp => (by cases hp), ((Below.refl _ _).alloc (Nat.le_refl _) _).alloc (by simp) _⟩
  clear h ht hF h20
  go_enter Tryd.func16, Tryd.ntmps16
  go_wp2
  generalize (w.alloc (.cells #[] 40)).alloc (.cells #[] 37) = w1 at HW0 ⊢
  go_loopw [5, 6, 24] (fun vo va i wr => ∃ (k : Nat) (its : List Cl.T), k ≤ n ∧ i = .int .i64 k ∧ Hid (RowSt w wr vo va its its (its.map fun p => Sha.sum p.text)) ∧ Hid (its.length = k)) (fun _ _ i _ => n - (intOf i).toNat)
  case atStart => exact ⟨0, [], Nat.zero_le _, rfl, HW0, Lib.hid rfl⟩
  case round =>
    obtain ⟨k, its, hk, rfl, HRS, HIL⟩ := hrel
    by_cases hlt : k < n
    rotate_left
    · obtain rfl : k = n := by omega
      have ik : ¬ ((k : Nat) : Int) < k := by omega
      have HF := Lib.hid (And.intro HRS.out (show its.length ≤ 20 by have := HIL.out; have := HN.out; omega))
      go_wp2
      go_ret3
      exact ⟨_, _, HF.out.1.bel, Or.inr ⟨rfl, its, HF.out⟩⟩
    obtain ⟨Ao, co, hvo⟩ := own_slice HRS.out.oo
    obtain ⟨Aa, ca, hva⟩ := own_slice HRS.out.oa
    rw [List.length_map] at hva
    rw [HIL.out] at hvo hva
    subst hvo hva
    have HAL : Hid (∀ w', Below wr.heap.size wr w' → ∀ r, r < k → ∃ b o x, Aa = some ⟨b, o, none⟩ ∧ Hid (Id32 x) ∧ Hid (w'.rangeAt b (o + r * 32) (cellsB x))) := Lib.hid (fun w' hb r hr => by
      have h1 := HRS.out.oa
      rw [List.length_map, HIL.out] at h1
      obtain ⟨A', c', hv, _, hx⟩ := (rdk_own h1).below hb (Nat.le_refl _)
      injection hv with e1 _ _
      obtain ⟨b, o, ha, _, hx⟩ := hx (by omega)
      have hr2 : r < (its.map fun p => Sha.sum p.text).length := by rw [List.length_map, HIL.out]; exact hr
      have hid : ∀ x ∈ its.map fun p => Sha.sum p.text, Id32 x := fun x hx => by
        obtain ⟨p, _, rfl⟩ := List.mem_map.1 hx
        exact cl_sum_id _
      refine ⟨b, o, (its.map fun p => Sha.sum p.text).getD r [], e1.trans ha, Lib.hid (hid _ (by rw [List.getD_eq_getElem?_getD, List.getElem?_eq_getElem hr2]; exact List.getElem_mem hr2)), Lib.hid (fun j u hu => ?_)⟩
      rw [Nat.add_assoc]
      exact hx _ u (cellsP_at hid hr2 hu))
    have HKN : Hid (k < 20) := Lib.hid (by have := HN.out; omega)
    obtain ⟨l, hl⟩ : ∃ l, ls[k]? = some l := ⟨ls[k]'(by have := HLK.out.len; omega), List.getElem?_eq_getElem _⟩
    obtain ⟨b, o, rfl, hbl, hcell⟩ := HLK.out.row (by omega)
    have HRG : Hid (wr.rangeAt b (o + k * 3) (lkC l)) := Lib.hid (fun j u hu => (HRS.out.bel.cell (p := ⟨b, _, none⟩) hbl).trans (hcell k l hl j u hu))
    obtain ⟨hln, hlx, hlm, hlr⟩ := HLK.out.rd l (List.mem_of_getElem? hl)
    have HLN := Lib.hid hln
    have HLX := Lib.hid hlx
    have HLM := Lib.hid hlm
    have HLR : Hid (∀ w', Below wr.heap.size wr w' → 0 < l.n → ∃ b o, l.A = some ⟨b, o, none⟩ ∧ ∀ j z, l.to[j]? = some z → w'.cell? ⟨b, o + j, none⟩ = some (.int .i64 z)) := Lib.hid (fun w' hb h0 => by
      obtain ⟨b, o, h1, h2, h3⟩ := hlr h0
      have h4 := below_next HRS.out.bel hb
      exact ⟨b, o, h1, fun j z hj => (h4.cell (p := ⟨b, _, none⟩) h2).trans (h3 j z hj)⟩)
    have i1 : ((k : Nat) : Int) < n := by omega
    have i2 : (0 : Int) ≤ ((k : Nat) : Int) := by omega
    have i3 : ((k : Nat) : Int) < 20 := by have := HKN.out; omega
    have HLT := Lib.hid hlt
    clear hl hcell hbl hln hlx hlm hlr hk hlt
    go_wp2_with (with_reducible (show wpList _ _ _ (Oper.mk _ (Op.load 76 _) _ _ _ _ :: _) _ _); refine pause ?_)
    unfold Paused
    refine wpList_mid_w (by rfl) 76 (.tmp 26) (by rfl) b (o + k * 3) (by rfl) (lkC l) _ HRG.out Tryd.underlying76 (by rfl) (by kernel_rfl) ?_
    go_wp2_with (with_reducible (show wpList _ _ _ (Oper.mk _ (Op.store 76 _ _) _ _ _ _ :: _) _ _); refine pause ?_)
    unfold Paused
    change wpList _ _ _ _ _ (wr.alloc (.cells zLk 76))
    refine wpList_store_row (by rfl) 76 (.tmp 8) (.tmp 27) (by rfl) wr.heap.size (lkC l).toArray (by rfl) (by rfl) 76 zLk (Blk.new wr _ _) (by kernel_rfl) (by rfl) (lkC_one l) ?_
    have HB2 : Hid (Below wr.heap.size wr ((wr.alloc (.cells zLk 76)).setRow wr.heap.size (lkC l).toArray)) := Lib.hid (below_row ((Below.refl _ _).alloc (Nat.le_refl _) _) (Nat.le_refl _) _)
    have HL2 : Hid (Blk ((wr.alloc (.cells zLk 76)).setRow wr.heap.size (lkC l).toArray) wr.heap.size 76 (lkC l).toArray) := Lib.hid ((Blk.new wr _ _).row _)
    clear HRG
    generalize (wr.alloc (.cells zLk 76)).setRow wr.heap.size (lkC l).toArray = w2 at HB2 HL2 ⊢
    obtain ⟨gl, hgl⟩ : ∃ g, g = wr.heap.size := ⟨_, rfl⟩
    have HGL : Hid (wr.heap.size ≤ gl) := Lib.hid (by omega)
    rw [← hgl] at HL2 ⊢
    clear hgl
    simp only [Act.put]
    have p0 : w2.cell? ⟨gl, 0, none⟩ = some (.int .i64 l.kind) := HL2.out.cell 0
    obtain ⟨r, hr4, hf1, hf2, hf3⟩ := lk_rem l.kind 4 (by omega) (by omega) 1 (by omega)
    have hf1 : (IntKind.u64.wrap l.kind).tmod 4 = (r : Int) := hf1
    have hf3 : wrap64 (1 + (r : Int)) = ((1 + r : Nat) : Int) := hf3
    obtain ⟨q, hq⟩ : ∃ q, q = 1 + r := ⟨_, rfl⟩
    rw [← hq] at hf3
    have HQ : Hid (1 ≤ q ∧ q ≤ 4) := Lib.hid (by omega)
    clear hr4 hq
    go_wp2_with (with_reducible (show wpList _ _ _ (Oper.mk _ (Op.build 50 _) _ _ _ _ :: _) _ _); refine pause ?_)
    unfold Paused
    simp only [hf2, hf3]
    refine wpList_buildK (by rfl) 50 _ (by rfl) [(0, .int .i64 (q : Int))] (vals_one _ _ _ _ (by rfl)) _ (obj_built _) ?_
    go_wp2_with (with_reducible (show wpList _ _ _ (Oper.mk _ (Op.store 50 _ _) _ _ _ _ :: _) _ _); refine pause ?_)
    unfold Paused
    clear hf1 hf2 hf3
    change wpList _ _ _ _ _ (w2.alloc (.cells zOc 50))
    refine wpList_store_row (by rfl) 50 (.tmp 9) (.tmp 34) (by rfl) w2.heap.size (cellsOb q nilV nilV nilV zid).toArray (by rfl) (by rfl) 50 zOc (Blk.new w2 _ _) (by rw [cellsOb_size _ _ _ _ _ zid_id.1]; kernel_rfl) (by rw [cellsOb_size _ _ _ _ _ zid_id.1]; rfl) (cellsOb_one _ none none none 0 0 0 0 0 0 _) ?_
    have hb4 : Below w2.heap.size w2 ((w2.alloc (.cells zOc 50)).setRow w2.heap.size (cellsOb q nilV nilV nilV zid).toArray) := below_row ((Below.refl _ _).alloc (Nat.le_refl _) _) (Nat.le_refl _) _
    have HL4 := Lib.hid (HL2.out.below hb4 HL2.out.lt)
    have HO4 : Hid (Blk ((w2.alloc (.cells zOc 50)).setRow w2.heap.size (cellsOb q nilV nilV nilV zid).toArray) w2.heap.size 50 (cellsOb q nilV nilV nilV zid).toArray) := Lib.hid ((Blk.new w2 _ _).row _)
    have HB4 := Lib.hid (below_next HB2.out hb4)
    have HGO : Hid (wr.heap.size ≤ w2.heap.size ∧ gl < w2.heap.size) := Lib.hid ⟨HB2.out.size, HL2.out.lt⟩
    clear hb4 HL2 HB2 p0
    generalize (w2.alloc (.cells zOc 50)).setRow w2.heap.size (cellsOb q nilV nilV nilV zid).toArray = w4 at HL4 HO4 HB4 ⊢
    generalize w2.heap.size = go at HO4 HGO ⊢
    simp only [Act.put]
    go_wp2_with (with_reducible (show wpList _ _ _ (Oper.mk _ (Op.load 74 _) _ _ _ _ :: _) _ _); refine pause ?_)
    unfold Paused
    have HTO5 : Hid (ToSt w4 (w4.alloc (.cells #[] 37)) (.slice (some ⟨w4.heap.size, 0, none⟩) 0 0) []) := Lib.hid ⟨own_new (Nat.le_refl _), fun x hx => (by cases hx), by simp, (Below.refl _ _).alloc (Nat.le_refl _) _⟩
    change wpList _ _ _ _ _ (w4.alloc (.cells #[] 37))
    have p1 : (w4.alloc (.cells #[] 37)).cell? ⟨gl, 1, none⟩ = some (.slice l.A l.n l.c) := (HL4.out.alloc _).cell 1
    generalize w4.alloc (.cells #[] 37) = w5 at HTO5 p1 ⊢
    generalize w4.heap.size = g5 at HTO5 ⊢
    go_wp2
    clear p1
    obtain ⟨wp, hwp⟩ : ∃ wp, wp = wr := ⟨_, rfl⟩
    subst hwp
    go_loopw [10, 39] (fun v i wx => ∃ (j : Nat) (tl : List (List Nat)), j ≤ l.n ∧ i = .int .i64 j ∧ Hid (ToSt w4 wx v tl)) (fun _ i _ => l.n - (intOf i).toNat)
    case atStart => exact ⟨0, [], Nat.zero_le _, rfl, HTO5⟩
    case round =>
      obtain ⟨j, tl, hj, rfl, HTO⟩ := hrel
      obtain ⟨At, ct, hvt⟩ := own_slice HTO.out.own
      subst hvt
      obtain ⟨nt, hnt⟩ : ∃ m, m = tl.length := ⟨_, rfl⟩
      rw [← hnt] at HTO ⊢
      have HNT := Lib.hid hnt
      clear hnt
      rcases Nat.lt_or_ge j l.n with hlj | hlj
      · obtain ⟨b2, o2, hA2, hx2⟩ := HLR.out wr (below_next HB4.out HTO.out.bel) (by omega)
        obtain ⟨z, hz⟩ : ∃ z, l.to[j]? = some z := ⟨l.to[j]'(by have := HLN.out; omega), List.getElem?_eq_getElem _⟩
        have p1 : wr.cell? ⟨b2, o2 + j, none⟩ = some (.int .i64 z) := hx2 j z hz
        rw [hA2]
        have j1 : ((j : Nat) : Int) < (l.n : Int) := by omega
        have j2 : (0 : Int) ≤ ((j : Nat) : Int) := by omega
        have j3 : (l.n : Int) ≤ 9223372036854775807 := by have := HLM.out; omega
        have HLJ := Lib.hid hlj
        clear hx2 hz hj hlj
        by_cases hk0 : k = 0
        · have k0 : ¬ (0 : Int) < ((k : Nat) : Int) := by omega
          clear hk0
          go_wp2
          go_roundw
          case rel => exact ⟨j + 1, tl, HLJ.out, by go_num, HTO⟩
          case measure => have := HLJ.out; simp [intOf]; omega
        have k0 : (0 : Int) < ((k : Nat) : Int) := by omega
        by_cases ht4 : nt < 4
        rotate_left
        · have k1 : ¬ ((nt : Nat) : Int) < 4 := by omega
          clear hk0 ht4
          go_wp2
          go_roundw
          case rel => exact ⟨j + 1, tl, HLJ.out, by go_num, HTO⟩
          case measure => have := HLJ.out; simp [intOf]; omega
        have k1 : ((nt : Nat) : Int) < 4 := by omega
        have HT4 := Lib.hid ht4
        have HRM := Lib.hid (lk_rem z k (by omega) (by have := HKN.out; omega) 0 (by omega))
        have HF0 : Hid (IntKind.u64.wrap (k : Int) = (k : Int)) := Lib.hid (to_u64 k (by have := HKN.out; omega))
        have HK0 : Hid (0 < k) := Lib.hid (by omega)
        have HNT4 : Hid (nt ≤ 4) := Lib.hid (by omega)
        clear hk0 ht4
        go_wp2_with (with_reducible (show wpList _ _ _ (Oper.mk _ (Op.indexAddr 23 _ _) _ _ _ _ :: _) _ _); refine pause ?_)
        unfold Paused
        obtain ⟨r2, hr2, hf1, hf2, _⟩ := HRM.out
        have hf0 := HF0.out
        obtain ⟨ba, oa, x, rfl, HIX, HRX⟩ := HAL.out wr (below_next HB4.out HTO.out.bel) r2 hr2
        have r1 : ((r2 : Nat) : Int) < (k : Int) := Int.ofNat_lt.2 hr2
        have r0 : (0 : Int) ≤ ((r2 : Nat) : Int) := Int.natCast_nonneg _
        simp only [hf1, hf2]
        clear hr2 hf0 hf1 hf2 HRM HF0
        go_wp2_with (with_reducible (show wpList _ _ _ (Oper.mk _ (Op.load 37 _) _ _ _ _ :: _) _ _); refine pause ?_)
        unfold Paused
        refine wpList_mid_w (by rfl) 37 (.tmp 60) (by rfl) ba (oa + r2 * 32) (by rfl) (cellsB x) _ HRX.out Tryd.underlying37 (by rfl) (by rw [cellsP1_len HIX.out]; kernel_rfl) ?_
        obtain ⟨ip, hip, hpz, hps, hpb⟩ := info_parts oid_info24
        go_wp2_with (with_reducible (show wpList _ _ _ (Oper.mk _ (Op.buildSlice _ _ _) _ _ _ _ :: _) _ _); refine pause ?_)
        unfold Paused
        refine wpList_buildSliceK (by rfl) 23 37 1 _ (by rfl) (cellsB x).toArray ip (.agg (cellsB (List.replicate 32 0)).toArray) Tryd.underlying23 hip hpz (by rw [hps]; decide) (by rw [hps]; decide) _ (by kernel_rfl) (by rw [hps]; exact fill_one 32 (Value.agg (cellsB (List.replicate 32 0)).toArray).cells _ (cellsP1_len HIX.out) (by rfl)) ?_
        have b7 : Below wr.heap.size wr (wr.alloc (.cells (cellsB x).toArray 37)) := (Below.refl _ _).alloc (Nat.le_refl _) _
        have HX7 := Lib.hid (Blk.new wr 37 (cellsB x).toArray)
        have HT7 := Lib.hid (HTO.out.below b7)
        clear b7
        generalize wr.alloc (.cells (cellsB x).toArray 37) = w7 at HX7 HT7 ⊢
        generalize wr.heap.size = g7 at HX7 ⊢
        have HO7 : Hid (w7.ownsRow w4.heap.size 37 32 (.slice At nt ct) nt (cellsP tl)) := Lib.hid (by have h1 := HT7.out.own; rwa [← HNT.out] at h1)
        go_wp2_with (with_reducible (show wpList _ _ _ (Oper.mk _ (Op.call (Call.mk (Callee.builtin Builtin.append) _ _)) _ _ _ _ :: _) _ _); refine pause ?_)
        unfold Paused
        refine wpList_append_lies w7 (by rfl) (.tmp 51) (.tmp 62) 23 (by rfl) w4.heap.size 37 ip _ 32 32 Tryd.underlying23 hip hpz hps hpb (by rfl) (by decide) (.slice At nt ct) nt (cellsP tl) (by rfl) HO7.out ⟨g7, 0, none⟩ 1 1 (cellsB x) (by rfl) (by rw [cellsP1_len HIX.out]) (fun j u hj => by rw [Addr.add_mid, Nat.zero_add, HX7.out.cell j]; simpa using hj) (cellsB_one _) (by decide) (by have := HT4.out; unfold maxLen; omega) (by have := HT4.out; omega) HT7.out.bel.size w7.heap.size rfl ?_
        intro g8 c8 w8 ho8 hg8 hl8 _
        have HN8 : Hid (ToSt w4 w8 (.slice (some ⟨g8, 0, none⟩) (nt + 1) c8) (tl ++ [x])) := Lib.hid (HT7.out.put HIX.out (by rw [← HNT.out]; exact HT4.out) (by rw [← HNT.out]; exact ho8) hg8)
        clear ho8 hg8 hl8 hip hpz hps hpb
        simp only [Act.put]
        have hlen : (tl ++ [x]).length = nt + 1 := by rw [List.length_append, List.length_singleton, HNT.out]
        go_wp2
        go_roundw
        case rel => exact ⟨j + 1, tl ++ [x], HLJ.out, by go_num, HN8⟩
        case measure => have := HLJ.out; simp [intOf]; omega
      · obtain rfl : j = l.n := by omega
        have ij : ¬ ((l.n : Nat) : Int) < l.n := by omega
        clear hj hlj
        have HBW : Hid (BW wp wr go ⟨(q : Int), [], [], zid, []⟩ none none 0 0) := Lib.hid ⟨HO4.out.below HTO.out.bel HO4.out.lt, World.ownsRow_nil _ _ _ _, World.ownsRow_nil _ _ _ _, below_next HB4.out HTO.out.bel, HGO.out.1⟩
        have HL5 := Lib.hid (HL4.out.below HTO.out.bel HL4.out.lt)
        have HG4 : Hid (go < w4.heap.size) := Lib.hid HO4.out.lt
        have p0 : wr.cell? ⟨go, 0, none⟩ = some (.int .i64 (q : Int)) := HBW.out.box.cell 0
        have p2 : wr.cell? ⟨gl, 2, none⟩ = some (.int .u8 (l.text : Int)) := HL5.out.cell 2
        have HNT4 : Hid (nt ≤ 4) := Lib.hid (by have := HTO.out.few; rw [← HNT.out] at this; exact this)
        obtain ⟨wa, hwa⟩ : ∃ wa, wa = wr.alloc (.cells #[.int .u8 (l.text : Int)] 5) := ⟨_, rfl⟩
        have q1 : wa.cell? ⟨go, 1, none⟩ = some nilV := by rw [hwa]; exact (HBW.out.box.alloc _).cell 1
        have z1 : wa.frozen? ⟨go, 1, none⟩ = false := by rw [hwa]; exact (HBW.out.box.alloc _).frozen 1
        have HW6 := Lib.hid (HBW.out.put1 (z := l.text))
        rw [← hwa] at HW6
        have HWA := Lib.hid hwa
        have ewa := hwa.symm
        clear hwa
        clear HL4 HO4
        go_upto_block 4 with fail
        go_cut [24] from 24 to 133 (fun i wx => i = .int .i64 (k : Int) ∧ Hid (ObjAt wp wx go))
        case first =>
          have hq4 : q = 1 ∨ q = 2 ∨ q = 3 ∨ q = 4 := by have := HQ.out; omega
          by_cases hq1 : q = 1
          · have b1 : ((q : Int) == 1) = true := by rw [hq1]; rfl
            have HFX : Hid (Ob.Fit ⟨(q : Int), [l.text], [], zid, []⟩) := Lib.hid ⟨byte_of (fun x hx => by rw [List.mem_singleton.1 hx]; exact HLX.out), fun _ h => (by cases h), zid_id, fun _ h => (by cases h)⟩
            have HHX : Hid (Ob.Held ⟨(q : Int), [l.text], [], zid, []⟩) := Lib.hid ⟨fun _ h => (by cases h), by show (1 : Nat) ≤ _; omega⟩
            have HAT := Lib.hid (HW6.out.at_ rfl HFX.out HHX.out)
            clear hq4 hq1
            go_wp2
            go_meet
            exact ⟨rfl, HAT⟩
          by_cases hq2 : q = 2
          rotate_left
          · have b1 : ((q : Int) == 1) = false := by simp; omega
            have b2 : ((q : Int) == 2) = false := by simp; omega
            have HFX : Hid (Ob.Fit ⟨(q : Int), [l.text], [], zid, []⟩) := Lib.hid ⟨byte_of (fun x hx => by rw [List.mem_singleton.1 hx]; exact HLX.out), fun _ h => (by cases h), zid_id, fun _ h => (by cases h)⟩
            have HHX : Hid (Ob.Held ⟨(q : Int), [l.text], [], zid, []⟩) := Lib.hid ⟨fun _ h => (by cases h), by show (1 : Nat) ≤ _; omega⟩
            have HTOa : Hid (wa.ownsRow w4.heap.size 37 32 (.slice At nt ct) nt (cellsP tl)) := Lib.hid (by
              have h1 := own_below HTO.out.own (show Below wr.heap.size wr wa from HWA.out ▸ (Below.refl _ _).alloc (Nat.le_refl _) _)
              rw [← HNT.out] at h1; exact h1)
            have HTO6 := Lib.hid (own_put HTOa.out (grown_cell wa go 1 (.slice (some ⟨wr.heap.size, 0, none⟩) 1 1)) HG4.out)
            have b3 : ((q : Int) == 3) = decide (q = 3) := by rw [Bool.eq_iff_iff]; simp; omega
            clear hq4 hq1 hq2 HTOa
            obtain ⟨β3, hβ3⟩ : ∃ β, β = decide (q = 3) := ⟨_, rfl⟩
            rw [← hβ3] at b3
            clear hβ3
            by_cases hn0 : nt = 0
            · have n0 : ¬ (0 : Int) < ((nt : Nat) : Int) := by omega
              have n1 : ¬ (1 : Int) < ((nt : Nat) : Int) := by omega
              have HAT := Lib.hid (HW6.out.at_ rfl HFX.out HHX.out)
              clear hn0
              go_wp2_with (with_reducible (show wpList _ _ _ (Oper.mk _ (Op.load 3 _) _ _ _ _ :: _) _ _); refine pause ?_)
              unfold Paused
              generalize wa.setCell ⟨go, 1, none⟩ (.slice (some ⟨wr.heap.size, 0, none⟩) 1 1) = w6 at HW6 HTO6 HAT ⊢
              have p06 : w6.cell? ⟨go, 0, none⟩ = some (.int .i64 (q : Int)) := HW6.out.box.cell 0
              cases β3
              · go_wp2
                go_meet
                exact ⟨rfl, HAT⟩
              · go_wp2
                go_meet
                exact ⟨rfl, HAT⟩
            obtain ⟨x, tl2, htl⟩ : ∃ x r, tl = x :: r := by
              cases tl with
              | nil => exact absurd HNT.out hn0
              | cons x r => exact ⟨x, r, rfl⟩
            have HIX : Hid (Id32 x) := Lib.hid (HTO.out.ids x (by rw [htl]; simp))
            have HI2 : Hid (∀ y ∈ tl2, Id32 y) := Lib.hid (fun y hy => HTO.out.ids y (by rw [htl]; simp [hy]))
            obtain ⟨n1', hn1'⟩ : ∃ m, nt = m + 1 := ⟨nt - 1, by omega⟩
            have HT2 : Hid (tl2.length = n1') := Lib.hid (by have := HNT.out; rw [htl, List.length_cons] at this; omega)
            obtain ⟨A', c', hv', hc', hA'⟩ := rdk_own HTO6.out
            injection hv' with e1 e2 e3
            clear e2
            obtain ⟨gt, ot, hat, _, hxt⟩ := hA' (by omega)
            obtain ⟨g', cap', cur', hvt', _⟩ : ∃ g cap cur, (Value.slice At nt ct) = .slice (some ⟨g, 0, none⟩) nt cap ∧ cur = cap := by
              rcases HTO6.out.2 with ⟨_, h0⟩ | ⟨g, cap, cur, h1, _⟩
              · omega
              · exact ⟨g, cap, _, h1, rfl⟩
            injection hvt' with ea eb9 ec9
            clear eb9 ec9
            have hot : gt = g' ∧ ot = 0 := by
              rw [← e1, ea] at hat
              injection hat with hat
              injection hat with h1 h2
              exact ⟨h1.symm, h2.symm⟩
            obtain ⟨rfl, rfl⟩ := hot
            subst ea
            have HXR : Hid (∀ j u, (cellsB x)[j]? = some u → (wa.setCell ⟨go, 1, none⟩ (.slice (some ⟨wr.heap.size, 0, none⟩) 1 1)).cell? ⟨gt, 0 + j, none⟩ = some u) := Lib.hid (fun j u hu => hxt j u (by
              rw [htl]
              show (cellsB x ++ cellsP tl2)[j]? = some u
              rw [List.getElem?_append_left (List.getElem?_eq_some_iff.1 hu).1]; exact hu))
            have n0 : (0 : Int) < ((nt : Nat) : Int) := by omega
            have HN1 := Lib.hid hn1'
            have HTLX := Lib.hid htl
            have HCT : Hid (nt ≤ ct) := Lib.hid (by rw [e3]; exact hc')
            clear hc' hA' hat hxt e1 e3 hn0 htl hn1'
            go_wp2_with (with_reducible (show wpList _ _ _ (Oper.mk _ (Op.load 37 _) _ _ _ _ :: _) _ _); refine pause ?_)
            unfold Paused
            generalize wa.setCell ⟨go, 1, none⟩ (.slice (some ⟨wr.heap.size, 0, none⟩) 1 1) = w6 at HW6 HTO6 HXR ⊢
            refine wpList_mid_w (by rfl) 37 (.tmp 75) (by rfl) gt 0 (by rfl) (cellsB x) _ HXR.out Tryd.underlying37 (by rfl) (by rw [cellsP1_len HIX.out]; kernel_rfl) ?_
            go_wp2_with (with_reducible (show wpList _ _ _ (Oper.mk _ (Op.store 37 _ _) _ _ _ _ :: _) _ _); refine pause ?_)
            unfold Paused
            refine wpList_store_mid (by rfl) 37 (.tmp 77) (.tmp 76) (by rfl) go 3 (cellsB x).toArray (by rfl) (by rfl) (there_of HW6.out.box (by rw [cellsOb_size _ _ _ _ _ zid_id.1, List.size_toArray, cellsB_len, HIX.out.1]; omega)) (by rw [List.size_toArray, cellsB_len, HIX.out.1]; exact oid_size) (u8s_one x) ?_
            have HW7 := Lib.hid (HW6.out.put3 (tg := x) zid_id.1 HIX.out.1)
            have HTO7 := Lib.hid (own_put HTO6.out (grown_cells go (cellsB x) 3 w6 w6 (World.grownBy.refl _ _)) HG4.out)
            change wpList _ _ _ _ _ (w6.setCells go 3 (cellsB x))
            clear HW6 HTO6 HXR
            generalize w6.setCells go 3 (cellsB x) = w7 at HW7 HTO7 ⊢
            simp only [Act.put]
            have p07 : w7.cell? ⟨go, 0, none⟩ = some (.int .i64 (q : Int)) := HW7.out.box.cell 0
            have HFY : Hid (Ob.Fit ⟨(q : Int), [l.text], [], x, []⟩) := Lib.hid ⟨HFX.out.text, fun _ h => (by cases h), HIX.out, fun _ h => (by cases h)⟩
            have HHY : Hid (Ob.Held ⟨(q : Int), [l.text], [], x, []⟩) := Lib.hid ⟨fun _ h => (by cases h), by show (1 : Nat) ≤ _; omega⟩
            have HAT := Lib.hid (HW7.out.at_ rfl HFY.out HHY.out)
            cases β3
            · go_wp2
              go_meet
              exact ⟨rfl, HAT⟩
            by_cases hn2 : nt = 1
            · have n1 : ¬ (1 : Int) < ((nt : Nat) : Int) := by omega
              clear hn2
              go_wp2
              go_meet
              exact ⟨rfl, HAT⟩
            have n1 : (1 : Int) < ((nt : Nat) : Int) := by omega
            have q35 : w7.cell? ⟨go, 35, none⟩ = some nilV := (HW7.out.box.cell 35).trans (cellsOb_get35 _ _ _ _ _ HIX.out.1)
            have z35 : w7.frozen? ⟨go, 35, none⟩ = false := HW7.out.box.frozen 35
            have hsl : (Instr.slice 23 (.slice (some ⟨gt, 0, none⟩) nt ct) (some (.int .i64 1)) none none).run Tryd.prog w7 = .ok (.slice (some ⟨gt, 32, none⟩) (nt - 1) (ct - 1)) w7 := run_sliceLo_k (k := 32) (l := 1) Tryd.underlying23 oid_size gt 0 nt ct (by omega) (by have := HCT.out; omega) rfl w7
            have HAT2 : Hid (ObjAt wp (w7.setCell ⟨go, 35, none⟩ (.slice (some ⟨gt, 32, none⟩) (nt - 1) (ct - 1))) go) := Lib.hid (by
              have hg := grown_cell w7 go 35 (.slice (some ⟨gt, 32, none⟩) (nt - 1) (ct - 1))
              have hb := HW7.out.box.set_ 35 (.slice (some ⟨gt, 32, none⟩) (nt - 1) (ct - 1))
              rw [cellsOb_k35 _ _ _ _ _ _ HIX.out.1] at hb
              have hr : RdK (w7.setCell ⟨go, 35, none⟩ (.slice (some ⟨gt, 32, none⟩) (nt - 1) (ct - 1))) (.slice (some ⟨gt, 32, none⟩) (nt - 1) (ct - 1)) (nt - 1) (cellsP tl2) := by
                have h1 := own_put HTO7.out hg HG4.out
                rw [HN1.out, HTLX.out] at h1
                have h2 := rdk_rest h1 HIX.out.1
                rw [HN1.out]
                exact h2
              have hlen : nt - 1 = tl2.length := by have h1 := HT2.out; have h2 := HN1.out; omega
              rw [hlen] at hb hr hg ⊢
              exact ⟨⟨(q : Int), [l.text], [], x, tl2⟩, _, some ⟨wr.heap.size, 0, none⟩, none, some ⟨gt, 32, none⟩, 1, 0, ct - 1, hb, ⟨rfl, rd_own (own_put HW7.out.text hg (Nat.lt_succ_self go)), RdK.nil _ _, hr⟩, ⟨HFX.out.text, fun _ h => (by cases h), HIX.out, HI2.out⟩, ⟨fun _ h => (by cases h), by show (1 : Nat) ≤ _; omega⟩, cellsOb_size _ _ _ _ _ HIX.out.1, cl_grow HW7.out.bel hg (fun y hy => by injection hy with hy; have := HW7.out.old; omega)⟩)
            clear hn2 HAT
            go_wp2
            go_meet
            exact ⟨rfl, HAT2⟩
          have b1 : ((q : Int) == 1) = false := by simp; omega
          have b2 : ((q : Int) == 2) = true := by simp; omega
          have HWB : Hid (BW wp wr go ⟨(q : Int), [], [], zid, []⟩ none none 0 0) := HBW
          have HTOr : Hid (wr.ownsRow w4.heap.size 37 32 (.slice At nt ct) nt (cellsP tl)) := Lib.hid (by
            have h1 := HTO.out.own
            rw [← HNT.out] at h1; exact h1)
          have HIDS := Lib.hid HTO.out.ids
          clear hq4 hq1 hq2 ewa q1 z1 p2
          go_wp2
          obtain ⟨wq, hwq⟩ : ∃ wq, wq = wr := ⟨_, rfl⟩
          subst hwq
          go_loopw [99] (fun i wx => ∃ (j : Nat) (es : List Ent) (E : Option Addr) (ec : Nat), j ≤ nt ∧ i = .int .i64 j ∧ Hid (BW wp wx go ⟨(q : Int), [], es, zid, []⟩ none E 0 ec) ∧ Hid (es.length = j ∧ ∀ e ∈ es, Id32 e.id ∧ e.name.size = 1) ∧ Hid (wx.ownsRow w4.heap.size 37 32 (.slice At nt ct) nt (cellsP tl))) (fun i _ => nt - (intOf i).toNat)
          case atStart => exact ⟨0, [], none, 0, Nat.zero_le _, rfl, HWB, Lib.hid ⟨rfl, fun _ h => (by cases h)⟩, HTOr⟩
          case round =>
            obtain ⟨j2, es, E, ec, hj2, rfl, HE, HES, HTR⟩ := hrel
            rcases Nat.lt_or_ge j2 nt with hlj2 | hlj2
            rotate_left
            · obtain rfl : j2 = nt := by omega
              have ij2 : ¬ ((j2 : Nat) : Int) < j2 := by omega
              have HAT := Lib.hid (HE.out.at_ rfl ⟨byte_of (fun _ h => (by cases h)), fun e he => (HES.out.2 e he).1, zid_id, fun _ h => (by cases h)⟩ ⟨fun e he => by have := (HES.out.2 e he).2; omega, by show (0 : Nat) ≤ _; omega⟩)
              clear hj2 hlj2
              go_wp2
              go_meet
              exact ⟨rfl, HAT⟩
            have hjt : j2 < tl.length := by rw [← HNT.out]; exact hlj2
            have HIX : Hid (Id32 (tl.getD j2 [])) := Lib.hid (HIDS.out _ (by rw [List.getD_eq_getElem?_getD, List.getElem?_eq_getElem hjt]; exact List.getElem_mem hjt))
            obtain ⟨A', c', hv', _, hA'⟩ := rdk_own HTR.out
            injection hv' with e1 e2 e3
            clear e2 e3
            obtain ⟨gt, ot, hat, _, hxt⟩ := hA' (by omega)
            have hAt : At = some ⟨gt, ot, none⟩ := e1.trans hat
            have HXR : Hid (wr.rangeAt gt (ot + j2 * 32) (cellsB (tl.getD j2 []))) := Lib.hid (fun j u hu => by
              rw [Nat.add_assoc]
              exact hxt _ u (cellsP_at HIDS.out hjt hu))
            rw [hAt]
            have HAT0 := Lib.hid hAt
            obtain ⟨x, hx⟩ : ∃ x, x = tl.getD j2 [] := ⟨_, rfl⟩
            rw [← hx] at HXR HIX
            have t1 : ((j2 : Nat) : Int) < (nt : Int) := by omega
            have t2 : (0 : Int) ≤ ((j2 : Nat) : Int) := by omega
            have t3 : ((nt : Nat) : Int) ≤ 4 := by have := HNT4.out; omega
            have HLJ := Lib.hid hlj2
            obtain ⟨ne, hne⟩ : ∃ m, m = es.length := ⟨_, rfl⟩
            have HNE := Lib.hid hne
            have HN4 : Hid (ne < 4) := Lib.hid (by have := HES.out.1; have := HNT4.out; omega)
            clear hjt e1 hat hxt hA' hAt hx hj2 hlj2
            go_wp2_with (with_reducible (show wpList _ _ _ (Oper.mk _ (Op.load 37 _) _ _ _ _ :: _) _ _); refine pause ?_)
            unfold Paused
            refine wpList_mid_w (by rfl) 37 (.tmp 102) (by rfl) gt (ot + j2 * 32) (by rfl) (cellsB x) _ HXR.out Tryd.underlying37 (by rfl) (by rw [cellsP1_len HIX.out]; kernel_rfl) ?_
            go_wp2_with (with_reducible (show wpList _ _ _ (Oper.mk _ (Op.store 37 _ _) _ _ _ _ :: _) _ _); refine pause ?_)
            unfold Paused
            change wpList _ _ _ _ _ (wr.alloc (.cells (u8s (List.replicate 32 0)) 37))
            refine wpList_store_row (by rfl) 37 (.tmp 14) (.tmp 103) (by rfl) wr.heap.size (u8s x) (by rfl) (by rfl) 37 (u8s (List.replicate 32 0)) (Blk.new wr _ _) (by rw [u8s_size, HIX.out.1]; kernel_rfl) (by rw [u8s_size, u8s_size, HIX.out.1]; rfl) (u8s_one _) ?_
            have b6 : Below wr.heap.size wr ((wr.alloc (.cells (u8s (List.replicate 32 0)) 37)).setRow wr.heap.size (u8s x)) := below_row ((Below.refl _ _).alloc (Nat.le_refl _) _) (Nat.le_refl _) _
            have HI6 : Hid (Blk ((wr.alloc (.cells (u8s (List.replicate 32 0)) 37)).setRow wr.heap.size (u8s x)) wr.heap.size 37 (u8s x)) := Lib.hid ((Blk.new wr _ _).row _)
            have HE6 := Lib.hid (HE.out.below b6)
            have HT6 := Lib.hid (own_below HTR.out b6)
            clear b6 HXR
            generalize (wr.alloc (.cells (u8s (List.replicate 32 0)) 37)).setRow wr.heap.size (u8s x) = w6 at HI6 HE6 HT6 ⊢
            generalize wr.heap.size = g6 at HI6 ⊢
            simp only [Act.put]
            have q2 : w6.cell? ⟨go, 2, none⟩ = some (.slice E es.length ec) := HE6.out.box.cell 2
            rw [← hne] at q2
            clear hne
            go_wp2_with (with_reducible (show wpList _ _ _ (Oper.mk _ (Op.buildSlice _ _ _) _ _ _ _ :: _) _ _); refine pause ?_)
            unfold Paused
            have hc1 : wrap64 (97 + (j2 : Int)) = 97 + (j2 : Int) := lk_small2 j2 (Int.ofNat_lt.1 (Int.lt_of_lt_of_le t1 t3))
            have hc2 : IntKind.u8.wrap (97 + (j2 : Int)) = ((97 + j2 : Nat) : Int) := lk_small j2 (Int.ofNat_lt.1 (Int.lt_of_lt_of_le t1 t3))
            try simp only [hc1, hc2]
            clear hc1 hc2
            obtain ⟨cn, hcn⟩ : ∃ c, c = 97 + j2 := ⟨_, rfl⟩
            have hcn2 : (97 : Int) + (j2 : Int) = (cn : Int) := by rw [hcn]; rfl
            try rw [← hcn]
            try simp only [hcn2]
            clear hcn hcn2
            go_wp2_with (with_reducible (show wpList _ _ _ (Oper.mk _ (Op.convert _ _ _) _ _ _ _ :: _) _ _); refine pause ?_)
            unfold Paused
            change wpList _ _ _ _ _ (w6.alloc (.cells #[.int .u8 (cn : Int)] 5))
            have b7 : Below w6.heap.size w6 (w6.alloc (.cells #[.int .u8 (cn : Int)] 5)) := (Below.refl _ _).alloc (Nat.le_refl _) _
            have HE7 := Lib.hid (HE6.out.below b7)
            have HT7 := Lib.hid (own_below HT6.out b7)
            have HI7 := Lib.hid (HI6.out.below b7 HI6.out.lt)
            have HC7 : Hid (Rd (w6.alloc (.cells #[.int .u8 (cn : Int)] 5)) (.slice (some ⟨w6.heap.size, 0, none⟩) 1 1) [cn]) := Lib.hid (rd_own (m := 0) (xs := [cn]) (own_single w6 _ _ (Nat.zero_le _)))
            clear b7 q2
            generalize w6.alloc (.cells #[.int .u8 (cn : Int)] 5) = w7 at HE7 HT7 HI7 HC7 ⊢
            generalize w6.heap.size = g7 at HC7 ⊢
            try simp only [Act.put]
            obtain ⟨nm, hnm⟩ : ∃ s, s = textOf [cn] := ⟨_, rfl⟩
            have HNM : Hid (nm.size = 1) := Lib.hid (by rw [hnm]; rfl)
            have qc : (convert 40 9 (.slice (some ⟨g7, 0, none⟩) 1 1)).run Tryd.prog w7 = .ok (.string nm) w7 := by rw [hnm]; exact conv_rd HC7.out
            clear hnm
            go_wp2_with (with_reducible (show wpList _ _ _ (Oper.mk _ (Op.load 37 _) _ _ _ _ :: _) _ _); refine pause ?_)
            unfold Paused
            refine wpList_row_w (by rfl) 37 (.tmp 14) (by rfl) g6 (by rfl) 37 (u8s x) _ HI7.out Tryd.underlying37 (by rfl) (by rw [u8s_size, HIX.out.1]; kernel_rfl) ?_
            clear qc
            go_wp2_with (with_reducible (show wpList _ _ _ (Oper.mk _ (Op.build 78 _) _ _ _ _ :: _) _ _); refine pause ?_)
            unfold Paused
            refine wpList_buildK (by rfl) 78 _ (by rfl) [(0, .string nm), (1, .agg (cellsB x).toArray)] (vals_two _ _ _ _ _ _ _ (by rfl) (by rfl)) _ (oent_built ⟨nm, x⟩ HIX.out) ?_
            obtain ⟨ie, hie, hez, hes, heb⟩ := info_parts oent_info
            go_wp2_with (with_reducible (show wpList _ _ _ (Oper.mk _ (Op.buildSlice _ _ _) _ _ _ _ :: _) _ _); refine pause ?_)
            unfold Paused
            refine wpList_buildSliceK (by rfl) 48 78 1 _ (by rfl) (cellsE1 ⟨nm, x⟩).toArray ie (.agg (cellsE1 ⟨⟨#[]⟩, List.replicate 32 0⟩).toArray) Tryd.underlying48 hie hez (by rw [hes]; decide) (by rw [hes]; decide) _ (by kernel_rfl) (by rw [hes]; exact fill_one 33 (Value.agg (cellsE1 ⟨⟨#[]⟩, List.replicate 32 0⟩).toArray).cells _ (cellsE1_len HIX.out) (by rfl)) ?_
            have b8 : Below w7.heap.size w7 (w7.alloc (.cells (cellsE1 ⟨nm, x⟩).toArray 78)) := (Below.refl _ _).alloc (Nat.le_refl _) _
            have HE8 := Lib.hid (HE7.out.below b8)
            have HT8 := Lib.hid (own_below HT7.out b8)
            have HX8 := Lib.hid (Blk.new w7 78 (cellsE1 ⟨nm, x⟩).toArray)
            clear b8 HE7 HT7 HI7 HC7
            generalize w7.alloc (.cells (cellsE1 ⟨nm, x⟩).toArray 78) = w8 at HE8 HT8 HX8 ⊢
            generalize w7.heap.size = g8 at HX8 ⊢
            have HO8 : Hid (w8.ownsRow (go + 1) 78 33 (.slice E ne ec) ne (cellsE es)) := Lib.hid (by have h1 := HE8.out.ents; rw [HNE.out]; exact h1)
            go_wp2_with (with_reducible (show wpList _ _ _ (Oper.mk _ (Op.call (Call.mk (Callee.builtin Builtin.append) _ _)) _ _ _ _ :: _) _ _); refine pause ?_)
            unfold Paused
            refine wpList_append_lies w8 (by rfl) (.tmp 105) (.tmp 113) 48 (by rfl) (go + 1) 78 ie _ 33 48 Tryd.underlying48 hie hez hes heb (by rfl) (by decide) (.slice E ne ec) ne (cellsE es) (by rfl) HO8.out ⟨g8, 0, none⟩ 1 1 (cellsE1 ⟨nm, x⟩) (by rfl) (by rw [cellsE1_len HIX.out]) (fun j u hj => by rw [Addr.add_mid, Nat.zero_add, HX8.out.cell j]; simpa using hj) (cellsE1_one _) (by decide) (by have := HN4.out; unfold maxLen; omega) (by have := HN4.out; omega) (by have := HE8.out.box.lt; omega) w8.heap.size rfl ?_
            intro g9 c9 w9 ho9 hg9 hl9 _
            have hln : (es ++ [(⟨nm, x⟩ : Ent)]).length = ne + 1 := by rw [List.length_append, List.length_singleton, HNE.out]
            have hgE : w8.grownBy w9 (Value.slice E es.length ec).ownBlock := by rw [← HNE.out]; exact hg9
            have HB9 := Lib.hid (HE8.out.grown_box hgE)
            have HE9 := Lib.hid (HE8.out.put2 (fs := es ++ [⟨nm, x⟩]) (F := some ⟨g9, 0, none⟩) (fc := c9) (by rw [hln, cellsE_add]; exact ho9) hgE)
            have HT9 := Lib.hid (own_put (own_grow HT8.out hgE (own_apart HT8.out HE8.out.ents (by decide))) (grown_cell w9 go 2 (.slice (some ⟨g9, 0, none⟩) (ne + 1) c9)) HG4.out)
            rw [hln] at HE9
            have HES9 : Hid ((es ++ [(⟨nm, x⟩ : Ent)]).length = j2 + 1 ∧ ∀ e ∈ es ++ [(⟨nm, x⟩ : Ent)], Id32 e.id ∧ e.name.size = 1) := Lib.hid ⟨by rw [hln, HNE.out, HES.out.1], fun e he => by
              rcases List.mem_append.1 he with he | he
              · exact HES.out.2 e he
              · rw [List.mem_singleton.1 he]; exact ⟨HIX.out, HNM.out⟩⟩
            have q29 : w9.cell? ⟨go, 2, none⟩ = some (.slice E es.length ec) := HB9.out.cell 2
            have z29 : w9.frozen? ⟨go, 2, none⟩ = false := HB9.out.frozen 2
            clear ho9 hg9 hl9 hln hgE hie hez hes heb HE8 HT8 HX8 HO8
            simp only [Act.put]
            rw [← HAT0.out]
            go_wp2
            generalize w9.setCell ⟨go, 2, none⟩ (.slice (some ⟨g9, 0, none⟩) (ne + 1) c9) = w10 at HE9 HT9 ⊢
            have HEF : Hid (BW wp w10 go ⟨(q : Int), [], es ++ [⟨nm, x⟩], zid, []⟩ none (some ⟨g9, 0, none⟩) 0 c9) := HE9
            go_roundw
            case rel => exact ⟨_, _, .int .i64 ((j2 + 1 : Nat) : Int), ⟨j2 + 1, HLJ.out, rfl, es ++ [⟨nm, x⟩], ⟨_, _, HEF⟩, HES9, Lib.hid (by rw [← HAT0.out]; exact HT9.out)⟩, HAT0.out, rfl, rfl, HAT0.out, by simp⟩
            case measure => have := HLJ.out; simp [intOf]; omega
        case rest =>
          obtain ⟨hk24, HCUT⟩ := hcut
          subst hk24
          obtain ⟨obx, csx, Tx, Ex, Px, tcx, ecx, pcx, hx1, hx2, hx3, hx4, hx5, hx6⟩ := HCUT.out
          clear ewa q1 z1 p0 p2
          go_wp2_with (with_reducible (show wpList _ _ _ (Oper.mk _ (Op.load 50 _) _ _ _ _ :: _) _ _); refine pause ?_)
          unfold Paused
          have HRW7 := Lib.hid hx1
          have HBE := Lib.hid hx6
          have CB := obytes_own obx csx Tx Ex Px tcx ecx pcx (a 3) wc hx2 hx3 hx4 ((World.cell?_of_block ((below_next HRS.out.bel HBE.out).block _ (block_lt_of_cell HFM.out))).trans HFM.out)
          have HLB := Lib.hid (fun hr => laid_bytes hx3 (o := obx) hr)
          have HSZ := Lib.hid hx5
          clear hx1 hx2 hx3 hx4 hx5 hx6 HCUT
          refine wpList_row_w (by rfl) 50 (.tmp 9) (by rfl) go (by rfl) 50 csx _ HRW7.out Tryd.underlying50 (by rfl) (by rw [HSZ.out]; kernel_rfl) ?_
          go_wp2_with (go_at_call 19; refine pause ?_)
          unfold Paused
          refine CB.mono ?_
          rintro e w8 ⟨h8, hno, hyes⟩
          have HB8 := Lib.hid (below_next HBE.out h8)
          have HRS8 := Lib.hid (HRS.out.below HB8.out)
          cases hr : obx.right
          · obtain rfl := hno hr
            clear hno hyes hr CB h8
            go_wp2
            go_ret3
            exact ⟨_, _, HRS8.out.bel, Or.inl rfl⟩
          obtain ⟨v9, rfl, hv9⟩ := hyes hr
          obtain ⟨nr, hsz⟩ := right_near hr
          obtain ⟨A9, c9, hvv⟩ := own_slice hv9
          subst hvv
          obtain ⟨tx, htx⟩ : ∃ t, t = obx.front ++ obx.text := ⟨_, rfl⟩
          have HBT := Lib.hid (HLB.out hr)
          have HTL : Hid (tx.length ≤ 300) := Lib.hid (by rw [htx, List.length_append]; exact hsz)
          rw [← htx] at hv9 HBT ⊢
          obtain ⟨ntx, hntx⟩ : ∃ m, m = tx.length := ⟨_, rfl⟩
          have HNX := Lib.hid hntx
          have HT9 : Hid (w8.ownsRow w.heap.size 5 1 (.slice A9 ntx c9) tx.length (cellsB tx)) := Lib.hid (by
            have h1 := own_lowL hv9 (m' := w.heap.size) (Nat.le_trans HRS.out.bel.size HBE.out.size)
            rw [← hntx] at h1 ⊢
            exact h1)
          have HRP := Lib.hid (HRS8.out.text (p := ⟨tx, .slice A9 ntx c9⟩) HT9.out (byte_of (fun x hx => HBT.out x hx)) HTL.out)
          rw [← hntx]
          clear hno hyes hr CB h8 hv9 nr hsz htx hntx HT9 HRS8
          obtain ⟨ip, hip, hpz, hps, hpb⟩ := info_parts bts_info24
          go_wp2_with (with_reducible (show wpList _ _ _ (Oper.mk _ (Op.call (Call.mk (Callee.builtin Builtin.append) _ _)) _ _ _ _ :: _) _ _); refine pause ?_)
          unfold Paused
          change wpList _ _ _ _ _ (w8.alloc (.cells #[.slice A9 ntx c9] 40))
          have ba : Below w8.heap.size w8 (w8.alloc (.cells #[.slice A9 ntx c9] 40)) := (Below.refl _ _).alloc (Nat.le_refl _) _
          have HXb := Lib.hid (Blk.new w8 40 #[.slice A9 ntx c9])
          have HRb := Lib.hid (HRP.out.below ba)
          clear ba HRP
          generalize w8.alloc (.cells #[.slice A9 ntx c9] 40) = wb at HXb HRb ⊢
          generalize w8.heap.size = gb at HXb ⊢
          have HOb : Hid (wb.ownsRow w.heap.size 40 1 (.slice Ao k co) k (its.map (·.val))) := Lib.hid (by have h1 := HRb.out.oo; rwa [HIL.out] at h1)
          refine wpList_append_lies wb (by rfl) (.tmp 124) (.tmp 126) 22 (by rfl) w.heap.size 40 ip _ 1 24 Tryd.underlying22 hip hpz hps hpb (by rfl) (by decide) (.slice Ao k co) k (its.map (·.val)) (by rfl) HOb.out ⟨gb, 0, none⟩ 1 1 [.slice A9 ntx c9] (by rfl) (by rfl) (fun j u hj => by rw [Addr.add_mid, Nat.zero_add, HXb.out.cell j]; simpa using hj) (fun u hu => by rw [List.mem_singleton.1 hu]; rfl) (by decide) (by have := HKN.out; unfold maxLen; omega) (by have := HKN.out; omega) HRb.out.bel.size wb.heap.size rfl ?_
          intro gc cc wk hoc hgc hlc _
          have HRc := Lib.hid (HRb.out.putO (p := ⟨tx, .slice A9 ntx c9⟩) (by rw [HIL.out]; exact hoc) hgc)
          clear hoc hgc hlc hip hpz hps hpb
          have HRD : Hid (Rd wk (.slice A9 ntx c9) tx) := Lib.hid (rd_own (HRc.out.tx _ (List.mem_append_right _ (List.mem_singleton.2 rfl))).1)
          have CID := oid_any tx (.slice A9 ntx c9) wk HRD.out (byte_of (fun x hx => HBT.out x hx)) (HTB.out.below HRc.out.bel (Nat.le_refl _)) (by have := HTL.out; omega)
          obtain ⟨sm, hsm⟩ : ∃ s, s = Sha.sum tx := ⟨_, rfl⟩
          rw [← hsm] at CID
          have HSM := Lib.hid hsm
          have HIS : Hid (Id32 sm) := Lib.hid (by rw [hsm]; exact cl_sum_id _)
          clear hsm
          simp only [Act.put]
          go_wp2_with (go_at_call 18; refine pause ?_)
          unfold Paused
          refine CID.mono ?_
          rintro e wd ⟨rfl, hbd⟩
          have HRd := Lib.hid (HRc.out.below hbd)
          clear hbd CID HRD
          obtain ⟨iq, hiq, hqz, hqs, hqb⟩ := info_parts oid_info24
          go_wp2_with (with_reducible (show wpList _ _ _ (Oper.mk _ (Op.buildSlice _ _ _) _ _ _ _ :: _) _ _); refine pause ?_)
          unfold Paused
          refine wpList_buildSliceK (by rfl) 23 37 1 _ (by rfl) (cellsB sm).toArray iq (.agg (cellsB (List.replicate 32 0)).toArray) Tryd.underlying23 hiq hqz (by rw [hqs]; decide) (by rw [hqs]; decide) _ (by kernel_rfl) (by rw [hqs]; exact fill_one 32 (Value.agg (cellsB (List.replicate 32 0)).toArray).cells _ (cellsP1_len HIS.out) (by rfl)) ?_
          have be : Below wd.heap.size wd (wd.alloc (.cells (cellsB sm).toArray 37)) := (Below.refl _ _).alloc (Nat.le_refl _) _
          have HXe := Lib.hid (Blk.new wd 37 (cellsB sm).toArray)
          have HRe := Lib.hid (HRd.out.below be)
          clear be
          generalize wd.alloc (.cells (cellsB sm).toArray 37) = we at HXe HRe ⊢
          generalize wd.heap.size = ge at HXe ⊢
          have HOe : Hid (we.ownsRow w.heap.size 37 32 (.slice Aa k ca) k (cellsP (its.map fun p => Sha.sum p.text))) := Lib.hid (by have h1 := HRe.out.oa; rwa [List.length_map, HIL.out] at h1)
          go_wp2_with (with_reducible (show wpList _ _ _ (Oper.mk _ (Op.call (Call.mk (Callee.builtin Builtin.append) _ _)) _ _ _ _ :: _) _ _); refine pause ?_)
          unfold Paused
          refine wpList_append_lies we (by rfl) (.tmp 128) (.tmp 131) 23 (by rfl) w.heap.size 37 iq _ 32 32 Tryd.underlying23 hiq hqz hqs hqb (by rfl) (by decide) (.slice Aa k ca) k (cellsP (its.map fun p => Sha.sum p.text)) (by rfl) HOe.out ⟨ge, 0, none⟩ 1 1 (cellsB sm) (by rfl) (by rw [cellsP1_len HIS.out]) (fun j u hj => by rw [Addr.add_mid, Nat.zero_add, HXe.out.cell j]; simpa using hj) (cellsB_one _) (by decide) (by have := HKN.out; unfold maxLen; omega) (by have := HKN.out; omega) HRe.out.bel.size we.heap.size rfl ?_
          intro gf cf wf hof hgf hlf _
          have HRf := Lib.hid (HRe.out.putA (x := sm) (by rw [List.length_map, HIL.out]; exact hof) hgf)
          have HFI : Hid (RowSt w wf (.slice (some ⟨gc, 0, none⟩) (k + 1) cc) (.slice (some ⟨gf, 0, none⟩) (k + 1) cf) (its ++ [⟨tx, .slice A9 ntx c9⟩]) (its ++ [⟨tx, .slice A9 ntx c9⟩]) ((its ++ [(⟨tx, .slice A9 ntx c9⟩ : Cl.T)]).map fun p => Sha.sum p.text)) := Lib.hid (by
            rw [List.map_append]
            have h1 := HRf.out
            rw [HSM.out] at h1
            exact h1)
          have HIN : Hid ((its ++ [(⟨tx, .slice A9 ntx c9⟩ : Cl.T)]).length = k + 1) := Lib.hid (by rw [List.length_append, HIL.out]; rfl)
          clear hof hgf hlf hiq hqz hqs hqb HRf
          simp only [Act.put]
          go_wp2
          go_roundw
          case rel => exact ⟨k + 1, _, HLT.out, by go_num, HFI, HIN⟩
          case measure => have := HLT.out; simp [intOf]; omega
end Go.Proofs.YtlodalppnglclaaDoor
