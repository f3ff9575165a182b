/- closure's Whole; the law's example. -/
import Derived.Test.YtlodalppnglclaaDoorMCl7s
import Derived.Test.YtlodalppnglclaaDoorMCl2s
namespace Go.Proofs.YtlodalppnglclaaDoor
open Go Go.RowKit
/-- how Whole ends -/
def WholePost (objs roots : List (List Nat)) (w : World) (e : Ending) (w' : World) : Prop :=
  ∃ β, e = .returned (.bool β) ∧ (β = true ↔ ∀ x, Id32 x → Cl.Rch objs roots x → Cl.the objs x = true ∧ Cl.wrg objs x = false) ∧ Below w.heap.size w w'
theorem len_rdo {w : World} {v : Value} {r : List (List Nat)} (h : RdO w v r) : ∃ A c, v = .slice A r.length c := by
  obtain ⟨A, c, hv, _⟩ := h
  exact ⟨A, c, hv⟩
section
variable {w0 : World} {A : Option Addr} {n c : Nat} {its : List Cl.T} {A2 : Option Addr} {n2 c2 : Nat} {roots : List (List Nat)} {a : Nat → Addr}
set_option maxRecDepth 100000 in
theorem whole_any (h : ClIn w0 A n c its A2 n2 c2 roots a) (w : World) (hb : Below w0.heap.size w0 w) : Calls Tryd.prog 15 #[.slice A n c, .slice A2 n2 c2] w (WholePost (its.map (·.text)) roots w) := by
  have CS := h.stock hb
  unfold StkPost at CS
  have HW := Lib.hid (fun (w : World) (hb : Below w0.heap.size w0 w) (ms nms : Nat) (hm : MapO w ms nms (fun id => (Cl.fst its id).map (·.val))) => h.walk hb hm)
  have HB := Lib.hid hb
  have HBY := Lib.hid h.byt
  clear h hb
  go_enter Tryd.func15, Tryd.ntmps15
  go_wp2_with (go_at_call 25; refine pause ?_)
  unfold Paused
  refine CS.mono ?_
  rintro e w1 ⟨m, nm, rfl, hm, _, _, hb1⟩
  have HM := Lib.hid hm
  have H1 := Lib.hid hb1
  clear hm hb1 CS
  go_wp2_with (go_at_call 26; refine pause ?_)
  unfold Paused
  refine (HW.out w1 (below_next HB.out H1.out) m nm HM.out).mono ?_
  intro e w2 hwp
  obtain ⟨ma, ns, rfl, hnd, hb2⟩ := nds_of hwp
  have HND := Lib.hid hnd
  have H2 := Lib.hid (below_next H1.out hb2)
  have CM := missing_m hnd
  unfold SetPost at CM
  clear hwp hnd hb2 HW HM
  go_wp2_with (go_at_call 29; refine pause ?_)
  unfold Paused
  refine CM.mono ?_
  rintro e w3 ⟨v, r, rfl, h2, h3, h4, h5, h6⟩
  obtain ⟨Av, cv, rfl⟩ := len_rdo h2
  have H3 := Lib.hid (below_next H2.out h6)
  have HR5 := Lib.hid h5
  have HR3 := Lib.hid h3
  have HN3 := Lib.hid (HND.out.below h6)
  clear h2 h3 h4 h5 h6 CM
  obtain ⟨nr, hnr⟩ : ∃ n, n = r.length := ⟨_, rfl⟩
  rw [← hnr]
  by_cases hr : nr = 0
  · have hnil : r = [] := List.eq_nil_of_length_eq_zero (by omega)
    have HNIL := Lib.hid hnil
    have CW := wrong_m HN3.out HBY.out
    unfold SetPost at CW
    clear hnil hnr
    subst hr
    go_wp2_with (go_at_call 30; refine pause ?_)
    unfold Paused
    refine CW.mono ?_
    rintro e w4 ⟨v, r4, rfl, h2, h3, h4, h5, h6⟩
    obtain ⟨Av4, cv4, rfl⟩ := len_rdo h2
    have H4 := Lib.hid (below_next H3.out h6)
    have HR4 := Lib.hid h5
    have HI4 := Lib.hid h3
    clear h2 h3 h4 h5 h6 CW
    obtain ⟨n4, hn4⟩ : ∃ n, n = r4.length := ⟨_, rfl⟩
    rw [← hn4]
    by_cases hr4 : n4 = 0
    · have hnil4 : r4 = [] := List.eq_nil_of_length_eq_zero (by omega)
      have HF : Hid (WholePost (its.map (·.text)) roots w (.returned (.bool true)) w4) := Lib.hid ⟨true, rfl, ⟨fun _ x hx hrx => ⟨(by
        cases ht : Cl.the (its.map (·.text)) x with
        | true => rfl
        | false =>
          have h1 := (HR5.out x hx).2 ⟨hrx, ht⟩
          rw [HNIL.out] at h1
          cases h1), (by
        cases ht : Cl.wrg (its.map (·.text)) x with
        | false => rfl
        | true =>
          have h1 := (HR4.out x hx).2 ⟨hrx, ht⟩
          rw [hnil4] at h1
          cases h1)⟩, fun _ => rfl⟩, H4.out⟩
      clear hnil4 hn4
      subst hr4
      go_wp2
      go_ret
      exact HF.out
    · have HF : Hid (WholePost (its.map (·.text)) roots w (.returned (.bool false)) w4) := Lib.hid ⟨false, rfl, ⟨fun h => (by cases h), fun h => by
        obtain ⟨x, hx⟩ := List.exists_mem_of_length_pos (l := r4) (by omega)
        have h1 := (HR4.out x (HI4.out x hx)).1 hx
        have h2 := (h x (HI4.out x hx) h1.1).2
        rw [h1.2] at h2
        cases h2⟩, H4.out⟩
      have g4 : ((n4 : Int) == 0) = false := by simp; omega
      clear hn4 hr4
      go_wp2
      go_ret
      exact HF.out
  · have HF : Hid (WholePost (its.map (·.text)) roots w (.returned (.bool false)) w3) := Lib.hid ⟨false, rfl, ⟨fun h => (by cases h), fun h => by
      obtain ⟨x, hx⟩ := List.exists_mem_of_length_pos (l := r) (by omega)
      have h1 := (HR5.out x (HR3.out x hx)).1 hx
      have h2 := (h x (HR3.out x hx) h1.1).1
      rw [h1.2] at h2
      cases h2⟩, H3.out⟩
    have g4 : ((nr : Int) == 0) = false := by simp; omega
    clear hnr hr
    go_wp2
    go_ret
    exact HF.out
end
end Go.Proofs.YtlodalppnglclaaDoor
/- Is an id in a row? The program's law and the document's reference ask it. -/
namespace Go.Proofs.YtlodalppnglclaaDoor
open Go Go.RowKit

set_option maxRecDepth 100000 in
set_option maxHeartbeats 1000000 in
theorem rin_any (l : List (List Nat)) (id : List Nat) (v : Value) (w : World) (h : RdO w v l) (hi : ∀ x ∈ l, Id32 x) (hid : Id32 id) (hn : l.length ≤ 100000) :
    Calls Tryd.prog 23 #[v, .agg (u8s id)] w fun e w' => e = .returned (.bool (decide (id ∈ l))) ∧ Below w.heap.size w w' := by
  obtain ⟨A, c, rfl, _, hx⟩ := h
  obtain ⟨n, hnl⟩ : ∃ n, n = l.length := ⟨_, rfl⟩
  rw [← hnl] at hn hx ⊢
  obtain ⟨w1, hw1⟩ : ∃ w1, w1 = w.alloc (.cells (u8s id) 36) := ⟨_, rfl⟩
  have b1 : Below w.heap.size w w1 := hw1 ▸ (Below.refl _ _).alloc (Nat.le_refl _) _
  have HI : Hid (Blk w1 w.heap.size 36 (u8s id)) := Lib.hid (hw1 ▸ Blk.new w _ _)
  have HB := Lib.hid b1
  have HX : Hid (0 < n → ∃ b o, A = some ⟨b, o, none⟩ ∧ b < w.heap.size ∧ ∀ i, i < n → w.rangeAt b (o + 32 * i) (cellsN (l.getD i []))) := Lib.hid hx
  have HN := Lib.hid hn
  have HNL := Lib.hid hnl
  have HXI := Lib.hid hi
  have HID := Lib.hid hid
  have hw1' := hw1.symm
  clear hx hn hnl hi hid b1 hw1
  go_enter Tryd.func23, Tryd.ntmps23
  go_wp2
  try change Code.wp _ _ _ _ (w.alloc (.cells (u8s id) 36))
  try rw [hw1']
  go_loopw [9] (fun i wr => ∃ k : Nat, k ≤ n ∧ i = .int .i64 k ∧ Hid (Below w1.heap.size w1 wr ∧ id ∉ l.take k)) (fun i _ => n - (intOf i).toNat)
  case atStart => exact ⟨0, Nat.zero_le _, rfl, Lib.hid ⟨Below.refl _ _, by simp⟩⟩
  case round =>
    obtain ⟨k, hk, rfl, HK⟩ := hrel
    by_cases hlt : k < n
    · have hkx : k < l.length := by rw [← HNL.out]; exact hlt
      obtain ⟨b, o, rfl, hbl, hcell⟩ := HX.out (by omega)
      obtain ⟨x, hxx⟩ : ∃ x, l.getD k [] = x := ⟨_, rfl⟩
      have hxe : l[k] = x := by rw [← hxx, List.getD_eq_getElem?_getD, List.getElem?_eq_getElem hkx]; rfl
      have HTK : Hid (l.take (k + 1) = l.take k ++ [x] ∧ x ∈ l) := Lib.hid ⟨by rw [List.take_succ_eq_append_getElem hkx, hxe], hxe ▸ List.getElem_mem hkx⟩
      have HIX := Lib.hid (HXI.out x HTK.out.2)
      have HRG : Hid (wr.rangeAt b (o + 32 * k) (cellsN x)) := Lib.hid (fun j u hu => (HK.out.1.cell (p := ⟨b, o + 32 * k + j, none⟩) (Nat.lt_of_lt_of_le hbl HB.out.size)).trans ((HB.out.cell (p := ⟨b, o + 32 * k + j, none⟩) hbl).trans (hcell k hlt j u (by rw [hxx]; exact hu))))
      have i1 : ((k : Nat) : Int) < n := by omega
      have i2 : (0 : Int) ≤ ((k : Nat) : Int) := by omega
      have i3 : ((k : Nat) : Int) < 100000 := by have := HN.out; omega
      have HLT := Lib.hid hlt
      rw [Nat.mul_comm 32 k] at HRG
      clear hkx hbl hcell hxx hxe hk hlt
      go_wp2_with (with_reducible (show wpList _ _ _ (Oper.mk _ (Op.load 36 _) _ _ _ _ :: _) _ _); refine pause ?_)
      unfold Paused
      refine wpList_mid_w (by rfl) 36 (.tmp 11) (by rfl) b (o + k * 32) (by rfl) (cellsB x) _ HRG.out Tryd.underlying36 (by rfl) (by rw [cellsP1_len HIX.out]; kernel_rfl) ?_
      go_wp2_with (with_reducible (show wpList _ _ _ (Oper.mk _ (Op.store 36 _ _) _ _ _ _ :: _) _ _); refine pause ?_)
      unfold Paused
      change wpList _ _ _ _ _ (wr.alloc (.cells (u8s (List.replicate 32 0)) 36))
      refine wpList_store_row (by rfl) 36 (.tmp 6) (.tmp 12) (by rfl) wr.heap.size (u8s x) (by rfl) (by rfl) 36 (u8s (List.replicate 32 0)) (Blk.new wr _ _) (by rw [u8s_size, HIX.out.1]; kernel_rfl) (by rw [u8s_size, u8s_size, HIX.out.1]; rfl) (u8s_one _) ?_
      have b6 : Below wr.heap.size wr ((wr.alloc (.cells (u8s (List.replicate 32 0)) 36)).setRow wr.heap.size (u8s x)) := below_row ((Below.refl _ _).alloc (Nat.le_refl _) _) (Nat.le_refl _) _
      have HB6 := Lib.hid (below_next HK.out.1 b6)
      have HI6 : Hid (Blk ((wr.alloc (.cells (u8s (List.replicate 32 0)) 36)).setRow wr.heap.size (u8s x)) wr.heap.size 36 (u8s x)) := Lib.hid ((Blk.new wr _ _).row _)
      clear b6 HRG
      generalize (wr.alloc (.cells (u8s (List.replicate 32 0)) 36)).setRow wr.heap.size (u8s x) = w6 at HB6 HI6 ⊢
      generalize wr.heap.size = g6 at HI6 ⊢
      simp only [Act.put]
      have HI1 := Lib.hid (HI.out.below HB6.out HI.out.lt)
      go_wp2_with (with_reducible (show wpList _ _ _ (Oper.mk _ (Op.load 36 _) _ _ _ _ :: _) _ _); refine pause ?_)
      unfold Paused
      refine wpList_row_w (by rfl) 36 (.tmp 6) (by rfl) g6 (by rfl) 36 (u8s x) _ HI6.out Tryd.underlying36 (by rfl) (by rw [u8s_size, HIX.out.1]; kernel_rfl) ?_
      go_wp2_with (with_reducible (show wpList _ _ _ (Oper.mk _ (Op.load 36 _) _ _ _ _ :: _) _ _); refine pause ?_)
      unfold Paused
      refine wpList_row_w (by rfl) 36 (.tmp 3) (by rfl) w.heap.size (by rfl) 36 (u8s id) _ HI1.out Tryd.underlying36 (by rfl) (by rw [u8s_size, HID.out.1]; kernel_rfl) ?_
      have qe := run_equalIn_u8s (P := Tryd.prog) w6 36 5 32 Tryd.underlying36 Tryd.underlying5 size_u8 x id HIX.out.1 HID.out.1 HIX.out.2 HID.out.2
      generalize hg : (x == id) = r at qe
      simp only [Act.put]
      cases r with
      | true =>
        have HF : Hid (decide (id ∈ l) = true ∧ Below w.heap.size w w6) := Lib.hid ⟨by
          have e : x = id := by simpa using hg
          rw [← e]
          simpa using HTK.out.2, below_next HB.out HB6.out⟩
        clear hg
        go_wp2
        go_ret
        exact ⟨by rw [HF.out.1]; rfl, HF.out.2⟩
      | false =>
        have HF : Hid (Below w1.heap.size w1 w6 ∧ id ∉ l.take (k + 1)) := Lib.hid ⟨HB6.out, by
          rw [HTK.out.1]
          intro hm
          rcases List.mem_append.1 hm with hm | hm
          · exact HK.out.2 hm
          · rw [List.mem_singleton.1 hm] at hg
            simp at hg⟩
        clear hg
        go_wp2
        go_roundw
        case rel => exact ⟨k + 1, by have := HLT.out; omega, by go_num, HF⟩
        case measure => have := HLT.out; simp [intOf]; omega
    · obtain rfl : k = n := by omega
      have ik : ¬ ((k : Nat) : Int) < k := by omega
      have HF : Hid (decide (id ∈ l) = false ∧ Below w.heap.size w wr) := Lib.hid ⟨by
        have h1 := HK.out.2
        rw [HNL.out, List.take_length] at h1
        simpa using h1, below_next HB.out HK.out.1⟩
      go_wp2
      go_ret
      exact ⟨by rw [HF.out.1]; rfl, HF.out.2⟩
end Go.Proofs.YtlodalppnglclaaDoor
/- Two rows of ids: the law's comparison of an answer with the document's. -/
namespace Go.Proofs.YtlodalppnglclaaDoor
open Go Go.RowKit
theorem rid_eq (w : World) (x y : List Nat) (hx : Id32 x) (hy : Id32 y) : (Op.equalIn 10000 36 (.agg (cellsB x).toArray) (.agg (cellsB y).toArray)).run Tryd.prog w = .ok (eqv x y) w :=
  beq_eqv x y ▸ run_equalIn_u8s w 36 5 32 Tryd.underlying36 Tryd.underlying5 size_u8 x y hx.1 hy.1 hx.2 hy.2
theorem lsame_any (A B : Option Addr) (c d : Nat) (xs ys : List (List Nat)) (w : World) (hx : RdK w (.slice A xs.length c) xs.length (cellsP xs)) (hy : RdK w (.slice B ys.length d) ys.length (cellsP ys)) (fx : ∀ x ∈ xs, Id32 x) (fy : ∀ x ∈ ys, Id32 x) (lx : xs.length ≤ 1000) :
    Calls Tryd.prog 10 #[.slice A xs.length c, .slice B ys.length d] w fun e w' => e = .returned (.bool (eqv xs ys)) ∧ ∃ m, w' = w.drewN m := by
  have HX := Lib.hid hx
  have HY := Lib.hid hy
  clear hx hy
  by_cases hl : xs.length = ys.length
  · have b0 : ((xs.length : Int) != (ys.length : Int)) = false := by simp; omega
    have HL := Lib.hid hl
    clear hl
    go_enter Tryd.func10, Tryd.ntmps10
    go_wp2
    go_loopw [13] (fun i wr => ∃ k n : Nat, k ≤ xs.length ∧ i = .int .i64 k ∧ Hid (xs.take k = ys.take k) ∧ wr = w.drewN n) (fun i _ => xs.length - (intOf i).toNat)
    case atStart => exact ⟨0, 0, Nat.zero_le _, rfl, Lib.hid rfl, rfl⟩
    case round =>
      obtain ⟨k, n, hk, rfl, HT, rfl⟩ := hrel
      by_cases hlt : k < xs.length
      · have hlt2 : k < ys.length := by rw [← HL.out]; exact hlt
        obtain ⟨b1, o1, rfl, _, g1⟩ := HX.out.par rfl fx hlt
        obtain ⟨b2, o2, rfl, _, g2⟩ := HY.out.par rfl fy hlt2
        have l1 : ∀ m, (Instr.loadAt 37 (.pointer (some ⟨b1, o1 + k * 32, none⟩))).run Tryd.prog (w.drewN m) = .ok (.agg (cellsB xs[k]).toArray) (w.drewN m) := fun m => run_loadAt_mid (w.drewN m) b1 (o1 + k * 32) 37 _ _ g1 Tryd.underlying37 rfl (by rw [cellsP1_len (fx _ (List.getElem_mem _))]; kernel_rfl)
        have l2 : ∀ m, (Instr.loadAt 36 (.pointer (some ⟨b2, o2 + k * 32, none⟩))).run Tryd.prog (w.drewN m) = .ok (.agg (cellsB ys[k]).toArray) (w.drewN m) := fun m => run_loadAt_mid (w.drewN m) b2 (o2 + k * 32) 36 _ _ g2 Tryd.underlying36 rfl (by rw [cellsP1_len (fy _ (List.getElem_mem _))]; kernel_rfl)
        have q0 : ∀ m, (Op.equalIn 10000 36 (.agg (cellsB xs[k]).toArray) (.agg (cellsB ys[k]).toArray)).run Tryd.prog (w.drewN m) = .ok (eqv xs[k] ys[k]) (w.drewN m) := fun m => rid_eq _ _ _ (fx _ (List.getElem_mem _)) (fy _ (List.getElem_mem _))
        have HS := Lib.hid (show xs[k] = ys[k] → xs.take (k + 1) = ys.take (k + 1) from take_all hlt hlt2 HT.out)
        have HNE := Lib.hid (show xs[k] ≠ ys[k] → eqv xs ys = false from fun h => eqv_false fun e => by subst e; exact h rfl)
        generalize xs[k] = x at l1 q0 HS HNE
        generalize ys[k] = y at l2 q0 HS HNE
        clear g1 g2
        have i0 : ((k : Nat) : Int) < xs.length := by omega
        have i1 : (0 : Int) ≤ ((k : Nat) : Int) := by omega
        have i2 : ((k : Nat) : Int) < ys.length := by omega
        generalize (cellsB x).toArray = cx at l1 q0
        generalize (cellsB y).toArray = cy at l2 q0
        rcases Classical.em (x = y) with e | e
        · have HN := Lib.hid (HS.out e)
          have hb : eqv x y = true := eqv_true e
          rw [hb] at q0
          clear HS HNE e hb
          go_wp2
          refine wp_region_quiet_lit (by kernel_rfl) (by kernel_rfl) ?_
          repeat (first
            | go_big_quiet_step (fail)
            | (go_big_quiet_want; refine quiet_load 37 (.tmp 18) rfl _ rfl _ (by rintro _ ⟨m, rfl⟩; rw [World.drewN_drewN]; exact l1 _) ?_; go_big_quiet_on; simp only [Act.put, List.setIfInBounds_toArray, List.set_cons_zero, List.set_cons_succ])
            | (go_big_quiet_want; refine quiet_load 36 (.tmp 22) rfl _ rfl _ (by rintro _ ⟨m, rfl⟩; rw [World.drewN_drewN]; exact l2 _) ?_; go_big_quiet_on; simp only [Act.put, List.setIfInBounds_toArray, List.set_cons_zero, List.set_cons_succ]))
          refine wpQuiet_nil ?_
          rintro _ ⟨nq, rfl⟩
          go_wp2
          go_roundw
          case rel => exact ⟨k + 1, n + nq, by omega, by go_num, HN, by simp⟩
          case measure => simp [intOf]; omega
        · have HN := Lib.hid (HNE.out e)
          have hb : eqv x y = false := eqv_false e
          rw [hb] at q0
          clear HS HNE e hb
          go_wp2
          refine wp_region_quiet_lit (by kernel_rfl) (by kernel_rfl) ?_
          repeat (first
            | go_big_quiet_step (fail)
            | (go_big_quiet_want; refine quiet_load 37 (.tmp 18) rfl _ rfl _ (by rintro _ ⟨m, rfl⟩; rw [World.drewN_drewN]; exact l1 _) ?_; go_big_quiet_on; simp only [Act.put, List.setIfInBounds_toArray, List.set_cons_zero, List.set_cons_succ])
            | (go_big_quiet_want; refine quiet_load 36 (.tmp 22) rfl _ rfl _ (by rintro _ ⟨m, rfl⟩; rw [World.drewN_drewN]; exact l2 _) ?_; go_big_quiet_on; simp only [Act.put, List.setIfInBounds_toArray, List.set_cons_zero, List.set_cons_succ]))
          refine wpQuiet_nil ?_
          rintro _ ⟨nq, rfl⟩
          go_wp2
          go_ret
          exact ⟨by rw [HN.out]; rfl, _, by simp; rfl⟩
      · have H : Hid (eqv xs ys = true) := Lib.hid (eqv_true (by
          have h := HT.out
          rw [List.take_of_length_le (by omega), List.take_of_length_le (by rw [← HL.out]; omega)] at h
          exact h))
        go_wp2
        go_ret
        exact ⟨by rw [H.out]; rfl, n, rfl⟩
  · have b0 : ((xs.length : Int) != (ys.length : Int)) = true := by simp; omega
    have HN := Lib.hid (show eqv xs ys = false from eqv_false fun e => by subst e; exact hl rfl)
    clear hl
    go_enter Tryd.func10, Tryd.ntmps10
    go_wp2
    go_ret
    exact ⟨by rw [HN.out]; rfl, 0, rfl⟩
end Go.Proofs.YtlodalppnglclaaDoor
/- Rows of ids as the document has them: made of the program's, and an id put into a rising one. -/
namespace Go.Proofs.YtlodalppnglclaaDoor
open Go Go.RowKit
theorem rid_info : (Tryd.prog.info? 36).map (fun i => (i.zero, i.size, i.bytes)) = some (some (.agg (cellsB (List.replicate 32 0)).toArray), 32, 32) := by kernel_rfl
/-- a row of ids of one's own, made behind a world -/
structure LO (w wr : World) (B : Nat) (v : Value) (l : List (List Nat)) : Prop where
  own : wr.ownsRow B 36 32 v l.length (cellsP l)
  bel : Below w.heap.size w wr
  ids : ∀ x ∈ l, Id32 x
  siz : w.heap.size ≤ B ∧ B ≤ wr.heap.size
theorem LO.below {w wr w' : World} {B : Nat} {v : Value} {l : List (List Nat)} (h : LO w wr B v l) (hb : Below wr.heap.size wr w') : LO w w' B v l :=
  ⟨own_below h.own hb, below_next h.bel hb, h.ids, by have := h.siz; have := hb.size; omega⟩
theorem LO.put {w wr w2 : World} {B : Nat} {v v2 : Value} {l : List (List Nat)} {x : List Nat} (h : LO w wr B v l) (hid : Id32 x) (ho2 : w2.ownsRow B 36 32 v2 (l.length + 1) (cellsP l ++ cellsB x)) (hg : wr.grownBy w2 v.ownBlock) : LO w w2 B v2 (l ++ [x]) :=
  ⟨by rw [List.length_append, List.length_singleton, cellsP_snoc]; exact ho2, cl_grow h.bel hg (fun y hy => by have := (own_in h.own hy).1; have := h.siz; omega), fun y hy => by
    rcases List.mem_append.1 hy with hy | hy
    · exact h.ids y hy
    · rw [List.mem_singleton.1 hy]; exact hid, by have := hg.size; have := h.siz; omega⟩
theorem rdo_k {wr : World} {v : Value} {l : List (List Nat)} (h : RdK wr v l.length (cellsP l)) (hi : ∀ x ∈ l, Id32 x) : RdO wr v l := by
  obtain ⟨A, c, hv, hc, hA⟩ := h
  refine ⟨A, c, hv, hc, fun h0 => ?_⟩
  obtain ⟨b, o, ha, hl, hx⟩ := hA h0
  refine ⟨b, o, ha, hl, fun i hil j u hu => ?_⟩
  rw [Nat.add_assoc, Nat.mul_comm 32 i]
  exact hx (i * 32 + j) u (cellsP_at hi hil hu)
theorem LO.rd {w wr : World} {B : Nat} {v : Value} {l : List (List Nat)} (h : LO w wr B v l) : RdO wr v l := rdo_k (rdk_own h.own) h.ids
theorem rdo_go {w w' : World} {v : Value} {l : List (List Nat)} {B : Nat} (h : RdO w v l) (hb : Below B w w') (hB : w.heap.size ≤ B) : RdO w' v l := by
  obtain ⟨A, c, hv, hc, hA⟩ := h
  refine ⟨A, c, hv, hc, fun h0 => ?_⟩
  obtain ⟨b, o, ha, hl, hx⟩ := hA h0
  exact ⟨b, o, ha, Nat.lt_of_lt_of_le hl hb.size, fun i hi j u hu => (hb.cell (p := ⟨b, o + 32 * i + j, none⟩) (Nat.lt_of_lt_of_le hl hB)).trans (hx i hi j u hu)⟩
theorem LO.new {w w1 : World} {B : Nat} (h : Below w.heap.size w w1) (h1 : w.heap.size ≤ B) (h2 : B ≤ w1.heap.size) : LO w (w1.alloc (.cells #[] 36)) B (.slice (some ⟨w1.heap.size, 0, none⟩) 0 0) [] :=
  ⟨⟨rfl, .inr ⟨w1.heap.size, 0, #[], rfl, h2, heap_alloc_new w1 _, Nat.le_refl _, by unfold maxLen; omega, rfl, rfl⟩⟩, h.alloc h.size _, fun x hx => (by cases hx), h1, by simp; omega⟩
/-- a list's element and what lies behind it -/
theorem take_next {l : List (List Nat)} {k : Nat} {x : List Nat} (h : k < l.length) (e : l.getD k [] = x) : l.take (k + 1) = l.take k ++ [x] ∧ x ∈ l := by
  have h1 : l[k] = x := by rw [← e, List.getD_eq_getElem?_getD, List.getElem?_eq_getElem h]; rfl
  exact ⟨by rw [List.take_succ_eq_append_getElem h, h1], h1 ▸ List.getElem_mem h⟩
/-- how a made row ends -/
def MadePost (l : List (List Nat)) (w : World) (e : Ending) (w' : World) : Prop := ∃ v, e = .returned v ∧ RdO w' v l ∧ (∀ x ∈ l, Id32 x) ∧ Below w.heap.size w w'
set_option maxRecDepth 100000 in
set_option maxHeartbeats 2000000 in
theorem lids_any (l : List (List Nat)) (v : Value) (w : World) (h : RdO w v l) (hi : ∀ x ∈ l, Id32 x) (hn : l.length ≤ 1000) :
    Calls Tryd.prog 9 #[v] w (MadePost l w) := by
  obtain ⟨A, c, rfl, _, hx⟩ := h
  obtain ⟨n, hnl⟩ : ∃ n, n = l.length := ⟨_, rfl⟩
  rw [← hnl] at hn hx ⊢
  have HX : Hid (0 < n → ∃ b o, A = some ⟨b, o, none⟩ ∧ b < w.heap.size ∧ ∀ i, i < n → w.rangeAt b (o + 32 * i) (cellsN (l.getD i []))) := Lib.hid hx
  have HN := Lib.hid hn
  have HNL := Lib.hid hnl
  have HXI := Lib.hid hi
  clear hx hn hnl hi
  have HW0 : Hid (LO w (w.alloc (.cells #[] 36)) w.heap.size (.slice (some ⟨w.heap.size, 0, none⟩) 0 0) (l.take 0)) := Lib.hid (LO.new (Below.refl _ _) (Nat.le_refl _) (Nat.le_refl _))
  go_enter Tryd.func9, Tryd.ntmps9
  go_wp2
  change Code.wp _ _ _ _ (w.alloc (.cells #[] 36))
  generalize w.alloc (.cells #[] 36) = w1 at HW0 ⊢
  go_loopw [3, 9] (fun v i wr => ∃ k : Nat, k ≤ n ∧ i = .int .i64 k ∧ Hid (LO w wr w.heap.size v (l.take k))) (fun _ i _ => n - (intOf i).toNat)
  case atStart => exact ⟨0, Nat.zero_le _, rfl, HW0⟩
  case round =>
    obtain ⟨k, hk, rfl, HW⟩ := hrel
    obtain ⟨Av, cv, hvv⟩ := cl_own_slice HW.out.own
    subst hvv
    obtain ⟨nl, hnl⟩ : ∃ q, q = (l.take k).length := ⟨_, rfl⟩
    rw [← hnl] at HW ⊢
    have HNB : Hid (nl ≤ 1000) := Lib.hid (by have := HN.out; rw [hnl, List.length_take]; omega)
    have HL := Lib.hid hnl
    clear hnl
    by_cases hlt : k < n
    · skip
      have hkx : k < l.length := by rw [← HNL.out]; exact hlt
      obtain ⟨b, o, rfl, hbl, hcell⟩ := HX.out (by omega)
      obtain ⟨x, hxx⟩ : ∃ x, l.getD k [] = x := ⟨_, rfl⟩
      have HTK := Lib.hid (take_next hkx hxx)
      have HIX := Lib.hid (HXI.out x HTK.out.2)
      have HRG : Hid (wr.rangeAt b (o + k * 32) (cellsB x)) := Lib.hid (fun j u hu => (HW.out.bel.cell (p := ⟨b, o + k * 32 + j, none⟩) hbl).trans (by
        rw [Nat.mul_comm k 32]
        exact hcell k hlt j u (by rw [hxx]; exact hu)))
      have i1 : ((k : Nat) : Int) < n := by omega
      have i2 : (0 : Int) ≤ ((k : Nat) : Int) := by omega
      have i3 : ((k : Nat) : Int) < 1000 := by have := HN.out; omega
      have HLT := Lib.hid hlt
      clear hkx hbl hcell hxx hk hlt
      go_wp2_with (with_reducible (show wpList _ _ _ (Oper.mk _ (Op.load 37 _) _ _ _ _ :: _) _ _); refine pause ?_)
      unfold Paused
      refine wpList_mid_w (by rfl) 37 (.tmp 11) (by rfl) b (o + k * 32) (by rfl) (cellsB x) _ HRG.out Tryd.underlying37 (by rfl) (by rw [cellsP1_len HIX.out]; kernel_rfl) ?_
      go_wp2_with (with_reducible (show wpList _ _ _ (Oper.mk _ (Op.store 37 _ _) _ _ _ _ :: _) _ _); refine pause ?_)
      unfold Paused
      change wpList _ _ _ _ _ (wr.alloc (.cells (u8s (List.replicate 32 0)) 37))
      refine wpList_store_row (by rfl) 37 (.tmp 5) (.tmp 12) (by rfl) wr.heap.size (u8s x) (by rfl) (by rfl) 37 (u8s (List.replicate 32 0)) (Blk.new wr _ _) (by rw [u8s_size, HIX.out.1]; kernel_rfl) (by rw [u8s_size, u8s_size, HIX.out.1]; rfl) (u8s_one _) ?_
      have b6 : Below wr.heap.size wr ((wr.alloc (.cells (u8s (List.replicate 32 0)) 37)).setRow wr.heap.size (u8s x)) := below_row ((Below.refl _ _).alloc (Nat.le_refl _) _) (Nat.le_refl _) _
      have HW6 := Lib.hid (HW.out.below b6)
      have HI6 : Hid (Blk ((wr.alloc (.cells (u8s (List.replicate 32 0)) 37)).setRow wr.heap.size (u8s x)) wr.heap.size 37 (u8s x)) := Lib.hid ((Blk.new wr _ _).row _)
      have HB6 := Lib.hid b6
      clear b6 HRG
      generalize (wr.alloc (.cells (u8s (List.replicate 32 0)) 37)).setRow wr.heap.size (u8s x) = w6 at HB6 HW6 HI6 ⊢
      generalize wr.heap.size = g6 at HB6 HI6 ⊢
      simp only [Act.put]
      go_wp2_with (with_reducible (show wpList _ _ _ (Oper.mk _ (Op.load 37 _) _ _ _ _ :: _) _ _); refine pause ?_)
      unfold Paused
      refine wpList_row_w (by rfl) 37 (.tmp 5) (by rfl) g6 (by rfl) 37 (u8s x) _ HI6.out Tryd.underlying37 (by rfl) (by rw [u8s_size, HIX.out.1]; kernel_rfl) ?_
      obtain ⟨ip, hip, hpz, hps, hpb⟩ := info_parts rid_info
      go_wp2_with (with_reducible (show wpList _ _ _ (Oper.mk _ (Op.buildSlice _ _ _) _ _ _ _ :: _) _ _); refine pause ?_)
      unfold Paused
      refine wpList_buildSliceK (by rfl) 26 36 1 _ (by rfl) (cellsB x).toArray ip (.agg (cellsB (List.replicate 32 0)).toArray) Tryd.underlying26 hip hpz (by rw [hps]; decide) (by rw [hps]; decide) _ (by kernel_rfl) (by rw [hps]; exact fill_one 32 (Value.agg (cellsB (List.replicate 32 0)).toArray).cells _ (cellsP1_len HIX.out) (by rfl)) ?_
      have b7 : Below w6.heap.size w6 (w6.alloc (.cells (cellsB x).toArray 36)) := (Below.refl _ _).alloc (Nat.le_refl _) _
      have HX7a := Lib.hid (Blk.new w6 36 (cellsB x).toArray)
      have HW7a := Lib.hid (HW6.out.below b7)
      have HB7a := Lib.hid b7
      clear b7
      have HS7a := Lib.hid (Nat.le_refl w6.heap.size)
      generalize w6.alloc (.cells (cellsB x).toArray 36) = w7a at HX7a HW7a HB7a ⊢
      generalize hg7 : w6.heap.size = g7a at HX7a ⊢
      clear hg7 HS7a
      have HO7a : Hid (w7a.ownsRow w.heap.size 36 32 (.slice Av nl cv) nl (cellsP (l.take k))) := Lib.hid (by have h1 := HW7a.out.own; rw [← HL.out] at h1; exact h1)
      go_wp2_with (with_reducible (show wpList _ _ _ (Oper.mk _ (Op.call (Call.mk (Callee.builtin Builtin.append) _ _)) _ _ _ _ :: _) _ _); refine pause ?_)
      unfold Paused
      refine wpList_append_lies w7a (by rfl) (.tmp 13) (.tmp 15) 26 (by rfl) w.heap.size 36 ip _ 32 32 Tryd.underlying26 hip hpz hps hpb (by rfl) (by decide) (.slice Av nl cv) nl (cellsP (l.take k)) (by rfl) HO7a.out ⟨g7a, 0, none⟩ 1 1 (cellsB x) (by rfl) (by rw [cellsP1_len HIX.out]) (fun j u hj => by rw [Addr.add_mid, Nat.zero_add, HX7a.out.cell j]; simpa using hj) (cellsB_one _) (by decide) (by have := HNB.out; unfold maxLen; omega) (by have := HNB.out; omega) HW7a.out.siz.2 w7a.heap.size rfl ?_
      intro g8a c8a w8a ho8 hg8 hl8 _
      have HN8a : Hid (LO w w8a w.heap.size (.slice (some ⟨g8a, 0, none⟩) (nl + 1) c8a) ((l.take k) ++ [x])) := Lib.hid (HW7a.out.put HIX.out (by rw [← HL.out]; exact ho8) hg8)
      clear ho8 hg8 hl8 hip hpz hps hpb
      simp only [Act.put]
      have HN9 : Hid (LO w w8a w.heap.size (.slice (some ⟨g8a, 0, none⟩) (nl + 1) c8a) (l.take (k + 1))) := Lib.hid (by rw [HTK.out.1]; exact HN8a.out)
      go_wp2
      go_roundw
      case rel => exact ⟨k + 1, by have := HLT.out; omega, by go_num, HN9⟩
      case measure => have := HLT.out; simp [intOf]; omega
    · obtain rfl : k = n := by omega
      have ik : ¬ ((k : Nat) : Int) < k := by omega
      have HF : Hid (MadePost l w (.returned (.slice Av nl cv)) wr) := Lib.hid (by
        have h1 := HW.out
        rw [HNL.out, List.take_length] at h1
        exact ⟨_, rfl, h1.rd, h1.ids, h1.bel⟩)
      go_wp2
      go_ret
      exact HF.out
end Go.Proofs.YtlodalppnglclaaDoor
/- Long, of closure's objects. -/
namespace Go.Proofs.YtlodalppnglclaaDoor
open Go Go.RowKit
/-- how Long ends -/
def CLongPost (its : List Cl.T) (w : World) (e : Ending) (w' : World) : Prop := ∃ β, e = .returned (.bool β) ∧ (β = false → its.length ≤ 70 ∧ ∀ p ∈ its, p.text.length ≤ 400) ∧ w' = w
set_option maxRecDepth 100000 in
set_option maxHeartbeats 4000000 in
theorem clong_any (A : Option Addr) (n c : Nat) (its : List Cl.T) (w : World) (h : ClT w (.slice A n c) its) :
    Calls Tryd.prog 7 #[.slice A n c] w (CLongPost its w) := by
  have hn : n = its.length := by
    obtain ⟨A', c', hv, _⟩ := h.row
    injection hv with e1 e2 e3
    rw [e2, List.length_map]
  by_cases h70 : 70 < n
  · have g1 : (70 : Int) < (n : Int) := by omega
    clear h hn
    go_enter Tryd.func7, Tryd.ntmps7
    go_wp2
    go_ret
    exact ⟨true, rfl, fun h => absurd h (by decide), rfl⟩
  have g1 : ¬ (70 : Int) < (n : Int) := by omega
  have HCE : Hid (0 < n → ∃ b o, A = some ⟨b, o, none⟩ ∧ ∀ i (hi : i < n), ∃ A1 l1 c1 p, its[i]? = some p ∧ p.text.length = l1 ∧ w.cell? ⟨b, o + i, none⟩ = some (.slice A1 l1 c1)) := Lib.hid (fun h0 => by
    obtain ⟨A', c', hv, _, hA⟩ := h.row
    injection hv with e1 e2 e3
    obtain ⟨b, o, ha, hb, hx⟩ := hA (by rw [List.length_map]; omega)
    refine ⟨b, o, by rw [e1, ha], fun i hi => ?_⟩
    obtain ⟨p, hp⟩ : ∃ p, its[i]? = some p := ⟨its[i]'(by omega), List.getElem?_eq_getElem _⟩
    obtain ⟨⟨A1, c1, hpv, _⟩, _⟩ := h.rd p (List.mem_of_getElem? hp)
    exact ⟨A1, _, c1, p, hp, rfl, by rw [← hpv]; exact hx i _ (by rw [List.getElem?_map, hp]; rfl)⟩)
  have HN := Lib.hid hn
  have HN70 : Hid (n ≤ 70) := Lib.hid (by omega)
  clear h hn h70
  go_enter Tryd.func7, Tryd.ntmps7
  go_wp2
  go_loopw [3, 11] (fun s i wr => wr = w ∧ ∃ k : Nat, k ≤ n ∧ i = .int .i64 k ∧ ∃ m : Nat, s = .int .i64 m ∧ Hid (m ≤ 400 * k ∧ ∀ j p, j < k → its[j]? = some p → p.text.length ≤ 400)) (fun _ i _ => n - (intOf i).toNat)
  case atStart => exact ⟨rfl, 0, Nat.zero_le _, rfl, 0, rfl, Lib.hid ⟨Nat.zero_le _, fun j p hj => absurd hj (by omega)⟩⟩
  case round =>
    obtain ⟨rfl, k, hk, rfl, m, rfl, HM⟩ := hrel
    by_cases hlt : k < n
    · obtain ⟨b, o, rfl, hx⟩ := HCE.out (by omega)
      obtain ⟨A1, l1, c1, p, hp, hpl, pc⟩ := hx k hlt
      have HP := Lib.hid hp
      have HPL := Lib.hid hpl
      have i1 : ((k : Nat) : Int) < n := by omega
      have i2 : (0 : Int) ≤ ((k : Nat) : Int) := by omega
      have i3 : ((k : Nat) : Int) < 70 := by have := HN70.out; omega
      have i4 : ((m : Nat) : Int) ≤ 28000 := by have h1 := HM.out.1; have h2 := HN70.out; omega
      have i5 : (0 : Int) ≤ ((m : Nat) : Int) := by omega
      clear hp hpl hx
      by_cases hl : 400 < l1
      · have g2 : (400 : Int) < (l1 : Int) := by omega
        clear hl
        go_wp2
        go_ret
        exact ⟨true, rfl, fun h => absurd h (by decide), rfl⟩
      · have g2 : ¬ (400 : Int) < (l1 : Int) := by omega
        have g3 : (l1 : Int) ≤ 400 := by omega
        have g4 : (0 : Int) ≤ (l1 : Int) := by omega
        have HM2 : Hid (m + l1 ≤ 400 * (k + 1) ∧ ∀ j p, j < k + 1 → its[j]? = some p → p.text.length ≤ 400) := Lib.hid ⟨by have := HM.out.1; omega, fun j q hj hq => by
          by_cases hjk : j = k
          · subst hjk
            rw [HP.out] at hq
            cases hq
            rw [HPL.out]; omega
          · exact HM.out.2 j q (by omega) hq⟩
        clear hl
        go_wp2
        go_roundw
        case rel => exact ⟨trivial, k + 1, by omega, by go_num, m + l1, by go_num, HM2⟩
        case measure => simp [intOf]; omega
    · obtain rfl : k = n := by omega
      have ik : ¬ ((k : Nat) : Int) < k := by omega
      go_wp2
      go_ret
      exact ⟨_, rfl, fun _ => ⟨by rw [← HN.out]; exact HN70.out, fun p hp => by
        obtain ⟨j, hj⟩ := List.mem_iff_getElem?.1 hp
        exact HM.out.2 j p (by have := (List.getElem?_eq_some_iff.1 hj).1; rw [HN.out]; exact this) hj⟩, rfl⟩
end Go.Proofs.YtlodalppnglclaaDoor
