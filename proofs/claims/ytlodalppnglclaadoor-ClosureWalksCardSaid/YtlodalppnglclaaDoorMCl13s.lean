/- The document's row of ids, rising: an id put into it. -/
import Derived.Test.YtlodalppnglclaaDoorMCl9s
import Derived.Test.YtlodalppnglclaaDoorMTextss
import Derived.Test.YtlodalppnglclaaDoorMOb30s
namespace Go.Proofs.YtlodalppnglclaaDoor
open Go Go.RowKit
namespace Cl
/-- a step of the document's walk through the row -/
def pst (id : List Nat) (s : Bool × List (List Nat)) (x : List Nat) : Bool × List (List Nat) := if s.1 = false ∧ Sha.lexLt id x = true then (true, s.2 ++ [id] ++ [x]) else (s.1, s.2 ++ [x])
/-- a rising row with an id -/
noncomputable def put (l : List (List Nat)) (id : List Nat) : List (List Nat) := open Classical in if id ∈ l then l else if (l.foldl (pst id) (false, [])).1 = true then (l.foldl (pst id) (false, [])).2 else (l.foldl (pst id) (false, [])).2 ++ [id]
theorem pst_len (id : List Nat) : ∀ (l : List (List Nat)) (s : Bool × List (List Nat)), (l.foldl (pst id) s).2.length ≤ s.2.length + 2 * l.length
  | [], s => by simp
  | x :: l, s => by
    rw [List.foldl_cons]
    have h := pst_len id l (pst id s x)
    have h1 : (pst id s x).2.length ≤ s.2.length + 2 := by unfold pst; split <;> simp
    rw [List.length_cons]; omega
theorem pst_true (id x : List Nat) (acc : List (List Nat)) : pst id (true, acc) x = (true, acc ++ [x]) := by unfold pst; simp
theorem pst_lt (id x : List Nat) (acc : List (List Nat)) (h : Sha.lexLt id x = true) : pst id (false, acc) x = (true, acc ++ [id] ++ [x]) := by unfold pst; simp [h]
theorem pst_ge (id x : List Nat) (acc : List (List Nat)) (h : Sha.lexLt id x = false) : pst id (false, acc) x = (false, acc ++ [x]) := by unfold pst; simp [h]
end Cl
set_option maxRecDepth 100000 in
set_option maxHeartbeats 4000000 in
theorem rput_any (l : List (List Nat)) (id : List Nat) (v : Value) (w : World) (h : RdO w v l) (hi : ∀ x ∈ l, Id32 x) (hid : Id32 id) (hn : l.length ≤ 1000) :
    Calls Tryd.prog 20 #[v, .agg (u8s id)] w (MadePost (Cl.put l id) w) := by
  obtain ⟨w1, hw1⟩ : ∃ w1, w1 = w.alloc (.cells (u8s id) 36) := ⟨_, rfl⟩
  have b1 : Below w.heap.size w w1 := hw1 ▸ (Below.refl _ _).alloc (Nat.le_refl _) _
  have HIa : Hid (Blk w1 w.heap.size 36 (u8s id)) := Lib.hid (hw1 ▸ Blk.new w _ _)
  have CI := rin_any l id v w1 (rdo_go h b1 (Nat.le_refl _)) hi hid (by omega)
  have HV := Lib.hid h
  obtain ⟨A, c, rfl, _, hx⟩ := h
  obtain ⟨n, hnl⟩ : ∃ n, n = l.length := ⟨_, rfl⟩
  rw [← hnl] at hn hx CI HV ⊢
  have HX : Hid (0 < n → ∃ b o, A = some ⟨b, o, none⟩ ∧ b < w.heap.size ∧ ∀ i, i < n → w.rangeAt b (o + 32 * i) (cellsN (l.getD i []))) := Lib.hid hx
  have HN := Lib.hid hn
  have HNL := Lib.hid hnl
  have HXI := Lib.hid hi
  have HID := Lib.hid hid
  have HB := Lib.hid b1
  have e1 := hw1.symm
  clear hx hn hnl hi hid b1 hw1
  go_enter Tryd.func20, Tryd.ntmps20
  go_wp2_with (with_reducible (show wpList _ _ _ (Oper.mk _ (Op.load 36 _) _ _ _ _ :: _) _ _); refine pause ?_)
  unfold Paused
  try change wpList _ _ _ _ _ (w.alloc (.cells (u8s id) 36))
  try rw [e1]
  refine wpList_row_w (by rfl) 36 (.tmp 3) (by rfl) w.heap.size (by rfl) 36 (u8s id) _ HIa.out Tryd.underlying36 (by rfl) (by rw [u8s_size, HID.out.1]; kernel_rfl) ?_
  go_wp2_with (go_at_call 23; refine pause ?_)
  unfold Paused
  refine CI.mono ?_
  rintro e w2 ⟨rfl, hb2⟩
  have HB2 := Lib.hid (below_next HB.out hb2)
  have HI2 := Lib.hid (HIa.out.below hb2 HIa.out.lt)
  clear hb2 CI
  generalize hdm : decide (id ∈ l) = dm
  cases dm with
  | true =>
    have HF : Hid (MadePost (Cl.put l id) w (.returned (.slice A n c)) w2) := Lib.hid (by
      have hm : id ∈ l := by simpa using hdm
      unfold Cl.put
      rw [if_pos hm]
      exact ⟨_, rfl, rdo_go HV.out HB2.out (Nat.le_refl _), HXI.out, HB2.out⟩)
    clear hdm
    go_wp2
    go_ret
    exact HF.out
  | false =>
    have HPU : Hid (Cl.put l id = if (l.foldl (Cl.pst id) (false, [])).1 = true then (l.foldl (Cl.pst id) (false, [])).2 else (l.foldl (Cl.pst id) (false, [])).2 ++ [id]) := Lib.hid (by
      have hm : id ∉ l := by simpa using hdm
      unfold Cl.put
      rw [if_neg hm])
    clear hdm
    have hs2 : w.heap.size + 1 ≤ w2.heap.size := HI2.out.lt
    have HW0 : Hid (LO w (w2.alloc (.cells #[] 36)) (w.heap.size + 1) (.slice (some ⟨w2.heap.size, 0, none⟩) 0 0) []) := Lib.hid (LO.new HB2.out (by omega) hs2)
    have HI0 : Hid (Blk (w2.alloc (.cells #[] 36)) w.heap.size 36 (u8s id)) := Lib.hid (HI2.out.alloc _)
    clear hs2
    go_wp2
    change Code.wp _ _ _ _ (w2.alloc (.cells #[] 36))
    generalize w2.alloc (.cells #[] 36) = w3 at HW0 HI0 ⊢
    generalize w2.heap.size = g2 at HW0 ⊢
    go_loopw [5, 6, 16] (fun v d i wr => ∃ (k : Nat) (db : Bool) (acc : List (List Nat)), k ≤ n ∧ i = .int .i64 k ∧ d = .bool db ∧ Hid ((l.take k).foldl (Cl.pst id) (false, []) = (db, acc)) ∧ Hid (LO w wr (w.heap.size + 1) v acc) ∧ Hid (Blk wr w.heap.size 36 (u8s id))) (fun _ _ i _ => n - (intOf i).toNat)
    case atStart => exact ⟨0, false, [], Nat.zero_le _, rfl, rfl, Lib.hid rfl, HW0, HI0⟩
    case round =>
      obtain ⟨k, db, acc, hk, rfl, rfl, HFK, HW, HI⟩ := hrel
      obtain ⟨Av, cv, hvv⟩ := cl_own_slice HW.out.own
      subst hvv
      obtain ⟨nl, hnl⟩ : ∃ q, q = acc.length := ⟨_, rfl⟩
      rw [← hnl] at HW ⊢
      have HNB : Hid (nl ≤ 2000) := Lib.hid (by
        have h1 := Cl.pst_len id (l.take k) (false, [])
        rw [HFK.out, List.length_take] at h1
        have h2 := HN.out
        simp only [List.length_nil] at h1
        rw [hnl]; omega)
      have HL := Lib.hid hnl
      clear hnl
      by_cases hlt : k < n
      · skip
        have hkx : k < l.length := by rw [← HNL.out]; exact hlt
        obtain ⟨b, o, rfl, hbl, hcell⟩ := HX.out (by omega)
        obtain ⟨x, hxx⟩ : ∃ x, l.getD k [] = x := ⟨_, rfl⟩
        have HTK := Lib.hid (take_next hkx hxx)
        have HIX := Lib.hid (HXI.out x HTK.out.2)
        have HRG : Hid (wr.rangeAt b (o + k * 32) (cellsB x)) := Lib.hid (fun j u hu => (HW.out.bel.cell (p := ⟨b, o + k * 32 + j, none⟩) hbl).trans (by
          rw [Nat.mul_comm k 32]
          exact hcell k hlt j u (by rw [hxx]; exact hu)))
        have i1 : ((k : Nat) : Int) < n := by omega
        have i2 : (0 : Int) ≤ ((k : Nat) : Int) := by omega
        have i3 : ((k : Nat) : Int) < 1000 := by have := HN.out; omega
        have HLT := Lib.hid hlt
        clear hkx hbl hcell hxx hk hlt
        go_wp2_with (with_reducible (show wpList _ _ _ (Oper.mk _ (Op.load 36 _) _ _ _ _ :: _) _ _); refine pause ?_)
        unfold Paused
        refine wpList_mid_w (by rfl) 36 (.tmp 18) (by rfl) b (o + k * 32) (by rfl) (cellsB x) _ HRG.out Tryd.underlying36 (by rfl) (by rw [cellsP1_len HIX.out]; kernel_rfl) ?_
        go_wp2_with (with_reducible (show wpList _ _ _ (Oper.mk _ (Op.store 36 _ _) _ _ _ _ :: _) _ _); refine pause ?_)
        unfold Paused
        change wpList _ _ _ _ _ (wr.alloc (.cells (u8s (List.replicate 32 0)) 36))
        refine wpList_store_row (by rfl) 36 (.tmp 8) (.tmp 19) (by rfl) wr.heap.size (u8s x) (by rfl) (by rfl) 36 (u8s (List.replicate 32 0)) (Blk.new wr _ _) (by rw [u8s_size, HIX.out.1]; kernel_rfl) (by rw [u8s_size, u8s_size, HIX.out.1]; rfl) (u8s_one _) ?_
        have b6 : Below wr.heap.size wr ((wr.alloc (.cells (u8s (List.replicate 32 0)) 36)).setRow wr.heap.size (u8s x)) := below_row ((Below.refl _ _).alloc (Nat.le_refl _) _) (Nat.le_refl _) _
        have HW6 := Lib.hid (HW.out.below b6)
        have HI6 : Hid (Blk ((wr.alloc (.cells (u8s (List.replicate 32 0)) 36)).setRow wr.heap.size (u8s x)) wr.heap.size 36 (u8s x)) := Lib.hid ((Blk.new wr _ _).row _)
        have HB6 := Lib.hid b6
        clear b6 HRG
        have HI1 : Hid (Blk ((wr.alloc (.cells (u8s (List.replicate 32 0)) 36)).setRow wr.heap.size (u8s x)) w.heap.size 36 (u8s id)) := Lib.hid (HI.out.below HB6.out HI.out.lt)
        have HFR : Hid (∀ y, (Value.slice Av nl cv).ownBlock = some y → y ≠ wr.heap.size) := Lib.hid (fun y hy => by have := own_in HW.out.own hy; omega)
        generalize (wr.alloc (.cells (u8s (List.replicate 32 0)) 36)).setRow wr.heap.size (u8s x) = w6 at HI1 HB6 HW6 HI6 ⊢
        generalize hg6 : wr.heap.size = g6 at HB6 HI6 ⊢
        have HG6 := Lib.hid hg6.symm
        clear hg6
        simp only [Act.put]
        have HFO1 : Hid ((l.take (k + 1)).foldl (Cl.pst id) (false, []) = Cl.pst id (db, acc) x) := Lib.hid (by rw [HTK.out.1, List.foldl_append, HFK.out]; rfl)
        cases db with
        | true =>
          go_wp2_with (with_reducible (show wpList _ _ _ (Oper.mk _ (Op.load 36 _) _ _ _ none :: _) _ _); refine pause ?_)
          unfold Paused
          refine wpList_row_w (by rfl) 36 (.tmp 8) (by rfl) g6 (by rfl) 36 (u8s x) _ HI6.out Tryd.underlying36 (by rfl) (by rw [u8s_size, HIX.out.1]; kernel_rfl) ?_
          obtain ⟨ip, hip, hpz, hps, hpb⟩ := info_parts rid_info
          go_wp2_with (with_reducible (show wpList _ _ _ (Oper.mk _ (Op.buildSlice _ _ _) _ _ _ _ :: _) _ _); refine pause ?_)
          unfold Paused
          refine wpList_buildSliceK (by rfl) 26 36 1 _ (by rfl) (cellsB x).toArray ip (.agg (cellsB (List.replicate 32 0)).toArray) Tryd.underlying26 hip hpz (by rw [hps]; decide) (by rw [hps]; decide) _ (by kernel_rfl) (by rw [hps]; exact fill_one 32 (Value.agg (cellsB (List.replicate 32 0)).toArray).cells _ (cellsP1_len HIX.out) (by rfl)) ?_
          have b7 : Below w6.heap.size w6 (w6.alloc (.cells (cellsB x).toArray 36)) := (Below.refl _ _).alloc (Nat.le_refl _) _
          have HX7a := Lib.hid (Blk.new w6 36 (cellsB x).toArray)
          have HW7a := Lib.hid (HW6.out.below b7)
          have HB7a := Lib.hid b7
          clear b7
          have HS7a := Lib.hid (Nat.le_refl w6.heap.size)
          generalize w6.alloc (.cells (cellsB x).toArray 36) = w7a at HX7a HW7a HB7a ⊢
          generalize hg7 : w6.heap.size = g7a at HX7a ⊢
          clear hg7 HS7a
          have HO7a : Hid (w7a.ownsRow (w.heap.size + 1) 36 32 (.slice Av nl cv) nl (cellsP acc)) := Lib.hid (by have h1 := HW7a.out.own; rw [← HL.out] at h1; exact h1)
          go_wp2_with (with_reducible (show wpList _ _ _ (Oper.mk _ (Op.call (Call.mk (Callee.builtin Builtin.append) _ _)) _ _ _ _ :: _) _ _); refine pause ?_)
          unfold Paused
          refine wpList_append_lies w7a (by rfl) (.tmp 31) (.tmp 33) 26 (by rfl) (w.heap.size + 1) 36 ip _ 32 32 Tryd.underlying26 hip hpz hps hpb (by rfl) (by decide) (.slice Av nl cv) nl (cellsP acc) (by rfl) HO7a.out ⟨g7a, 0, none⟩ 1 1 (cellsB x) (by rfl) (by rw [cellsP1_len HIX.out]) (fun j u hj => by rw [Addr.add_mid, Nat.zero_add, HX7a.out.cell j]; simpa using hj) (cellsB_one _) (by decide) (by have := HNB.out; unfold maxLen; omega) (by have := HNB.out; omega) HW7a.out.siz.2 w7a.heap.size rfl ?_
          intro g8a c8a w8a ho8 hg8 hl8 _
          have HN8a : Hid (LO w w8a (w.heap.size + 1) (.slice (some ⟨g8a, 0, none⟩) (nl + 1) c8a) (acc ++ [x])) := Lib.hid (HW7a.out.put HIX.out (by rw [← HL.out]; exact ho8) hg8)
          have HI9 : Hid (Blk w8a w.heap.size 36 (u8s id)) := Lib.hid ((HI1.out.below HB7a.out HI1.out.lt).grown hg8 (fun e => (by have := own_in HO7a.out e.symm; omega)))
          clear ho8 hg8 hl8 hip hpz hps hpb
          simp only [Act.put]
          have HN9 := HN8a
          have HFO : Hid ((l.take (k + 1)).foldl (Cl.pst id) (false, []) = (true, acc ++ [x])) := Lib.hid (by rw [HFO1.out, Cl.pst_true])
          go_wp2
          go_roundw
          case rel => exact ⟨k + 1, true, _, by have := HLT.out; omega, by go_num, rfl, HFO, HN9, HI9⟩
          case measure => have := HLT.out; simp [intOf]; omega
        | false =>
          have CL := rless_any id x w6 HID.out.1 HIX.out.1 HID.out.2 HIX.out.2
          generalize hlx : Sha.lexLt id x = lx at CL
          go_wp2_with (with_reducible (show wpList _ _ _ (Oper.mk _ (Op.load 36 _) _ _ _ _ :: _) _ _); refine pause ?_)
          unfold Paused
          refine wpList_row_w (by rfl) 36 (.tmp 3) (by rfl) w.heap.size (by rfl) 36 (u8s id) _ HI1.out Tryd.underlying36 (by rfl) (by rw [u8s_size, HID.out.1]; kernel_rfl) ?_
          go_wp2_with (with_reducible (show wpList _ _ _ (Oper.mk _ (Op.load 36 _) _ _ _ _ :: _) _ _); refine pause ?_)
          unfold Paused
          refine wpList_row_w (by rfl) 36 (.tmp 8) (by rfl) g6 (by rfl) 36 (u8s x) _ HI6.out Tryd.underlying36 (by rfl) (by rw [u8s_size, HIX.out.1]; kernel_rfl) ?_
          go_wp2_with (go_at_call 36; refine pause ?_)
          unfold Paused
          refine CL.mono ?_
          rintro e w7 ⟨rfl, hb7⟩
          have HWb := Lib.hid (HW6.out.below hb7)
          have HIb := Lib.hid (HI1.out.below hb7 HI1.out.lt)
          have HI6b := Lib.hid (HI6.out.below hb7 HI6.out.lt)
          clear hb7 CL
          cases lx with
          | true =>
            have HFO : Hid ((l.take (k + 1)).foldl (Cl.pst id) (false, []) = (true, acc ++ [id] ++ [x])) := Lib.hid (by rw [HFO1.out, Cl.pst_lt _ _ _ hlx])
            clear hlx
            go_wp2_with (with_reducible (show wpList _ _ _ (Oper.mk _ (Op.load 36 _) _ _ _ _ :: _) _ _); refine pause ?_)
            unfold Paused
            refine wpList_row_w (by rfl) 36 (.tmp 3) (by rfl) w.heap.size (by rfl) 36 (u8s id) _ HIb.out Tryd.underlying36 (by rfl) (by rw [u8s_size, HID.out.1]; kernel_rfl) ?_
            obtain ⟨ip, hip, hpz, hps, hpb⟩ := info_parts rid_info
            go_wp2_with (with_reducible (show wpList _ _ _ (Oper.mk _ (Op.buildSlice _ _ _) _ _ _ _ :: _) _ _); refine pause ?_)
            unfold Paused
            refine wpList_buildSliceK (by rfl) 26 36 1 _ (by rfl) (cellsB id).toArray ip (.agg (cellsB (List.replicate 32 0)).toArray) Tryd.underlying26 hip hpz (by rw [hps]; decide) (by rw [hps]; decide) _ (by kernel_rfl) (by rw [hps]; exact fill_one 32 (Value.agg (cellsB (List.replicate 32 0)).toArray).cells _ (cellsP1_len HID.out) (by rfl)) ?_
            have b7 : Below w7.heap.size w7 (w7.alloc (.cells (cellsB id).toArray 36)) := (Below.refl _ _).alloc (Nat.le_refl _) _
            have HX7c := Lib.hid (Blk.new w7 36 (cellsB id).toArray)
            have HW7c := Lib.hid (HWb.out.below b7)
            have HB7c := Lib.hid b7
            clear b7
            have HS7c := Lib.hid (Nat.le_refl w7.heap.size)
            generalize w7.alloc (.cells (cellsB id).toArray 36) = w7c at HX7c HW7c HB7c ⊢
            generalize hg7 : w7.heap.size = g7c at HX7c ⊢
            clear hg7 HS7c
            have HO7c : Hid (w7c.ownsRow (w.heap.size + 1) 36 32 (.slice Av nl cv) nl (cellsP acc)) := Lib.hid (by have h1 := HW7c.out.own; rw [← HL.out] at h1; exact h1)
            go_wp2_with (with_reducible (show wpList _ _ _ (Oper.mk _ (Op.call (Call.mk (Callee.builtin Builtin.append) _ _)) _ _ _ _ :: _) _ _); refine pause ?_)
            unfold Paused
            refine wpList_append_lies w7c (by rfl) (.tmp 27) (.tmp 29) 26 (by rfl) (w.heap.size + 1) 36 ip _ 32 32 Tryd.underlying26 hip hpz hps hpb (by rfl) (by decide) (.slice Av nl cv) nl (cellsP acc) (by rfl) HO7c.out ⟨g7c, 0, none⟩ 1 1 (cellsB id) (by rfl) (by rw [cellsP1_len HID.out]) (fun j u hj => by rw [Addr.add_mid, Nat.zero_add, HX7c.out.cell j]; simpa using hj) (cellsB_one _) (by decide) (by have := HNB.out; unfold maxLen; omega) (by have := HNB.out; omega) HW7c.out.siz.2 w7c.heap.size rfl ?_
            intro g8c c8c w8c ho8 hg8 hl8 _
            have HN8c : Hid (LO w w8c (w.heap.size + 1) (.slice (some ⟨g8c, 0, none⟩) (nl + 1) c8c) (acc ++ [id])) := Lib.hid (HW7c.out.put HID.out (by rw [← HL.out]; exact ho8) hg8)
            have HI6c : Hid (Blk w8c g6 36 (u8s x)) := Lib.hid ((HI6b.out.below HB7c.out HI6b.out.lt).grown hg8 (fun e => (HFR.out _ e.symm HG6.out)))
            have HIc : Hid (Blk w8c w.heap.size 36 (u8s id)) := Lib.hid ((HIb.out.below HB7c.out HIb.out.lt).grown hg8 (fun e => (by have := own_in HO7c.out e.symm; omega)))
            clear ho8 hg8 hl8 hip hpz hps hpb
            simp only [Act.put]
            have HLc : Hid (nl + 1 = (acc ++ [id]).length) := Lib.hid (by rw [List.length_append, List.length_singleton, HL.out])
            go_wp2_with (with_reducible (show wpList _ _ _ (Oper.mk _ (Op.load 36 _) _ _ _ _ :: _) _ _); refine pause ?_)
            unfold Paused
            refine wpList_row_w (by rfl) 36 (.tmp 8) (by rfl) g6 (by rfl) 36 (u8s x) _ HI6c.out Tryd.underlying36 (by rfl) (by rw [u8s_size, HIX.out.1]; kernel_rfl) ?_
            obtain ⟨ip, hip, hpz, hps, hpb⟩ := info_parts rid_info
            go_wp2_with (with_reducible (show wpList _ _ _ (Oper.mk _ (Op.buildSlice _ _ _) _ _ _ _ :: _) _ _); refine pause ?_)
            unfold Paused
            refine wpList_buildSliceK (by rfl) 26 36 1 _ (by rfl) (cellsB x).toArray ip (.agg (cellsB (List.replicate 32 0)).toArray) Tryd.underlying26 hip hpz (by rw [hps]; decide) (by rw [hps]; decide) _ (by kernel_rfl) (by rw [hps]; exact fill_one 32 (Value.agg (cellsB (List.replicate 32 0)).toArray).cells _ (cellsP1_len HIX.out) (by rfl)) ?_
            have b7 : Below w8c.heap.size w8c (w8c.alloc (.cells (cellsB x).toArray 36)) := (Below.refl _ _).alloc (Nat.le_refl _) _
            have HX7a := Lib.hid (Blk.new w8c 36 (cellsB x).toArray)
            have HW7a := Lib.hid (HN8c.out.below b7)
            have HB7a := Lib.hid b7
            clear b7
            have HS7a := Lib.hid (Nat.le_refl w8c.heap.size)
            generalize w8c.alloc (.cells (cellsB x).toArray 36) = w7a at HX7a HW7a HB7a ⊢
            generalize hg7 : w8c.heap.size = g7a at HX7a ⊢
            clear hg7 HS7a
            have HO7a : Hid (w7a.ownsRow (w.heap.size + 1) 36 32 (.slice (some ⟨g8c, 0, none⟩) (nl + 1) c8c) (nl + 1) (cellsP (acc ++ [id]))) := Lib.hid (by have h1 := HW7a.out.own; rw [← HLc.out] at h1; exact h1)
            go_wp2_with (with_reducible (show wpList _ _ _ (Oper.mk _ (Op.call (Call.mk (Callee.builtin Builtin.append) _ _)) _ _ _ _ :: _) _ _); refine pause ?_)
            unfold Paused
            refine wpList_append_lies w7a (by rfl) (.tmp 31) (.tmp 33) 26 (by rfl) (w.heap.size + 1) 36 ip _ 32 32 Tryd.underlying26 hip hpz hps hpb (by rfl) (by decide) (.slice (some ⟨g8c, 0, none⟩) (nl + 1) c8c) (nl + 1) (cellsP (acc ++ [id])) (by rfl) HO7a.out ⟨g7a, 0, none⟩ 1 1 (cellsB x) (by rfl) (by rw [cellsP1_len HIX.out]) (fun j u hj => by rw [Addr.add_mid, Nat.zero_add, HX7a.out.cell j]; simpa using hj) (cellsB_one _) (by decide) (by have := HNB.out; unfold maxLen; omega) (by have := HNB.out; omega) HW7a.out.siz.2 w7a.heap.size rfl ?_
            intro g8a c8a w8a ho8 hg8 hl8 _
            have HN8a : Hid (LO w w8a (w.heap.size + 1) (.slice (some ⟨g8a, 0, none⟩) ((nl + 1) + 1) c8a) ((acc ++ [id]) ++ [x])) := Lib.hid (HW7a.out.put HIX.out (by rw [← HLc.out]; exact ho8) hg8)
            have HI9 : Hid (Blk w8a w.heap.size 36 (u8s id)) := Lib.hid ((HIc.out.below HB7a.out HIc.out.lt).grown hg8 (fun e => (by have := own_in HO7a.out e.symm; omega)))
            clear ho8 hg8 hl8 hip hpz hps hpb
            simp only [Act.put]
            have HN9 := HN8a
            go_wp2
            go_roundw
            case rel => exact ⟨k + 1, true, _, by have := HLT.out; omega, by go_num, rfl, HFO, HN9, HI9⟩
            case measure => have := HLT.out; simp [intOf]; omega
          | false =>
            have HFO : Hid ((l.take (k + 1)).foldl (Cl.pst id) (false, []) = (false, acc ++ [x])) := Lib.hid (by rw [HFO1.out, Cl.pst_ge _ _ _ hlx])
            clear hlx
            go_wp2_with (with_reducible (show wpList _ _ _ (Oper.mk _ (Op.load 36 _) _ _ _ _ :: _) _ _); refine pause ?_)
            unfold Paused
            refine wpList_row_w (by rfl) 36 (.tmp 8) (by rfl) g6 (by rfl) 36 (u8s x) _ HI6b.out Tryd.underlying36 (by rfl) (by rw [u8s_size, HIX.out.1]; kernel_rfl) ?_
            obtain ⟨ip, hip, hpz, hps, hpb⟩ := info_parts rid_info
            go_wp2_with (with_reducible (show wpList _ _ _ (Oper.mk _ (Op.buildSlice _ _ _) _ _ _ _ :: _) _ _); refine pause ?_)
            unfold Paused
            refine wpList_buildSliceK (by rfl) 26 36 1 _ (by rfl) (cellsB x).toArray ip (.agg (cellsB (List.replicate 32 0)).toArray) Tryd.underlying26 hip hpz (by rw [hps]; decide) (by rw [hps]; decide) _ (by kernel_rfl) (by rw [hps]; exact fill_one 32 (Value.agg (cellsB (List.replicate 32 0)).toArray).cells _ (cellsP1_len HIX.out) (by rfl)) ?_
            have b7 : Below w7.heap.size w7 (w7.alloc (.cells (cellsB x).toArray 36)) := (Below.refl _ _).alloc (Nat.le_refl _) _
            have HX7a := Lib.hid (Blk.new w7 36 (cellsB x).toArray)
            have HW7a := Lib.hid (HWb.out.below b7)
            have HB7a := Lib.hid b7
            clear b7
            have HS7a := Lib.hid (Nat.le_refl w7.heap.size)
            generalize w7.alloc (.cells (cellsB x).toArray 36) = w7a at HX7a HW7a HB7a ⊢
            generalize hg7 : w7.heap.size = g7a at HX7a ⊢
            clear hg7 HS7a
            have HO7a : Hid (w7a.ownsRow (w.heap.size + 1) 36 32 (.slice Av nl cv) nl (cellsP acc)) := Lib.hid (by have h1 := HW7a.out.own; rw [← HL.out] at h1; exact h1)
            go_wp2_with (with_reducible (show wpList _ _ _ (Oper.mk _ (Op.call (Call.mk (Callee.builtin Builtin.append) _ _)) _ _ _ _ :: _) _ _); refine pause ?_)
            unfold Paused
            refine wpList_append_lies w7a (by rfl) (.tmp 31) (.tmp 33) 26 (by rfl) (w.heap.size + 1) 36 ip _ 32 32 Tryd.underlying26 hip hpz hps hpb (by rfl) (by decide) (.slice Av nl cv) nl (cellsP acc) (by rfl) HO7a.out ⟨g7a, 0, none⟩ 1 1 (cellsB x) (by rfl) (by rw [cellsP1_len HIX.out]) (fun j u hj => by rw [Addr.add_mid, Nat.zero_add, HX7a.out.cell j]; simpa using hj) (cellsB_one _) (by decide) (by have := HNB.out; unfold maxLen; omega) (by have := HNB.out; omega) HW7a.out.siz.2 w7a.heap.size rfl ?_
            intro g8a c8a w8a ho8 hg8 hl8 _
            have HN8a : Hid (LO w w8a (w.heap.size + 1) (.slice (some ⟨g8a, 0, none⟩) (nl + 1) c8a) (acc ++ [x])) := Lib.hid (HW7a.out.put HIX.out (by rw [← HL.out]; exact ho8) hg8)
            have HI9 : Hid (Blk w8a w.heap.size 36 (u8s id)) := Lib.hid ((HIb.out.below HB7a.out HIb.out.lt).grown hg8 (fun e => (by have := own_in HO7a.out e.symm; omega)))
            clear ho8 hg8 hl8 hip hpz hps hpb
            simp only [Act.put]
            have HN9 := HN8a
            go_wp2
            go_roundw
            case rel => exact ⟨k + 1, false, _, by have := HLT.out; omega, by go_num, rfl, HFO, HN9, HI9⟩
            case measure => have := HLT.out; simp [intOf]; omega
      · obtain rfl : k = n := by omega
        have ik : ¬ ((k : Nat) : Int) < k := by omega
        have HFL : Hid (l.foldl (Cl.pst id) (false, []) = (db, acc)) := Lib.hid (by
          have h1 := HFK.out
          rwa [HNL.out, List.take_length] at h1)
        cases db with
        | true =>
          have HF : Hid (MadePost (Cl.put l id) w (.returned (.slice Av nl cv)) wr) := Lib.hid (by
            rw [HPU.out, HFL.out, if_pos rfl]
            exact ⟨_, rfl, HW.out.rd, HW.out.ids, HW.out.bel⟩)
          go_wp2
          go_ret
          exact HF.out
        | false =>
          go_wp2_with (with_reducible (show wpList _ _ _ (Oper.mk _ (Op.load 36 _) _ _ _ _ :: _) _ _); refine pause ?_)
          unfold Paused
          refine wpList_row_w (by rfl) 36 (.tmp 3) (by rfl) w.heap.size (by rfl) 36 (u8s id) _ HI.out Tryd.underlying36 (by rfl) (by rw [u8s_size, HID.out.1]; kernel_rfl) ?_
          obtain ⟨ip, hip, hpz, hps, hpb⟩ := info_parts rid_info
          go_wp2_with (with_reducible (show wpList _ _ _ (Oper.mk _ (Op.buildSlice _ _ _) _ _ _ _ :: _) _ _); refine pause ?_)
          unfold Paused
          refine wpList_buildSliceK (by rfl) 26 36 1 _ (by rfl) (cellsB id).toArray ip (.agg (cellsB (List.replicate 32 0)).toArray) Tryd.underlying26 hip hpz (by rw [hps]; decide) (by rw [hps]; decide) _ (by kernel_rfl) (by rw [hps]; exact fill_one 32 (Value.agg (cellsB (List.replicate 32 0)).toArray).cells _ (cellsP1_len HID.out) (by rfl)) ?_
          have b7 : Below wr.heap.size wr (wr.alloc (.cells (cellsB id).toArray 36)) := (Below.refl _ _).alloc (Nat.le_refl _) _
          have HX7a := Lib.hid (Blk.new wr 36 (cellsB id).toArray)
          have HW7a := Lib.hid (HW.out.below b7)
          have HB7a := Lib.hid b7
          clear b7
          have HS7a := Lib.hid (Nat.le_refl wr.heap.size)
          generalize wr.alloc (.cells (cellsB id).toArray 36) = w7a at HX7a HW7a HB7a ⊢
          generalize hg7 : wr.heap.size = g7a at HX7a ⊢
          clear hg7 HS7a
          have HO7a : Hid (w7a.ownsRow (w.heap.size + 1) 36 32 (.slice Av nl cv) nl (cellsP acc)) := Lib.hid (by have h1 := HW7a.out.own; rw [← HL.out] at h1; exact h1)
          go_wp2_with (with_reducible (show wpList _ _ _ (Oper.mk _ (Op.call (Call.mk (Callee.builtin Builtin.append) _ _)) _ _ _ _ :: _) _ _); refine pause ?_)
          unfold Paused
          refine wpList_append_lies w7a (by rfl) (.tmp 38) (.tmp 40) 26 (by rfl) (w.heap.size + 1) 36 ip _ 32 32 Tryd.underlying26 hip hpz hps hpb (by rfl) (by decide) (.slice Av nl cv) nl (cellsP acc) (by rfl) HO7a.out ⟨g7a, 0, none⟩ 1 1 (cellsB id) (by rfl) (by rw [cellsP1_len HID.out]) (fun j u hj => by rw [Addr.add_mid, Nat.zero_add, HX7a.out.cell j]; simpa using hj) (cellsB_one _) (by decide) (by have := HNB.out; unfold maxLen; omega) (by have := HNB.out; omega) HW7a.out.siz.2 w7a.heap.size rfl ?_
          intro g8a c8a w8a ho8 hg8 hl8 _
          have HN8a : Hid (LO w w8a (w.heap.size + 1) (.slice (some ⟨g8a, 0, none⟩) (nl + 1) c8a) (acc ++ [id])) := Lib.hid (HW7a.out.put HID.out (by rw [← HL.out]; exact ho8) hg8)
          clear ho8 hg8 hl8 hip hpz hps hpb
          simp only [Act.put]
          have HF : Hid (MadePost (Cl.put l id) w (.returned (.slice (some ⟨g8a, 0, none⟩) (nl + 1) c8a)) w8a) := Lib.hid (by
            rw [HPU.out, HFL.out, if_neg (by simp)]
            exact ⟨_, rfl, HN8a.out.rd, HN8a.out.ids, HN8a.out.bel⟩)
          go_wp2
          go_ret
          exact HF.out
end Go.Proofs.YtlodalppnglclaaDoor
/- The document's oid: 32 bytes at a place. -/
namespace Go.Proofs.YtlodalppnglclaaDoor
open Go Go.RowKit
theorem id_size : (Tryd.prog.info? 36).map (·.size) = some 32 := by kernel_rfl
theorem id_built : Tryd.prog.built 36 [] = some (u8s (List.replicate 32 0)) := by kernel_rfl
set_option maxRecDepth 100000 in
theorem roid_any (A : Option Addr) (c : Nat) (xs : List Nat) (w : World) (hv : Rd w (.slice A xs.length c) xs) (hl : 32 ≤ xs.length) :
    Calls Tryd.prog 50 #[.slice A xs.length c] w fun e w' => e = .returned (.agg (u8s (xs.take 32))) ∧ Below w.heap.size w w' := by
  obtain ⟨w1, hw1⟩ : ∃ w1, w1 = w.alloc (.cells (u8s (List.replicate 32 0)) 36) := ⟨_, rfl⟩
  obtain ⟨w2, hw2⟩ : ∃ w2, w2 = w1.alloc (.cells (u8s (List.replicate 32 0)) 36) := ⟨_, rfl⟩
  have s1 : w1.heap.size = w.heap.size + 1 := by rw [hw1]; simp
  have B1 : Below w.heap.size w w1 := hw1 ▸ (Below.refl _ _).alloc (Nat.le_refl _) _
  have B2 : Below w.heap.size w w2 := by rw [hw2]; exact B1.alloc (by omega) _
  have R0 : Blk w2 w.heap.size 36 (u8s (List.replicate 32 0)) := by rw [hw2, hw1]; exact (Blk.new w _ _).alloc _
  have R1 : Blk w2 (w.heap.size + 1) 36 (u8s (List.replicate 32 0)) := by
    have h := Blk.new w1 36 (u8s (List.replicate 32 0))
    rw [s1] at h
    rw [hw2]; exact h
  have HR0 := Lib.hid R0
  have HR1 := Lib.hid R1
  have HB2 := Lib.hid B2
  have hyl : (xs.take 32).length = 32 := by rw [List.length_take]; omega
  have hcl : 32 ≤ c := by obtain ⟨A', c', e, hc, _⟩ := hv; injection e with _ e2 e3; omega
  have q1 : ∀ w', (Instr.slice 40 (.slice A xs.length c) none (some (.int .i64 (32 : Int))) none).run Tryd.prog w' = .ok (.slice A 32 c) w' := fun w' => run_sliceHi Tryd.underlying40 (by kernel_rfl) A xs.length c 32 (by omega) rfl w'
  have HV := Lib.hid ((hv.cutHi hl).below (below_drewN B2 1) (Nat.le_refl _))
  obtain ⟨ys, hys⟩ : ∃ ys, ys = xs.take 32 := ⟨_, rfl⟩
  rw [← hys] at hyl HV ⊢
  have HYL := Lib.hid hyl
  have e1 := hw1.symm
  have e2 := hw2.symm
  clear hv hl B1 B2 R0 R1 hw1 hw2 hyl hys hcl
  go_enter Tryd.func50, Tryd.ntmps50
  go_wp2_with (with_reducible (show wpList _ _ _ (Oper.mk _ (Op.build _ _) _ _ _ _ :: _) _ _); refine pause ?_)
  unfold Paused
  change wpList _ _ _ _ _ (w.alloc (.cells (u8s (List.replicate 32 0)) 36))
  rw [e1]
  refine wpList_buildK (by rfl) 36 _ (by rfl) [] (by simp) (u8s (List.replicate 32 0)) id_built ?_
  go_wp2_with (with_reducible (show wpList _ _ _ (Oper.mk _ (Op.store 36 _ _) _ _ _ _ :: _) _ _); refine pause ?_)
  unfold Paused
  change wpList _ _ _ _ _ (w1.alloc (.cells (u8s (List.replicate 32 0)) 36))
  rw [e2]
  refine wpList_store_row rfl 36 (.tmp 3) (.tmp 4) rfl (w.heap.size + 1) (u8s (List.replicate 32 0)) (by first | rfl | (rw [← s1]; rfl)) rfl 36 (u8s (List.replicate 32 0)) HR1.out (by kernel_rfl) rfl (u8s_one _) ?_
  rw [setRow_self w2 (w.heap.size + 1) (u8s (List.replicate 32 0)) 36 (0, 0) HR1.out]
  simp only [Act.put]
  go_wp2
  refine wp_region_held (S := fun _ => True) (by kernel_rfl) ?_
  change wpAnyH _ _ _ _ _ _ _ _ w2.drew
  refine wpAnyH_take (i := 0) (v := ?_) rfl (by kernel_rfl) (by kernel_rfl) (by kernel_rfl) (fun _ _ _ h => h) (Or.inl ⟨by rfl, ?_⟩) trivial ?_
  rotate_left
  · intro w' _; go_simp; with_reducible rfl
  try simp only [Act.put, List.getElem_toArray, List.getElem_cons_zero, List.setIfInBounds_toArray, List.set_cons_zero, List.set_cons_succ]
  refine wpAnyH_take (i := 1) (v := ?_) rfl (by kernel_rfl) (by kernel_rfl) (by kernel_rfl) (fun _ _ _ h => h) (Or.inl ⟨by rfl, ?_⟩) trivial ?_
  rotate_left
  · intro w' _; go_simp; with_reducible rfl
  try simp only [Act.put, List.getElem_toArray, List.getElem_cons_zero, List.getElem_cons_succ, List.setIfInBounds_toArray, List.set_cons_zero, List.set_cons_succ]
  refine wpAnyH_take (i := 2) (v := .slice A 32 c) rfl (by kernel_rfl) (by kernel_rfl) (by kernel_rfl) (fun _ _ _ h => h) (Or.inl ⟨by rfl, ?_⟩) trivial ?_
  · intro w' _; go_simp
  try simp only [Act.put, List.getElem_toArray, List.getElem_cons_zero, List.getElem_cons_succ, List.setIfInBounds_toArray, List.set_cons_zero, List.set_cons_succ]
  obtain ⟨A', c', eA, hcc, hA⟩ := HV.out
  rw [HYL.out] at eA hA
  injection eA with e3 _ e4
  subst e3 e4
  obtain ⟨b, oo, rfl, _, hx⟩ := hA (by omega)
  refine all_one (i := 3) (by kernel_rfl) rfl (by rfl) (fun K hK => ?_)
  refine wp_copy32 (.tmp 5) (.tmp 7) rfl (w.heap.size + 1) 36 (List.replicate 32 0) HR1.out.drew (by decide) rfl ⟨b, oo, none⟩ c rfl ys HYL.out (fun j hj => by rw [Addr.add_mid]; exact hx j hj) ?_
  have HD : Hid (Blk (w2.drew.setRow (w.heap.size + 1) (u8s ys)) w.heap.size 36 (u8s (List.replicate 32 0)) ∧ Blk (w2.drew.setRow (w.heap.size + 1) (u8s ys)) (w.heap.size + 1) 36 (u8s ys) ∧ Below w.heap.size w (w2.drew.setRow (w.heap.size + 1) (u8s ys))) := Lib.hid ⟨HR0.out.drew.farRow (by omega) _, HR1.out.drew.row _, below_row (below_drewN HB2.out 1) (by omega) _⟩
  refine hK _ _ trivial ?_; clear hK K
  try simp only [Act.put, List.getElem_toArray, List.getElem_cons_zero, List.getElem_cons_succ, List.setIfInBounds_toArray, List.set_cons_zero, List.set_cons_succ]
  refine wpAnyH_done (by kernel_rfl) ?_ _
  generalize w2.drew.setRow (w.heap.size + 1) (u8s ys) = w3 at HD ⊢
  go_wp2_with (first | (refine wpList_load_row rfl 36 (.tmp 3) rfl (w.heap.size + 1) rfl 36 (u8s ys) (0,0) _ HD.out.2.1 Tryd.underlying36 rfl (by rw [u8s_size, HYL.out]; exact id_size) ?_) | (refine wpList_store_row rfl 36 (.tmp 2) (.tmp 9) rfl w.heap.size _ rfl rfl 36 _ HD.out.1 (by rw [u8s_size, HYL.out]; exact id_size) (by rw [u8s_size, u8s_size, HYL.out]; rfl) (u8s_one _) ?_))
  exact bodyPost_ret (v := .agg (u8s ys)) (results_cell_row rfl _ _ w.heap.size 36 _ (0, 0) _ rfl (HD.out.1.row _) Tryd.underlying36 rfl (by rw [u8s_size, HYL.out]; exact id_size)) rfl ⟨rfl, below_row HD.out.2.2 (Nat.le_refl _) _⟩
end Go.Proofs.YtlodalppnglclaaDoor
