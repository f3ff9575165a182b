/- The ids that an object names: the document's list. -/
import Derived.Test.YtlodalppnglclaaDoorMCl14
namespace Go.Proofs.YtlodalppnglclaaDoor
open Go Go.RowKit
/-- nothing appended -/
theorem rapp_nothing (w : World) (ty : TypeId) (A P : Option Addr) (n c pc : Nat) (h : n ≤ c) : (Builtin.append_ #[26, 26] ty #[.slice A n c, .slice P 0 pc]).run Tryd.prog w = .ok (.slice A n c) w := by
  obtain ⟨ip, hip, _, hps, _⟩ := info_parts rid_info
  cases A <;> cases P <;> simp [Builtin.append_, run_underlying Tryd.underlying26, sizeOf, typeInfo, hip, Builtin.lenOf, h, Builtin.firstCells, loadCells, loadCellsFrom, storeCells]
/-- The list of ids that came in, appended to the call's own. -/
theorem rapp_pars {w wr : World} {B : Nat} {v : Value} {ls ps : List (List Nat)} {A : Option Addr} {pc : Nat} (hL : LO w wr B v ls) (hP : RdK wr (.slice A ps.length pc) ps.length (cellsP ps)) (hi : ∀ p ∈ ps, Id32 p) (hn : ls.length ≤ 2000) (hm : ps.length ≤ 1000) (ty : TypeId) :
    ∃ v' w', (Builtin.append_ #[26, 26] ty #[v, .slice A ps.length pc]).run Tryd.prog wr = .ok v' w' ∧ LO w w' B v' (ls ++ ps) := by
  obtain ⟨ip, hip, hpz, hps, hpb⟩ := info_parts rid_info
  by_cases h0 : ps.length = 0
  · have hp : ps = [] := List.eq_nil_of_length_eq_zero h0
    subst hp
    obtain ⟨A2, c2, hv, hc⟩ : ∃ A2 c2, v = .slice A2 ls.length c2 ∧ ls.length ≤ c2 := by
      rcases hL.own.2 with ⟨h1, h2⟩ | ⟨g, cap, cur, h1, _, _, h2, _⟩
      · exact ⟨none, 0, by rw [h1, h2], by omega⟩
      · exact ⟨_, cap, h1, h2⟩
    subst hv
    exact ⟨_, _, rapp_nothing wr ty A2 A _ _ pc hc, by rw [List.append_nil]; exact hL⟩
  · obtain ⟨A', c', hv, hc, hA⟩ := hP
    injection hv with e1 _ _
    obtain ⟨b, o, rfl, hb, hx⟩ := hA (by omega)
    subst e1
    obtain ⟨v', w', hr, ho, hg, _⟩ := run_append_own (P := Tryd.prog) wr B 26 ty 36 ip (.agg (cellsB (List.replicate 32 0)).toArray) 32 32 Tryd.underlying26 hip hpz hps hpb (by rfl) (by decide) v ls.length (cellsP ls) hL.own ⟨b, o, none⟩ ps.length pc (cellsP ps) (cellsP_length ps hi) (fun j u hj => by rw [Addr.add_mid]; exact hx j u hj) (cellsP_one ps) (by unfold maxLen; omega) (by omega) hL.siz.2
    exact ⟨v', w', hr, ⟨by rw [List.length_append, cellsP_app]; exact ho, cl_grow hL.bel hg (fun y hy => by have := (own_in hL.own hy).1; have := hL.siz; omega), fun y hy => (List.mem_append.1 hy).elim (hL.ids y) (hi y), by have := hg.size; have := hL.siz; omega⟩⟩

set_option maxRecDepth 100000 in
set_option maxHeartbeats 8000000 in
theorem rlinks_any (o : Ob) (cs : Array Value) (T E P : Option Addr) (tc ec pc : Nat) (w : World) (hc : cs = (.int .i64 o.kind :: .slice T o.text.length tc :: .slice E o.ents.length ec :: (cellsB o.target ++ [.slice P o.pars.length pc])).toArray) (hE : RdK w (.slice E o.ents.length ec) o.ents.length (cellsE o.ents)) (hP : RdK w (.slice P o.pars.length pc) o.pars.length (cellsP o.pars)) (hf : o.Fit) (hz : o.ents.length ≤ 1000 ∧ o.pars.length ≤ 1000) :
    Calls Tryd.prog 22 #[.agg cs] w (MadePost o.links w) := by
  obtain ⟨w2, hw2⟩ : ∃ w2, w2 = w.alloc (.cells cs 54) := ⟨_, rfl⟩
  have HX : Hid (Blk w2 w.heap.size 54 cs) := Lib.hid (hw2 ▸ Blk.new w _ cs)
  have HB2 : Hid (Below w.heap.size w w2) := Lib.hid (hw2 ▸ (Below.refl _ _).alloc (Nat.le_refl _) _)
  have HS2 : Hid (w2.heap.size = w.heap.size + 1) := Lib.hid (by rw [hw2]; simp)
  have HEK := Lib.hid hE
  have HPK := Lib.hid hP
  have HFT := Lib.hid hf
  have HZ := Lib.hid hz
  have HTG := Lib.hid hf.target
  have K0 : Hid (cs[0]? = some (.int .i64 o.kind)) := Lib.hid (by rw [hc]; rfl)
  have K2 : Hid (cs[2]? = some (.slice E o.ents.length ec)) := Lib.hid (by rw [hc]; rfl)
  have K3 : Hid (cs[35]? = some (.slice P o.pars.length pc)) := Lib.hid (by
    rw [hc]
    rw [List.getElem?_toArray, show (35 : Nat) = 32 + 1 + 1 + 1 from rfl, List.getElem?_cons_succ, List.getElem?_cons_succ, List.getElem?_cons_succ, List.getElem?_append_right (by rw [cellsB_len, hf.target.1]; omega), cellsB_len, hf.target.1]
    rfl)
  have HMID : Hid (∀ j u, (cellsB o.target)[j]? = some u → cs[3 + j]? = some u) := Lib.hid (fun j u hu => by
    rw [hc]
    rw [List.getElem?_toArray, show 3 + j = j + 1 + 1 + 1 by omega, List.getElem?_cons_succ, List.getElem?_cons_succ, List.getElem?_cons_succ, List.getElem?_append_left (List.getElem?_eq_some_iff.1 hu).1, hu])
  have HW0 : Hid (LO w (w2.alloc (.cells #[] 36)) (w.heap.size + 1) (.slice (some ⟨w2.heap.size, 0, none⟩) 0 0) ((o.ents.take 0).map (·.id))) := Lib.hid (LO.new HB2.out (Nat.le_succ _) (by have := HS2.out; omega))
  have HG0 : Hid (Below w2.heap.size w2 (w2.alloc (.cells #[] 36))) := Lib.hid ((Below.refl _ _).alloc (Nat.le_refl _) _)
  have a2 : (w2.alloc (.cells #[] 36)).cell? ⟨w.heap.size, 2, none⟩ = some (.slice E o.ents.length ec) := ((HX.out.alloc _).cell 2).trans K2.out
  have e2 := hw2.symm
  clear hw2 hE hP hf hz hc
  go_enter Tryd.func22, Tryd.ntmps22
  go_wp2_with (with_reducible (show wpList _ _ _ (Oper.mk _ (Op.fieldAddr _ _ _) _ _ _ _ :: _) _ _); refine pause ?_)
  unfold Paused
  try change wpList _ _ _ _ _ ((w.alloc (.cells cs 54)).alloc (.cells #[] 36))
  try rw [e2]
  clear e2
  generalize w2.alloc (.cells #[] 36) = w3 at HW0 HG0 a2 ⊢
  generalize w2.heap.size = g2 at HW0 ⊢
  obtain ⟨ne, hne⟩ : ∃ q, q = o.ents.length := ⟨_, rfl⟩
  rw [← hne] at a2
  have HNE := Lib.hid hne
  have HN1 : Hid (ne ≤ 1000) := Lib.hid (by rw [hne]; exact HZ.out.1)
  clear hne
  go_wp2
  clear a2
  go_loopw [3, 10] (fun v i wr => ∃ k : Nat, k ≤ ne ∧ i = .int .i64 k ∧ Hid (LO w wr (w.heap.size + 1) v ((o.ents.take k).map (·.id)) ∧ Below w2.heap.size w2 wr)) (fun _ i _ => ne - (intOf i).toNat)
  case atStart => exact ⟨0, Nat.zero_le _, rfl, Lib.hid ⟨HW0.out, HG0.out⟩⟩
  case round =>
    obtain ⟨k, hk, rfl, HWG⟩ := hrel
    have HW := Lib.hid HWG.out.1
    have HG := Lib.hid HWG.out.2
    clear HWG
    obtain ⟨Av, cv, hvv⟩ := cl_own_slice HW.out.own
    subst hvv
    obtain ⟨nl, hnl⟩ : ∃ q, q = ((o.ents.take k).map (·.id)).length := ⟨_, rfl⟩
    rw [← hnl] at HW ⊢
    have HNB : Hid (nl ≤ 1000) := Lib.hid (by have := HN1.out; rw [hnl, List.length_map, List.length_take]; omega)
    have HL := Lib.hid hnl
    clear hnl
    by_cases hlt : k < ne
    · have hlt2 : k < o.ents.length := by rw [← HNE.out]; exact hlt
      obtain ⟨sb, so, rfl, _, hsr⟩ := (HEK.out.below HW.out.bel (Nat.le_refl _)).ent rfl HFT.out.ents hlt2
      have HSR := Lib.hid hsr
      have HID := Lib.hid (HFT.out.ents _ (List.getElem_mem hlt2))
      have HTK := Lib.hid (ids_take hlt2)
      clear hsr
      obtain ⟨en, hen⟩ : ∃ en, en = o.ents[k] := ⟨_, rfl⟩
      rw [← hen] at HSR HID HTK
      clear hen hlt2
      have i1 : ((k : Nat) : Int) < ne := by omega
      have i2 : (0 : Int) ≤ ((k : Nat) : Int) := by omega
      have i3 : ((k : Nat) : Int) < 1000 := by have := HN1.out; omega
      have HLT := Lib.hid hlt
      clear hlt hk
      go_wp2_with (with_reducible (show wpList _ _ _ (Oper.mk _ (Op.load 86 _) _ _ _ _ :: _) _ _); refine pause ?_)
      unfold Paused
      refine wpList_mid_w (by rfl) 86 (.tmp 12) (by rfl) sb (so + k * 33) (by rfl) _ _ HSR.out Tryd.underlying86 (by rfl) (by rw [cellsE1_len HID.out]; kernel_rfl) ?_
      go_wp2_with (with_reducible (show wpList _ _ _ (Oper.mk _ (Op.store 86 _ _) _ _ _ _ :: _) _ _); refine pause ?_)
      unfold Paused
      change wpList _ _ _ _ _ (wr.alloc (.cells (cellsE1 ⟨⟨#[]⟩, List.replicate 32 0⟩).toArray 86))
      refine wpList_store_row (by rfl) 86 (.tmp 5) (.tmp 13) (by rfl) wr.heap.size (cellsE1 en).toArray (by rfl) (by rfl) 86 (cellsE1 ⟨⟨#[]⟩, List.replicate 32 0⟩).toArray (Blk.new wr _ _) (by rw [List.size_toArray, cellsE1_len HID.out]; kernel_rfl) (by rw [List.size_toArray, List.size_toArray, cellsE1_len HID.out]; rfl) (arr_one (cellsE1_one en)) ?_
      have b6 : Below wr.heap.size wr ((wr.alloc (.cells (cellsE1 ⟨⟨#[]⟩, List.replicate 32 0⟩).toArray 86)).setRow wr.heap.size (cellsE1 en).toArray) := below_row ((Below.refl _ _).alloc (Nat.le_refl _) _) (Nat.le_refl _) _
      have HWa := Lib.hid (HW.out.below b6)
      have HGa := Lib.hid (below_next HG.out b6)
      have HXa := Lib.hid ((Blk.new wr 86 (cellsE1 ⟨⟨#[]⟩, List.replicate 32 0⟩).toArray).row (cellsE1 en).toArray)
      clear b6 HSR
      generalize (wr.alloc (.cells (cellsE1 ⟨⟨#[]⟩, List.replicate 32 0⟩).toArray 86)).setRow wr.heap.size (cellsE1 en).toArray = wa at HWa HGa HXa ⊢
      generalize wr.heap.size = gx at HXa ⊢
      simp only [Act.put]
      go_wp2_with (with_reducible (show wpList _ _ _ (Oper.mk _ (Op.load 36 _) _ _ _ _ :: _) _ _); refine pause ?_)
      unfold Paused
      refine wpList_mid_w (by rfl) 36 (.tmp 15) (by rfl) gx 1 (by rfl) _ _ (ent_idx en HXa.out) Tryd.underlying36 (by rfl) (by rw [cellsP1_len HID.out]; kernel_rfl) ?_
      obtain ⟨ip, hip, hpz, hps, hpb⟩ := info_parts rid_info
      go_wp2_with (with_reducible (show wpList _ _ _ (Oper.mk _ (Op.buildSlice _ _ _) _ _ _ _ :: _) _ _); refine pause ?_)
      unfold Paused
      refine wpList_buildSliceK (by rfl) 26 36 1 _ (by rfl) (cellsB en.id).toArray ip (.agg (cellsB (List.replicate 32 0)).toArray) Tryd.underlying26 hip hpz (by rw [hps]; decide) (by rw [hps]; decide) _ (by kernel_rfl) (by rw [hps]; exact fill_one 32 (Value.agg (cellsB (List.replicate 32 0)).toArray).cells _ (cellsP1_len HID.out) (by rfl)) ?_
      have b7 : Below wa.heap.size wa (wa.alloc (.cells (cellsB en.id).toArray 36)) := (Below.refl _ _).alloc (Nat.le_refl _) _
      have HX7 := Lib.hid (Blk.new wa 36 (cellsB en.id).toArray)
      have HW7 := Lib.hid (HWa.out.below b7)
      have HG7 := Lib.hid (below_next HGa.out b7)
      clear b7
      generalize wa.alloc (.cells (cellsB en.id).toArray 36) = w7 at HX7 HW7 HG7 ⊢
      generalize wa.heap.size = g7 at HX7 ⊢
      have HO7 : Hid (w7.ownsRow (w.heap.size + 1) 36 32 (.slice Av nl cv) nl (cellsP ((o.ents.take k).map (·.id)))) := Lib.hid (by have h1 := HW7.out.own; rw [← HL.out] at h1; exact h1)
      go_wp2_with (with_reducible (show wpList _ _ _ (Oper.mk _ (Op.call (Call.mk (Callee.builtin Builtin.append) _ _)) _ _ _ _ :: _) _ _); refine pause ?_)
      unfold Paused
      refine wpList_append_lies w7 (by rfl) (.tmp 14) (.tmp 17) 26 (by rfl) (w.heap.size + 1) 36 ip _ 32 32 Tryd.underlying26 hip hpz hps hpb (by rfl) (by decide) (.slice Av nl cv) nl (cellsP ((o.ents.take k).map (·.id))) (by rfl) HO7.out ⟨g7, 0, none⟩ 1 1 (cellsB en.id) (by rfl) (by rw [cellsP1_len HID.out]) (fun j u hj => by rw [Addr.add_mid, Nat.zero_add, HX7.out.cell j]; simpa using hj) (cellsB_one _) (by decide) (by have := HNB.out; unfold maxLen; omega) (by have := HNB.out; omega) HW7.out.siz.2 w7.heap.size rfl ?_
      intro g8 c8 w8 ho8 hg8 hl8 _
      have HN8 : Hid (LO w w8 (w.heap.size + 1) (.slice (some ⟨g8, 0, none⟩) (nl + 1) c8) ((o.ents.take (k + 1)).map (·.id)) ∧ Below w2.heap.size w2 w8) := Lib.hid ⟨by rw [HTK.out]; exact HW7.out.put HID.out (by rw [← HL.out]; exact ho8) hg8, cl_grow HG7.out hg8 (fun y hy => by have := (own_in HO7.out hy).1; have := HS2.out; omega)⟩
      clear ho8 hg8 hl8 hip hpz hps hpb
      simp only [Act.put]
      go_wp2
      go_roundw
      case rel => exact ⟨k + 1, by have := HLT.out; omega, by go_num, HN8⟩
      case measure => have := HLT.out; simp [intOf]; omega
    · obtain rfl : k = ne := by omega
      have ik : ¬ ((k : Nat) : Int) < k := by omega
      have HWz : Hid (LO w wr (w.heap.size + 1) (.slice Av nl cv) (o.ents.map (·.id))) := Lib.hid (by have h := HW.out; rwa [HNE.out, List.take_of_length_le (Nat.le_refl _)] at h)
      have HLz : Hid (nl = (o.ents.map (·.id)).length) := Lib.hid (by rw [HL.out, HNE.out, List.take_of_length_le (Nat.le_refl _)])
      have a0 : wr.cell? ⟨w.heap.size, 0, none⟩ = some (.int .i64 o.kind) := ((HX.out.below HG.out HX.out.lt).cell 0).trans K0.out
      clear hk hlt HW HL
      by_cases h3 : o.kind = 3
      · have HAI : Hid (aimsB o.kind = true) := Lib.hid (by unfold aimsB; rw [h3]; rfl)
        rw [h3] at a0
        clear h3
        have HTGT : Hid (wr.rangeAt w.heap.size 3 (cellsB o.target)) := Lib.hid (fun j u hu => by rw [(HX.out.below HG.out HX.out.lt).cell]; exact HMID.out j u hu)
        go_wp2_with (with_reducible (show wpList _ _ _ (Oper.mk _ (Op.load 36 _) _ _ _ none :: _) _ _); refine pause ?_)
        unfold Paused
        refine wpList_mid_w (by rfl) 36 (.tmp 29) (by rfl) w.heap.size 3 (by rfl) (cellsB o.target) _ HTGT.out Tryd.underlying36 (by rfl) (by rw [cellsP1_len HTG.out]; kernel_rfl) ?_
        obtain ⟨ip, hip, hpz, hps, hpb⟩ := info_parts rid_info
        go_wp2_with (with_reducible (show wpList _ _ _ (Oper.mk _ (Op.buildSlice _ _ _) _ _ _ _ :: _) _ _); refine pause ?_)
        unfold Paused
        refine wpList_buildSliceK (by rfl) 26 36 1 _ (by rfl) (cellsB o.target).toArray ip (.agg (cellsB (List.replicate 32 0)).toArray) Tryd.underlying26 hip hpz (by rw [hps]; decide) (by rw [hps]; decide) _ (by kernel_rfl) (by rw [hps]; exact fill_one 32 (Value.agg (cellsB (List.replicate 32 0)).toArray).cells _ (cellsP1_len HTG.out) (by rfl)) ?_
        have b7 : Below wr.heap.size wr (wr.alloc (.cells (cellsB o.target).toArray 36)) := (Below.refl _ _).alloc (Nat.le_refl _) _
        have HX7 := Lib.hid (Blk.new wr 36 (cellsB o.target).toArray)
        have HW7 := Lib.hid (HWz.out.below b7)
        have HG7 := Lib.hid (below_next HG.out b7)
        clear b7
        generalize wr.alloc (.cells (cellsB o.target).toArray 36) = w7 at HX7 HW7 HG7 ⊢
        generalize wr.heap.size = g7 at HX7 ⊢
        have HO7 : Hid (w7.ownsRow (w.heap.size + 1) 36 32 (.slice Av nl cv) nl (cellsP (o.ents.map (·.id)))) := Lib.hid (by have h1 := HW7.out.own; rw [← HLz.out] at h1; exact h1)
        go_wp2_with (with_reducible (show wpList _ _ _ (Oper.mk _ (Op.call (Call.mk (Callee.builtin Builtin.append) _ _)) _ _ _ _ :: _) _ _); refine pause ?_)
        unfold Paused
        refine wpList_append_lies w7 (by rfl) (.tmp 28) (.tmp 31) 26 (by rfl) (w.heap.size + 1) 36 ip _ 32 32 Tryd.underlying26 hip hpz hps hpb (by rfl) (by decide) (.slice Av nl cv) nl (cellsP (o.ents.map (·.id))) (by rfl) HO7.out ⟨g7, 0, none⟩ 1 1 (cellsB o.target) (by rfl) (by rw [cellsP1_len HTG.out]) (fun j u hj => by rw [Addr.add_mid, Nat.zero_add, HX7.out.cell j]; simpa using hj) (cellsB_one _) (by decide) (by have := HNB.out; unfold maxLen; omega) (by have := HNB.out; omega) HW7.out.siz.2 w7.heap.size rfl ?_
        intro g8 c8 w8 ho8 hg8 hl8 _
        have HN8 : Hid (LO w w8 (w.heap.size + 1) (.slice (some ⟨g8, 0, none⟩) (nl + 1) c8) (o.ents.map (·.id) ++ [o.target])) := Lib.hid (HW7.out.put HTG.out (by rw [← HLz.out]; exact ho8) hg8)
        have HGw8 : Hid (Below w2.heap.size w2 w8) := Lib.hid (cl_grow HG7.out hg8 (fun y hy => by have := (own_in HO7.out hy).1; have := HS2.out; omega))
        clear ho8 hg8 hl8 hip hpz hps hpb
        simp only [Act.put]
        have HFL : Hid (o.links = (o.ents.map (·.id) ++ [o.target]) ++ o.pars) := Lib.hid (by unfold Ob.links; rw [if_pos HAI.out])
        have HP9 : Hid (RdK w8 (.slice P o.pars.length pc) o.pars.length (cellsP o.pars)) := Lib.hid (HPK.out.below HN8.out.bel (Nat.le_refl _))
        obtain ⟨v9, w9, hr9, hl9⟩ := rapp_pars HN8.out HP9.out HFT.out.pars (by have h1 := HZ.out; simp only [List.length_append, List.length_map, List.length_cons, List.length_nil]; omega) HZ.out.2 26
        have HR9 := Lib.hid hr9
        have HF9 : Hid (MadePost o.links w (.returned v9) w9) := Lib.hid ⟨v9, rfl, by rw [HFL.out]; exact hl9.rd, by rw [HFL.out]; exact hl9.ids, hl9.bel⟩
        have a5 : w8.cell? ⟨w.heap.size, 35, none⟩ = some (.slice P o.pars.length pc) := ((HX.out.below HGw8.out HX.out.lt).cell 35).trans K3.out
        clear hr9 hl9
        go_wp2_with (at_builtin; go_loud (refine Lib.wpList_append_run_sl _ rfl (.tmp 33) (.tmp 35) _ rfl _ _ rfl rfl HR9.out ?_))
        go_ret
        exact HF9.out
      · by_cases h4 : o.kind = 4
        · have HAI : Hid (aimsB o.kind = true) := Lib.hid (by unfold aimsB; rw [h4]; rfl)
          rw [h4] at a0
          clear h3 h4
          have HTGT : Hid (wr.rangeAt w.heap.size 3 (cellsB o.target)) := Lib.hid (fun j u hu => by rw [(HX.out.below HG.out HX.out.lt).cell]; exact HMID.out j u hu)
          go_wp2_with (with_reducible (show wpList _ _ _ (Oper.mk _ (Op.load 36 _) _ _ _ none :: _) _ _); refine pause ?_)
          unfold Paused
          refine wpList_mid_w (by rfl) 36 (.tmp 29) (by rfl) w.heap.size 3 (by rfl) (cellsB o.target) _ HTGT.out Tryd.underlying36 (by rfl) (by rw [cellsP1_len HTG.out]; kernel_rfl) ?_
          obtain ⟨ip, hip, hpz, hps, hpb⟩ := info_parts rid_info
          go_wp2_with (with_reducible (show wpList _ _ _ (Oper.mk _ (Op.buildSlice _ _ _) _ _ _ _ :: _) _ _); refine pause ?_)
          unfold Paused
          refine wpList_buildSliceK (by rfl) 26 36 1 _ (by rfl) (cellsB o.target).toArray ip (.agg (cellsB (List.replicate 32 0)).toArray) Tryd.underlying26 hip hpz (by rw [hps]; decide) (by rw [hps]; decide) _ (by kernel_rfl) (by rw [hps]; exact fill_one 32 (Value.agg (cellsB (List.replicate 32 0)).toArray).cells _ (cellsP1_len HTG.out) (by rfl)) ?_
          have b7 : Below wr.heap.size wr (wr.alloc (.cells (cellsB o.target).toArray 36)) := (Below.refl _ _).alloc (Nat.le_refl _) _
          have HX7 := Lib.hid (Blk.new wr 36 (cellsB o.target).toArray)
          have HW7 := Lib.hid (HWz.out.below b7)
          have HG7 := Lib.hid (below_next HG.out b7)
          clear b7
          generalize wr.alloc (.cells (cellsB o.target).toArray 36) = w7 at HX7 HW7 HG7 ⊢
          generalize wr.heap.size = g7 at HX7 ⊢
          have HO7 : Hid (w7.ownsRow (w.heap.size + 1) 36 32 (.slice Av nl cv) nl (cellsP (o.ents.map (·.id)))) := Lib.hid (by have h1 := HW7.out.own; rw [← HLz.out] at h1; exact h1)
          go_wp2_with (with_reducible (show wpList _ _ _ (Oper.mk _ (Op.call (Call.mk (Callee.builtin Builtin.append) _ _)) _ _ _ _ :: _) _ _); refine pause ?_)
          unfold Paused
          refine wpList_append_lies w7 (by rfl) (.tmp 28) (.tmp 31) 26 (by rfl) (w.heap.size + 1) 36 ip _ 32 32 Tryd.underlying26 hip hpz hps hpb (by rfl) (by decide) (.slice Av nl cv) nl (cellsP (o.ents.map (·.id))) (by rfl) HO7.out ⟨g7, 0, none⟩ 1 1 (cellsB o.target) (by rfl) (by rw [cellsP1_len HTG.out]) (fun j u hj => by rw [Addr.add_mid, Nat.zero_add, HX7.out.cell j]; simpa using hj) (cellsB_one _) (by decide) (by have := HNB.out; unfold maxLen; omega) (by have := HNB.out; omega) HW7.out.siz.2 w7.heap.size rfl ?_
          intro g8 c8 w8 ho8 hg8 hl8 _
          have HN8 : Hid (LO w w8 (w.heap.size + 1) (.slice (some ⟨g8, 0, none⟩) (nl + 1) c8) (o.ents.map (·.id) ++ [o.target])) := Lib.hid (HW7.out.put HTG.out (by rw [← HLz.out]; exact ho8) hg8)
          have HGw8 : Hid (Below w2.heap.size w2 w8) := Lib.hid (cl_grow HG7.out hg8 (fun y hy => by have := (own_in HO7.out hy).1; have := HS2.out; omega))
          clear ho8 hg8 hl8 hip hpz hps hpb
          simp only [Act.put]
          have HFL : Hid (o.links = (o.ents.map (·.id) ++ [o.target]) ++ o.pars) := Lib.hid (by unfold Ob.links; rw [if_pos HAI.out])
          have HP9 : Hid (RdK w8 (.slice P o.pars.length pc) o.pars.length (cellsP o.pars)) := Lib.hid (HPK.out.below HN8.out.bel (Nat.le_refl _))
          obtain ⟨v9, w9, hr9, hl9⟩ := rapp_pars HN8.out HP9.out HFT.out.pars (by have h1 := HZ.out; simp only [List.length_append, List.length_map, List.length_cons, List.length_nil]; omega) HZ.out.2 26
          have HR9 := Lib.hid hr9
          have HF9 : Hid (MadePost o.links w (.returned v9) w9) := Lib.hid ⟨v9, rfl, by rw [HFL.out]; exact hl9.rd, by rw [HFL.out]; exact hl9.ids, hl9.bel⟩
          have a5 : w8.cell? ⟨w.heap.size, 35, none⟩ = some (.slice P o.pars.length pc) := ((HX.out.below HGw8.out HX.out.lt).cell 35).trans K3.out
          clear hr9 hl9
          go_wp2_with (at_builtin; go_loud (refine Lib.wpList_append_run_sl _ rfl (.tmp 33) (.tmp 35) _ rfl _ _ rfl rfl HR9.out ?_))
          go_ret
          exact HF9.out
        · have HFL : Hid (o.links = o.ents.map (·.id) ++ o.pars) := Lib.hid (by
            unfold Ob.links
            rw [if_neg (by unfold aimsB; simp [h3, h4]), List.append_nil])
          have q3 : (o.kind == 3) = false := by simp [h3]
          have q4 : (o.kind == 4) = false := by simp [h4]
          generalize o.kind = kd at a0 q3 q4
          clear h3 h4
          have HGwr := HG
          have HP9 : Hid (RdK wr (.slice P o.pars.length pc) o.pars.length (cellsP o.pars)) := Lib.hid (HPK.out.below HWz.out.bel (Nat.le_refl _))
          obtain ⟨v9, w9, hr9, hl9⟩ := rapp_pars HWz.out HP9.out HFT.out.pars (by have h1 := HZ.out; simp only [List.length_map]; omega) HZ.out.2 26
          have HR9 := Lib.hid hr9
          have HF9 : Hid (MadePost o.links w (.returned v9) w9) := Lib.hid ⟨v9, rfl, by rw [HFL.out]; exact hl9.rd, by rw [HFL.out]; exact hl9.ids, hl9.bel⟩
          have a5 : wr.cell? ⟨w.heap.size, 35, none⟩ = some (.slice P o.pars.length pc) := ((HX.out.below HGwr.out HX.out.lt).cell 35).trans K3.out
          clear hr9 hl9
          go_wp2_with (at_builtin; go_loud (refine Lib.wpList_append_run_sl _ rfl (.tmp 33) (.tmp 35) _ rfl _ _ rfl rfl HR9.out ?_))
          go_ret
          exact HF9.out
end Go.Proofs.YtlodalppnglclaaDoor
/- An id put into a rising row: what comes of it. What is closed under links is what is reached. -/
namespace Go.Proofs.YtlodalppnglclaaDoor
open Go Go.RowKit
namespace Cl
/-- what holds of a row's front that was walked through -/
def PI (id : List Nat) (p : List (List Nat)) (d : Bool) (acc : List (List Nat)) : Prop :=
  (d = false → acc = p ∧ ∀ x ∈ p, Sha.cmpN x id < 0) ∧ (d = true → acc.Pairwise (fun a b => Sha.cmpN a b < 0) ∧ (∀ y, y ∈ acc ↔ (y ∈ p ∨ y = id)) ∧ ∃ z ∈ p, Sha.cmpN id z < 0)
theorem pst_inv (id : List Nat) : ∀ (q p acc : List (List Nat)) (d : Bool), (p ++ q).Pairwise (fun a b => Sha.cmpN a b < 0) → id ∉ p ++ q → PI id p d acc → PI id (p ++ q) (q.foldl (pst id) (d, acc)).1 (q.foldl (pst id) (d, acc)).2
  | [], p, acc, d, _, _, h => by rw [List.append_nil]; exact h
  | x :: q, p, acc, d, hp, hn, h => by
    have hpx : ∀ z ∈ p, Sha.cmpN z x < 0 := fun z hz => (List.pairwise_append.1 hp).2.2 z hz x (List.mem_cons_self ..)
    have hpp : p.Pairwise (fun a b => Sha.cmpN a b < 0) := (List.pairwise_append.1 hp).1
    have e : p ++ x :: q = (p ++ [x]) ++ q := by simp
    have hne : x ≠ id := fun e1 => hn (by rw [← e1]; simp)
    rw [List.foldl_cons]
    rw [e] at hp hn ⊢
    cases d with
    | true =>
      obtain ⟨h1, h2, z, hz, hlt⟩ := h.2 rfl
      rw [pst_true]
      refine pst_inv id q (p ++ [x]) (acc ++ [x]) true hp hn ⟨fun h0 => (by cases h0), fun _ => ⟨List.pairwise_append.2 ⟨h1, List.pairwise_singleton _ _, fun a ha b hb => ?_⟩, fun y => ?_, z, List.mem_append_left _ hz, hlt⟩⟩
      · rw [List.mem_singleton.1 hb]
        rcases (h2 a).1 ha with h3 | h3
        · exact hpx a h3
        · rw [h3]; exact Sha.cmpN_trans _ _ _ hlt (hpx z hz)
      · rw [List.mem_append, List.mem_append, h2 y, List.mem_singleton]
        constructor
        · rintro ((h3 | h3) | h3)
          · exact Or.inl (Or.inl h3)
          · exact Or.inr h3
          · exact Or.inl (Or.inr h3)
        · rintro ((h3 | h3) | h3)
          · exact Or.inl (Or.inl h3)
          · exact Or.inr h3
          · exact Or.inl (Or.inr h3)
    | false =>
      obtain ⟨rfl, h2⟩ := h.1 rfl
      cases hlt : Sha.lexLt id x with
      | true =>
        have hlt' : Sha.cmpN id x < 0 := by unfold Sha.lexLt at hlt; simpa using hlt
        rw [pst_lt _ _ _ hlt]
        refine pst_inv id q (acc ++ [x]) (acc ++ [id] ++ [x]) true hp hn ⟨fun h0 => (by cases h0), fun _ => ⟨?_, fun y => ?_, x, by simp, hlt'⟩⟩
        · rw [List.append_assoc]
          refine List.pairwise_append.2 ⟨hpp, ?_, fun a ha b hb => ?_⟩
          · simp [hlt']
          · rw [List.singleton_append, List.mem_cons, List.mem_singleton] at hb
            rcases hb with hb | hb
            · rw [hb]; exact h2 a ha
            · rw [hb]; exact hpx a ha
        · simp only [List.mem_append, List.mem_singleton]
          constructor
          · rintro ((h3 | h3) | h3)
            · exact Or.inl (Or.inl h3)
            · exact Or.inr h3
            · exact Or.inl (Or.inr h3)
          · rintro ((h3 | h3) | h3)
            · exact Or.inl (Or.inl h3)
            · exact Or.inr h3
            · exact Or.inl (Or.inr h3)
      | false =>
        have hlt' : ¬ Sha.cmpN id x < 0 := by unfold Sha.lexLt at hlt; simpa using hlt
        rw [pst_ge _ _ _ hlt]
        refine pst_inv id q (acc ++ [x]) (acc ++ [x]) false hp hn ⟨fun _ => ⟨rfl, fun z hz => ?_⟩, fun h0 => (by cases h0)⟩
        rcases List.mem_append.1 hz with hz | hz
        · exact h2 z hz
        · rw [List.mem_singleton.1 hz]; exact Sha.lt_of_le_ne hlt' hne
theorem put_spec (l : List (List Nat)) (id : List Nat) (h : Sha.Rising l) : Sha.Rising (put l id) ∧ ∀ y, y ∈ put l id ↔ (y ∈ l ∨ y = id) := by
  unfold put
  by_cases hm : id ∈ l
  · rw [if_pos hm]
    exact ⟨h, fun y => ⟨Or.inl, fun h1 => h1.elim (fun h2 => h2) (fun e => e ▸ hm)⟩⟩
  · rw [if_neg hm]
    have hi := pst_inv id l [] [] false (by rw [List.nil_append]; exact rising_pw.1 h) (by rw [List.nil_append]; exact hm) ⟨fun _ => ⟨rfl, fun x hx => (by cases hx)⟩, fun h0 => (by cases h0)⟩
    rw [List.nil_append] at hi
    generalize l.foldl (pst id) (false, []) = s at hi ⊢
    obtain ⟨d, acc⟩ := s
    cases d with
    | true =>
      obtain ⟨h1, h2, _⟩ := hi.2 rfl
      rw [if_pos rfl]
      exact ⟨rising_pw.2 h1, h2⟩
    | false =>
      obtain ⟨h1, h2⟩ := hi.1 rfl
      have h1' : acc = l := h1
      subst h1'
      rw [if_neg (by simp)]
      refine ⟨rising_pw.2 (List.pairwise_append.2 ⟨rising_pw.1 h, List.pairwise_singleton _ _, fun a ha b hb => ?_⟩), fun y => ?_⟩
      · rw [List.mem_singleton.1 hb]; exact h2 a ha
      · rw [List.mem_append, List.mem_singleton]
/-- a row while the document walks -/
structure AI (objs roots : List (List Nat)) (A : List (List Nat)) : Prop where
  rise : Sha.Rising A
  ids : ∀ x ∈ A, Id32 x
  rch : ∀ x ∈ A, Rch objs roots x
theorem AI.put {objs roots A : List (List Nat)} {x : List Nat} (h : AI objs roots A) (hx : Id32 x) (hr : Rch objs roots x) : AI objs roots (Cl.put A x) := by
  have hs := put_spec A x h.rise
  refine ⟨hs.1, fun y hy => ?_, fun y hy => ?_⟩
  · rcases (hs.2 y).1 hy with h1 | h1
    · exact h.ids y h1
    · rw [h1]; exact hx
  · rcases (hs.2 y).1 hy with h1 | h1
    · exact h.rch y h1
    · rw [h1]; exact hr
theorem AI.few {objs roots A : List (List Nat)} (h : AI objs roots A) : A.length ≤ (pool objs roots).length :=
  nodup_le (rising_nodup h.rise) (fun x hx => rch_pool (h.rch x hx))
theorem put_more {A : List (List Nat)} {x : List Nat} (hA : Sha.Rising A) (hx : x ∉ A) : A.length + 1 ≤ (put A x).length := by
  have hs := put_spec A x hA
  have h1 : (x :: A).Nodup := List.nodup_cons.2 ⟨hx, rising_nodup hA⟩
  have h2 := nodup_le (M := put A x) h1 (fun y hy => by
    rw [hs.2 y]
    rcases List.mem_cons.1 hy with h3 | h3
    · exact Or.inr h3
    · exact Or.inl h3)
  simpa using h2
/-- what is closed under links is all that is reached -/
theorem AI.done {objs roots A : List (List Nat)} (h : AI objs roots A) (hr : ∀ x ∈ roots, x ∈ A) (hl : ∀ x ∈ A, ∀ y ∈ lks objs x, y ∈ A) (x : List Nat) : x ∈ A ↔ Rch objs roots x := by
  refine ⟨h.rch x, fun hx => ?_⟩
  induction hx with
  | root hx => exact hr _ hx
  | link _ hk ih => exact hl _ ih _ hk
end Cl
end Go.Proofs.YtlodalppnglclaaDoor
