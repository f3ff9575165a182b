/- Links in general: the answer is a row of its own. -/
import Derived.Test.YtlodalppnglclaaDoorMOb18s
namespace Go.Proofs.YtlodalppnglclaaDoor
open Go Go.RowKit
theorem own_lowL {w : World} {m m' z n : Nat} {e : TypeId} {v : Value} {us : List Value} (h : w.ownsRow m e z v n us) (hm : m' ≤ m) : w.ownsRow m' e z v n us := by
  refine ⟨h.1, ?_⟩
  rcases h.2 with hn | ⟨g, cap, cur, rfl, hb, rest⟩
  · exact .inl hn
  · exact .inr ⟨g, cap, cur, rfl, by omega, rest⟩
set_option maxRecDepth 100000 in
set_option maxHeartbeats 4000000 in
theorem links_own (o : Ob) (cs : Array Value) (T E P : Option Addr) (tc ec pc : Nat) (w : World) (h : ObC w o cs T tc E ec P pc) (hf : o.Fit) (hz : o.ents.length ≤ 1000 ∧ o.pars.length ≤ 1000) :
    Calls Tryd.prog 55 #[.agg cs] w fun e w' => ∃ v, e = .returned v ∧ w'.ownsRow w.heap.size 37 32 v o.links.length (cellsP o.links) ∧ Below w.heap.size w w' := by
  obtain ⟨w2, hw2⟩ : ∃ w2, w2 = w.alloc (.cells cs 50) := ⟨_, rfl⟩
  have X1 : Box w w2 w.heap.size 50 cs := hw2 ▸ Box.new w _ cs
  have HC := Lib.hid (h.below X1.bel (Nat.le_refl _))
  have HF := Lib.hid hf
  have HZ := Lib.hid hz
  have HX := Lib.hid X1
  have K0 := Lib.hid h.c0
  have K2 := Lib.hid h.c2
  have K3 := Lib.hid (h.c35 hf)
  have HTG := Lib.hid hf.target
  obtain ⟨ip, hip, hpz, hps, hpb⟩ := info_parts ioid_info
  have HIP := Lib.hid (And.intro hip (And.intro hpz (And.intro hps hpb)))
  have a2 : w2.cell? ⟨w.heap.size, 2, none⟩ = some (.slice E o.ents.length ec) := (X1.at_.cell 2).trans K2.out
  have HL0 : Hid (LkW w2 w2 nilV ((o.ents.take 0).map (·.id))) := Lib.hid ⟨World.ownsRow_nil _ _ _ _, Below.refl _ _⟩
  have HLE := Lib.hid (show o.ents.length ≤ 1000 ∧ o.pars.length ≤ 1000 from hz)
  have e2 := hw2.symm
  clear h hf hz X1 hw2 hip hpz hps hpb
  go_enter Tryd.func55, Tryd.ntmps55
  go_wp2
  clear a2
  go_loopw [3, 9] (fun v i wr => ∃ k : Nat, k ≤ o.ents.length ∧ i = .int .i64 k ∧ Hid (LkW w2 wr v ((o.ents.take k).map (·.id)))) (fun _ i _ => o.ents.length - (intOf i).toNat)
  case atStart => exact ⟨0, Nat.zero_le _, rfl, HL0⟩
  case round =>
    obtain ⟨k, hk, rfl, HL⟩ := hrel
    by_cases hlt : k < o.ents.length
    · obtain ⟨sb, so, rfl, _, hsr⟩ := (HC.out.ents.below HL.out.bel (Nat.le_refl _)).ent rfl HF.out.ents hlt
      have HSR := Lib.hid hsr
      have HID := Lib.hid (HF.out.ents _ (List.getElem_mem hlt))
      have HTK := Lib.hid (ids_take hlt)
      have HKL : Hid (((o.ents.take k).map (·.id)).length = k) := Lib.hid (by rw [List.length_map, List.length_take]; omega)
      clear hsr
      obtain ⟨en, hen⟩ : ∃ en, en = o.ents[k] := ⟨_, rfl⟩
      rw [← hen] at HSR HID HTK
      clear hen
      have i1 : ((k : Nat) : Int) < o.ents.length := by omega
      have i2 : (0 : Int) ≤ ((k : Nat) : Int) := by omega
      have i3 : ((k : Nat) : Int) < 1000 := by have := HLE.out; omega
      go_wp2_with (with_reducible (show wpList _ _ _ (Oper.mk _ (Op.load 78 _) _ _ _ _ :: _) _ _); refine pause ?_)
      unfold Paused
      refine wpList_mid_w (by rfl) 78 (.tmp 11) (by rfl) sb (so + k * 33) (by rfl) _ _ HSR.out Tryd.underlying78 (by rfl) (by rw [cellsE1_len HID.out]; kernel_rfl) ?_
      go_wp2_with (with_reducible (show wpList _ _ _ (Oper.mk _ (Op.store 78 _ _) _ _ _ _ :: _) _ _); refine pause ?_)
      unfold Paused
      change wpList _ _ _ _ _ (wr.alloc (.cells (cellsE1 ⟨⟨#[]⟩, List.replicate 32 0⟩).toArray 78))
      refine wpList_store_row (by rfl) 78 (.tmp 5) (.tmp 12) (by rfl) wr.heap.size (cellsE1 en).toArray (by rfl) (by rfl) 78 (cellsE1 ⟨⟨#[]⟩, List.replicate 32 0⟩).toArray (Blk.new wr _ _) (by rw [List.size_toArray, cellsE1_len HID.out]; kernel_rfl) (by rw [List.size_toArray, List.size_toArray, cellsE1_len HID.out]; rfl) (arr_one (cellsE1_one en)) ?_
      have HLa : Hid (LkW w2 ((wr.alloc (.cells (cellsE1 ⟨⟨#[]⟩, List.replicate 32 0⟩).toArray 78)).setRow wr.heap.size (cellsE1 en).toArray) u3 ((o.ents.take k).map (·.id))) := Lib.hid ⟨own_farRow (g := wr.heap.size) (HL.out.own.alloc _) (fun k hk => by have := (HL.out.own.lt k hk).2; omega) _, below_next HL.out.bel (below_row ((Below.refl _ _).alloc (Nat.le_refl _) _) (Nat.le_refl _) _)⟩
      have HXa := Lib.hid ((Blk.new wr 78 (cellsE1 ⟨⟨#[]⟩, List.replicate 32 0⟩).toArray).row (cellsE1 en).toArray)
      generalize World.setRow _ wr.heap.size (cellsE1 en).toArray = wa at HLa HXa ⊢
      generalize wr.heap.size = gx at HXa ⊢
      simp only [Act.put]
      go_wp2_with (with_reducible (show wpList _ _ _ (Oper.mk _ (Op.load 37 _) _ _ _ _ :: _) _ _); refine pause ?_)
      unfold Paused
      refine wpList_mid_w (by rfl) 37 (.tmp 14) (by rfl) gx 1 (by rfl) _ _ (ent_idx en HXa.out) Tryd.underlying37 (by rfl) (by rw [cellsP1_len HID.out]; kernel_rfl) ?_
      go_wp2_with (with_reducible (show wpList _ _ _ (Oper.mk _ (Op.buildSlice _ _ _) _ _ _ _ :: _) _ _); refine pause ?_)
      unfold Paused
      refine wpList_buildSliceK (by rfl) 23 37 1 _ (by rfl) (cellsB (en.id)).toArray ip (.agg (cellsB (List.replicate 32 0)).toArray) Tryd.underlying23 HIP.out.1 HIP.out.2.1 (by rw [HIP.out.2.2.1]; decide) (by rw [HIP.out.2.2.1]; decide) _ (by kernel_rfl) (by rw [HIP.out.2.2.1]; exact fill_one 32 (Value.agg (cellsB (List.replicate 32 0)).toArray).cells _ (cellsP1_len HID.out) (by rfl)) ?_
      have HOx7 := Lib.hid (HLa.out.own.alloc (.cells (cellsB (en.id)).toArray 37))
      have HXx7 := Lib.hid (Blk.new wa 37 (cellsB (en.id)).toArray)
      have HBx7 := Lib.hid (below_next HLa.out.bel (show Below wa.heap.size wa (wa.alloc (.cells (cellsB (en.id)).toArray 37)) from (Below.refl _ _).alloc (Nat.le_refl _) _))
      generalize wa.alloc (.cells (cellsB (en.id)).toArray 37) = wb at HOx7 HXx7 HBx7 ⊢
      generalize wa.heap.size = gs at HXx7 ⊢
      go_wp2_with (with_reducible (show wpList _ _ _ (Oper.mk _ (Op.call (Call.mk (Callee.builtin Builtin.append) _ _)) _ _ _ _ :: _) _ _); refine pause ?_)
      unfold Paused
      have HOk : Hid (wb.ownsRow w2.heap.size 37 32 u3 k (cellsP ((o.ents.take k).map (·.id)))) := Lib.hid (by have h := HOx7.out; rwa [HKL.out] at h)
      have HN1 : Hid (k + 1 ≤ maxLen ∧ (k + 1) * 32 ≤ 140737488355328) := Lib.hid (by have := HLE.out; unfold maxLen; constructor <;> omega)
      have hcl : ∀ (j : Nat) u, (cellsB en.id)[j]? = some u → wb.cell? ((⟨gs, 0, none⟩ : Addr).add j) = some u := fun j u hj => by rw [Addr.add_mid, Nat.zero_add, HXx7.out.cell j]; simpa using hj
      have HCL := Lib.hid hcl
      clear hcl
      refine wpList_append_own _ (by rfl) (.tmp 13) (.tmp 16) 23 (by rfl) w2.heap.size 37 ip _ 32 32 Tryd.underlying23 HIP.out.1 HIP.out.2.1 HIP.out.2.2.1 HIP.out.2.2.2 (by rfl) (by decide) u3 k _ (by rfl) HOk.out ⟨gs, 0, none⟩ 1 1 (cellsB (en.id)) (by rfl) (by rw [cellsP1_len HID.out]) HCL.out (cellsB_one _) HN1.out.1 HN1.out.2 HBx7.out.size ?_
      intro v7 w7 ho7 hg7 _
      have HLn : Hid (LkW w2 w7 v7 ((o.ents.take (k + 1)).map (·.id))) := Lib.hid ⟨by rw [HTK.out, List.length_append, cellsP_snoc, HKL.out]; exact ho7, below_own HBx7.out HOk.out (Nat.le_refl _) hg7⟩
      clear ho7 hg7
      go_wp2
      go_roundw
      case rel => exact ⟨k + 1, by omega, by go_num, HLn⟩
      case measure => simp [intOf]; omega
    · obtain rfl : k = o.ents.length := by omega
      have HLz : Hid (LkW w2 wr u3 (o.ents.map (·.id))) := Lib.hid (by have h := HL.out; rwa [List.take_of_length_le (Nat.le_refl _)] at h)
      have a0 : wr.cell? ⟨w.heap.size, 0, none⟩ = some (.int .i64 o.kind) := ((HX.out.at_.below HLz.out.bel HX.out.at_.lt).cell 0).trans K0.out
      have CA := aims_any o.kind wr
      have ik : ¬ ((o.ents.length : Nat) : Int) < o.ents.length := by omega
      by_cases ha : aimsB o.kind = true
      · have HFL : Hid (o.links = (o.ents.map (·.id) ++ [o.target]) ++ o.pars) := Lib.hid (by unfold Ob.links; rw [if_pos ha])
        rw [ha] at CA
        clear ha HL
        go_wp2_with (first
          | (go_at_call 49; refine CA.mono ?_; rintro e wn ⟨rfl, rfl⟩)
          | (with_reducible (show wpList _ _ _ (Oper.mk _ (Op.load 37 _) _ _ _ _ :: _) _ _); refine pause ?_))
        unfold Paused
        refine wpList_mid_w (by rfl) 37 (.tmp 23) (by rfl) w.heap.size 3 (by rfl) _ _ (tgt_idx (HX.out.at_.below HLz.out.bel HX.out.at_.lt) (ob_mid HC.out)) Tryd.underlying37 (by rfl) (by rw [cellsP1_len HTG.out]; kernel_rfl) ?_
        go_wp2_with (with_reducible (show wpList _ _ _ (Oper.mk _ (Op.buildSlice _ _ _) _ _ _ _ :: _) _ _); refine pause ?_)
        unfold Paused
        refine wpList_buildSliceK (by rfl) 23 37 1 _ (by rfl) (cellsB (o.target)).toArray ip (.agg (cellsB (List.replicate 32 0)).toArray) Tryd.underlying23 HIP.out.1 HIP.out.2.1 (by rw [HIP.out.2.2.1]; decide) (by rw [HIP.out.2.2.1]; decide) _ (by kernel_rfl) (by rw [HIP.out.2.2.1]; exact fill_one 32 (Value.agg (cellsB (List.replicate 32 0)).toArray).cells _ (cellsP1_len HTG.out) (by rfl)) ?_
        have HOx := Lib.hid (HLz.out.own.alloc (.cells (cellsB (o.target)).toArray 37))
        have HXx := Lib.hid (Blk.new wr 37 (cellsB (o.target)).toArray)
        have HBx := Lib.hid (below_next HLz.out.bel (show Below wr.heap.size wr (wr.alloc (.cells (cellsB (o.target)).toArray 37)) from (Below.refl _ _).alloc (Nat.le_refl _) _))
        generalize wr.alloc (.cells (cellsB (o.target)).toArray 37) = wb at HOx HXx HBx ⊢
        generalize wr.heap.size = gs at HXx ⊢
        go_wp2_with (with_reducible (show wpList _ _ _ (Oper.mk _ (Op.call (Call.mk (Callee.builtin Builtin.append) _ _)) _ _ _ _ :: _) _ _); refine pause ?_)
        unfold Paused
        have HKL : Hid ((o.ents.map (·.id)).length = o.ents.length) := Lib.hid (List.length_map ..)
        have HOk : Hid (wb.ownsRow w2.heap.size 37 32 u3 o.ents.length (cellsP (o.ents.map (·.id)))) := Lib.hid (by have h := HOx.out; rwa [HKL.out] at h)
        have HN1 : Hid (o.ents.length + 1 ≤ maxLen ∧ (o.ents.length + 1) * 32 ≤ 140737488355328) := Lib.hid (by have := HLE.out; unfold maxLen; constructor <;> omega)
        have hcl : ∀ (j : Nat) u, (cellsB o.target)[j]? = some u → wb.cell? ((⟨gs, 0, none⟩ : Addr).add j) = some u := fun j u hj => by rw [Addr.add_mid, Nat.zero_add, HXx.out.cell j]; simpa using hj
        have HCL := Lib.hid hcl
        clear hcl
        refine wpList_append_own _ (by rfl) (.tmp 22) (.tmp 25) 23 (by rfl) w2.heap.size 37 ip _ 32 32 Tryd.underlying23 HIP.out.1 HIP.out.2.1 HIP.out.2.2.1 HIP.out.2.2.2 (by rfl) (by decide) u3 o.ents.length _ (by rfl) HOk.out ⟨gs, 0, none⟩ 1 1 (cellsB (o.target)) (by rfl) (by rw [cellsP1_len HTG.out]) HCL.out (cellsB_one _) HN1.out.1 HN1.out.2 HBx.out.size ?_
        intro v7 w7 ho7 hg7 _
        have HL7 : Hid (LkW w2 w7 v7 (o.ents.map (·.id) ++ [o.target])) := Lib.hid ⟨by rw [List.length_append, cellsP_snoc, HKL.out]; exact ho7, below_own HBx.out HOk.out (Nat.le_refl _) hg7⟩
        clear ho7 hg7 a0 CA
        have HP9 : Hid (RdK w7 (.slice P o.pars.length pc) o.pars.length (cellsP o.pars)) := Lib.hid (HC.out.pars.below HL7.out.bel (Nat.le_refl _))
        obtain ⟨v9, w9, hr9, hl9⟩ := app_pars HL7.out HP9.out HF.out.pars (by have h1 := HLE.out; simp only [List.length_append, List.length_map, List.length_cons, List.length_nil]; omega) HLE.out.2 23
        have HR9 := Lib.hid hr9
        have HL9 := Lib.hid hl9
        have a5 : w7.cell? ⟨w.heap.size, 35, none⟩ = some (.slice P o.pars.length pc) := ((HX.out.at_.below HL7.out.bel HX.out.at_.lt).cell 35).trans K3.out
        clear hr9 hl9
        go_wp2_with (at_builtin; go_loud (refine Lib.wpList_append_run_sl _ rfl (.tmp 27) (.tmp 29) _ rfl _ _ rfl rfl HR9.out ?_))
        go_ret
        exact ⟨_, rfl, by rw [HFL.out]; exact own_lowL HL9.out.own HX.out.bel.size, (HX.out.bel).trans (HL9.out.bel.mono HX.out.bel.size)⟩
      · have ha' : aimsB o.kind = false := by simpa using ha
        have HFL : Hid (o.links = o.ents.map (·.id) ++ o.pars) := Lib.hid (by unfold Ob.links; rw [if_neg ha, List.append_nil])
        rw [ha'] at CA
        clear ha ha' HL
        have HP9 : Hid (RdK wr (.slice P o.pars.length pc) o.pars.length (cellsP o.pars)) := Lib.hid (HC.out.pars.below HLz.out.bel (Nat.le_refl _))
        obtain ⟨v9, w9, hr9, hl9⟩ := app_pars HLz.out HP9.out HF.out.pars (by have h1 := HLE.out; simp only [List.length_map]; omega) HLE.out.2 23
        have HR9 := Lib.hid hr9
        have HL9 := Lib.hid hl9
        have a5 : wr.cell? ⟨w.heap.size, 35, none⟩ = some (.slice P o.pars.length pc) := ((HX.out.at_.below HLz.out.bel HX.out.at_.lt).cell 35).trans K3.out
        clear hr9 hl9
        go_wp2_with (first
          | (go_at_call 49; refine CA.mono ?_; rintro e wn ⟨rfl, rfl⟩)
          | (at_builtin; go_loud (refine Lib.wpList_append_run_sl _ rfl (.tmp 27) (.tmp 29) _ rfl _ _ rfl rfl HR9.out ?_)))
        go_ret
        exact ⟨_, rfl, by rw [HFL.out]; exact own_lowL HL9.out.own HX.out.bel.size, (HX.out.bel).trans (HL9.out.bel.mono HX.out.bel.size)⟩
end Go.Proofs.YtlodalppnglclaaDoor
/- The bytes of any object (Bytes), in general: the answer is a row of its own. -/
namespace Go.Proofs.YtlodalppnglclaaDoor
open Go Go.RowKit
/-- What object.Bytes answers, and that it lies in memory made since. -/
def BytesPostN (o : Ob) (aF : Addr) (w : World) (e : Ending) (w' : World) : Prop :=
  Below w.heap.size w w' ∧ (o.right = false → e = .returned (.tuple #[.slice none 0 0, ev aF])) ∧ (o.right = true → ∃ v, e = .returned (.tuple #[v, .nilIface]) ∧ w'.ownsRow w.heap.size 5 1 v (o.front ++ o.text).length (cellsB (o.front ++ o.text)))
set_option maxRecDepth 100000 in
set_option maxHeartbeats 2000000 in
theorem obytes_own (o : Ob) (cs : Array Value) (T E P : Option Addr) (tc ec pc : Nat) (aF : Addr) (w : World) (h : ObC w o cs T tc E ec P pc) (hf : o.Fit) (hd : o.Held) (hF : w.cell? ⟨0, 0, none⟩ = some (ev aF)) :
    Calls Tryd.prog 19 #[.agg cs] w (BytesPostN o aF w) := by
  obtain ⟨w2, hw2⟩ : ∃ w2, w2 = w.alloc (.cells cs 50) := ⟨_, rfl⟩
  have X1 : Box w w2 w.heap.size 50 cs := hw2 ▸ Box.new w _ cs
  have HC := Lib.hid h
  have HFT := Lib.hid hf
  have hsz := h.size hf
  have n1 : (Tryd.prog.info? 50).map (·.size) = some cs.size := by rw [hsz]; kernel_rfl
  have CR := right_any o cs T E P tc ec pc w2 (h.below X1.bel (Nat.le_refl _)) hf hd
  have HX1 := Lib.hid X1
  have N1 := Lib.hid n1
  have K1 := Lib.hid h.c1
  have HFC := Lib.hid hF
  have e2 := hw2.symm
  clear h X1 hw2 n1 hsz hf hd hF
  obtain ⟨br, hbr⟩ : ∃ br, br = o.right := ⟨_, rfl⟩
  rw [← hbr] at CR
  have HBR := Lib.hid hbr
  clear hbr
  go_enter Tryd.func19, Tryd.ntmps19
  go_wp2_with (with_reducible (show wpList _ _ _ (Oper.mk _ (Op.load 50 _) _ _ _ _ :: _) _ _); refine pause ?_)
  unfold Paused
  refine wpList_row_w (by rfl) 50 (.tmp 1) (by rfl) w.heap.size (by rfl) 50 cs _ HX1.out.at_ Tryd.underlying50 (by rfl) N1.out ?_
  go_wp2_with (go_at_call 34; refine pause ?_)
  unfold Paused
  refine CR.mono ?_
  rintro e w3 ⟨rfl, hb⟩
  have HX3 := Lib.hid (HX1.out.go hb)
  clear hb CR e2
  cases br
  · have f1 : w3.cell? ⟨0, 0, none⟩ = some (ev aF) := (World.cell?_of_block (HX3.out.bel.block _ (block_lt_of_cell HFC.out))).trans HFC.out
    go_wp2
    go_quiet (fail)
    go_wp2
    go_ret2
    exact ⟨below_drewN HX3.out.bel _, fun _ => rfl, fun h => (by rw [← HBR.out] at h; cases h)⟩
  have HNR := Lib.hid (right_near HBR.out.symm)
  have CF : ∀ w', Below w3.heap.size w3 w' → Calls Tryd.prog 35 #[.agg cs] w' _ := fun w' hb => front_any o cs T E P tc ec pc w' (HC.out.below (HX3.out.go hb).bel (Nat.le_refl _)) HFT.out HNR.out.1
  have c1 : ∀ w', Below w3.heap.size w3 w' → w'.cell? ⟨w.heap.size, 1, none⟩ = some (.slice T o.text.length tc) := fun w' hb => ((HX3.out.go hb).at_.cell 1).trans K1.out
  go_wp2
  refine wp_region_held (S := (fun w' => Below w3.heap.size w3 w')) (by kernel_rfl) ?_
  change wpAnyH _ _ _ _ _ _ _ _ w3.drew
  have HS0 := Lib.hid (below_drewN (Below.refl w3.heap.size w3) 1)
  refine wpAnyH_take (i := 0) rfl (by kernel_rfl) (by kernel_rfl) (by kernel_rfl) (fun _ _ _ h => h) (takes_row 50 (.tmp 1) rfl (by rfl) w.heap.size rfl 50 cs _ (fun w' h => (HX3.out.go h).at_) Tryd.underlying50 rfl N1.out) (HS0.out) ?_
  try simp only [Act.put, List.getElem_toArray, List.getElem_cons_zero, List.setIfInBounds_toArray, List.set_cons_zero, List.set_cons_succ]
  refine wpAnyH_take (i := 2) (v := ?_) rfl (by kernel_rfl) (by kernel_rfl) (by kernel_rfl) (fun _ _ _ h => h) (Or.inl ⟨by rfl, ?_⟩) (HS0.out) ?_
  rotate_left
  · intro w' hw; go_simp; with_reducible rfl
  try simp only [Act.put, List.getElem_toArray, List.getElem_cons_zero, List.getElem_cons_succ, List.setIfInBounds_toArray, List.set_cons_zero, List.set_cons_succ]
  refine wpAnyH_take (i := 3) (v := ?_) rfl (by kernel_rfl) (by kernel_rfl) (by kernel_rfl) (fun _ _ _ h => h) (Or.inl ⟨by rfl, ?_⟩) (HS0.out) ?_
  rotate_left
  · intro w' hw; go_simp; with_reducible rfl
  try simp only [Act.put, List.getElem_toArray, List.getElem_cons_zero, List.getElem_cons_succ, List.setIfInBounds_toArray, List.set_cons_zero, List.set_cons_succ]
  refine all_one (i := 1) (by kernel_rfl) rfl (by rfl) (fun K hK => ?_)
  go_simp
  refine (CF _ HS0.out).mono ?_
  rintro e w4 ⟨A, c, rfl, hp⟩
  have hsz4 : (w3.drew.alloc (.cells cs 50)).heap.size = w3.drew.heap.size + 1 := by simp
  have HB4 : Hid (Below w3.drew.heap.size w3.drew w4) := Lib.hid (below_next ((Below.refl _ _).alloc (Nat.le_refl _) _) (by rw [hsz4]; exact hp.bel))
  have HS1 : Hid (Below w3.heap.size w3 w4) := Lib.hid (below_next HS0.out HB4.out)
  have HPD := Lib.hid hp
  clear hp hsz4
  dsimp only
  refine hK _ _ HS1.out ?_; clear hK K
  try simp only [Act.put, List.getElem_toArray, List.getElem_cons_zero, List.getElem_cons_succ, List.setIfInBounds_toArray, List.set_cons_zero, List.set_cons_succ]
  have HRT : Hid (Rd w4 (.slice T o.text.length tc) o.text) := Lib.hid (HC.out.text.below (HX3.out.go HS1.out).bel (Nat.le_refl _))
  have hle : w3.drew.heap.size + 1 ≤ w4.heap.size := (by have h := HPD.out.bel.size; simpa using h)
  refine all_one (i := 4) (by kernel_rfl) rfl (by rfl) (fun K hK => ?_)
  refine ap_bytes (.tmp 9) (.tmp 11) rfl (w3.drew.heap.size + 1) _ o.front rfl HPD.out.own hle _ rfl o.text HRT.out (by have := HNR.out.2; omega) ?_
  intro v2 w5 ho2 hg2
  have HB5 : Hid (Below w3.drew.heap.size w3.drew w5) := Lib.hid (below_own HB4.out HPD.out.own (Nat.le_succ _) hg2)
  have HS2 : Hid (Below w3.heap.size w3 w5) := Lib.hid (below_next HS0.out HB5.out)
  have HR2 : Hid (w5.ownsRow w.heap.size 5 1 v2 (o.front ++ o.text).length (cellsB (o.front ++ o.text))) := Lib.hid (by
    have h1 := own_lowL ho2 (m' := w.heap.size) (by have h := HX3.out.bel.size; have h2 : w3.drew.heap.size = w3.heap.size := rfl; omega)
    simpa [cellsB] using h1)
  clear ho2 hg2
  refine hK _ _ HS2.out ?_; clear hK K
  try simp only [Act.put, List.getElem_toArray, List.getElem_cons_zero, List.getElem_cons_succ, List.setIfInBounds_toArray, List.set_cons_zero, List.set_cons_succ]
  refine wpAnyH_take (i := 5) (v := ?_) rfl (by kernel_rfl) (by kernel_rfl) (by kernel_rfl) (fun _ _ _ h => h) (Or.inl ⟨by rfl, ?_⟩) (HS2.out) ?_
  rotate_left
  · intro w' hw; go_simp; with_reducible rfl
  try simp only [Act.put, List.getElem_toArray, List.getElem_cons_zero, List.getElem_cons_succ, List.setIfInBounds_toArray, List.set_cons_zero, List.set_cons_succ]
  refine wpAnyH_take (i := 6) (v := ?_) rfl (by kernel_rfl) (by kernel_rfl) (by kernel_rfl) (fun _ _ _ h => h) (Or.inl ⟨by rfl, ?_⟩) (HS2.out) ?_
  rotate_left
  · intro w' hw; go_simp; with_reducible rfl
  try simp only [Act.put, List.getElem_toArray, List.getElem_cons_zero, List.getElem_cons_succ, List.setIfInBounds_toArray, List.set_cons_zero, List.set_cons_succ]
  refine wpAnyH_done (by kernel_rfl) ?_ _
  go_wp2
  go_ret2
  exact ⟨(HX3.out.go HS2.out).bel, fun h => (by rw [← HBR.out] at h; cases h), fun _ => ⟨_, rfl, HR2.out⟩⟩
end Go.Proofs.YtlodalppnglclaaDoor
