/- The ids that an object names (Links). -/
import Derived.Test.YtlgljdefileeoaaDoorMOb18s
import Derived.Lib.SlFresh
import Derived.Test.YtlgljdefileeoaaDoorMOct18s
namespace Go.Proofs.YtlgljdefileeoaaDoor
open Go Go.RowKit
def Ob.links (o : Ob) : List (List Nat) := (o.ents.map (·.id) ++ (if aimsB o.kind then [o.target] else [])) ++ o.pars
theorem ioid_info : (Tryd.prog.info? 27).map (fun i => (i.zero, i.size, i.bytes)) = some (some (.agg (cellsB (List.replicate 32 0)).toArray), 32, 32) := by kernel_rfl
theorem cellsP_snoc (l : List (List Nat)) (x : List Nat) : cellsP (l ++ [x]) = cellsP l ++ cellsB x := by simp [cellsP]
theorem cellsP_app (l m : List (List Nat)) : cellsP (l ++ m) = cellsP l ++ cellsP m := by simp [cellsP]
theorem cellsP_one (l : List (List Nat)) : ∀ v ∈ cellsP l, v.oneCell' = true := by
  intro v hv
  obtain ⟨x, _, hx⟩ := List.mem_flatMap.1 hv
  exact cellsB_one _ v hx
theorem ids_take {es : List Ent} {k : Nat} (h : k < es.length) : (es.take (k + 1)).map (·.id) = (es.take k).map (·.id) ++ [es[k].id] := by
  rw [List.take_succ_eq_append_getElem h, List.map_append]; simp
/-- The ids so far: the call's own row. -/
structure LkW (w2 w' : World) (v : Value) (ls : List (List Nat)) : Prop where
  own : w'.ownsRow w2.heap.size 27 32 v ls.length (cellsP ls)
  bel : Below w2.heap.size w2 w'
theorem ent_idx (e : Ent) {w : World} {g t : Nat} (hb : Blk w g t (cellsE1 e).toArray) : w.rangeAt g 1 (cellsB e.id) := fun j u hu => by
  rw [hb.cell, List.getElem?_toArray, cellsE1, Nat.add_comm 1 j, List.getElem?_cons_succ]
  exact hu
theorem tgt_idx {o : Ob} {cs : Array Value} {w : World} {g t : Nat} (hb : Blk w g t cs) (hm : ∀ i, i < o.target.length → cs[3 + i]? = some (.int .u8 ((o.target.getD i 0 : Nat) : Int))) : w.rangeAt g 3 (cellsB o.target) := fun j u hu => by
  have hj := (List.getElem?_eq_some_iff.1 hu).1
  rw [cellsB_len] at hj
  rw [cellsB_get hj] at hu
  rw [hb.cell, hm j hj, hu]
theorem cellsP_length : ∀ (ps : List (List Nat)), (∀ p ∈ ps, Id32 p) → (cellsP ps).length = ps.length * 32
  | [], _ => rfl
  | p :: ps, h => by
    have h1 := cellsP_length ps (fun x hx => h x (List.mem_cons_of_mem _ hx))
    have h2 := cellsP1_len (h p (List.mem_cons_self ..))
    unfold cellsP at h1 ⊢
    rw [List.flatMap_cons, List.length_append, h1, h2, List.length_cons]
    omega
/-- nothing appended -/
theorem app_nothing (w : World) (ty : TypeId) (A P : Option Addr) (n c pc : Nat) (h : n ≤ c) : (Builtin.append_ #[28, 28] ty #[.slice A n c, .slice P 0 pc]).run Tryd.prog w = .ok (.slice A n c) w := by
  obtain ⟨ip, hip, _, hps, _⟩ := info_parts ioid_info
  cases A <;> cases P <;> simp [Builtin.append_, run_underlying Tryd.underlying28, sizeOf, typeInfo, hip, Builtin.lenOf, h, Builtin.firstCells, loadCells, loadCellsFrom, storeCells]
/-- The list of ids that came in, appended to the call's own. -/
theorem app_pars {w2 wr : World} {v : Value} {ls ps : List (List Nat)} {A : Option Addr} {pc : Nat} (hL : LkW w2 wr v ls) (hP : RdK wr (.slice A ps.length pc) ps.length (cellsP ps)) (hi : ∀ p ∈ ps, Id32 p) (hn : ls.length ≤ 2000) (hm : ps.length ≤ 1000) (ty : TypeId) :
    ∃ v' w', (Builtin.append_ #[28, 28] ty #[v, .slice A ps.length pc]).run Tryd.prog wr = .ok v' w' ∧ LkW w2 w' v' (ls ++ ps) := by
  obtain ⟨ip, hip, hpz, hps, hpb⟩ := info_parts ioid_info
  by_cases h0 : ps.length = 0
  · have hp : ps = [] := List.eq_nil_of_length_eq_zero h0
    subst hp
    obtain ⟨A2, c2, hv, hc⟩ : ∃ A2 c2, v = .slice A2 ls.length c2 ∧ ls.length ≤ c2 := by
      rcases hL.own.2 with ⟨h1, h2⟩ | ⟨g, cap, cur, h1, _, _, h2, _⟩
      · exact ⟨none, 0, by rw [h1, h2], by omega⟩
      · exact ⟨_, cap, h1, h2⟩
    subst hv
    exact ⟨_, _, app_nothing wr ty A2 A _ _ pc hc, by rw [List.append_nil]; exact hL⟩
  · obtain ⟨A', c', hv, hc, hA⟩ := hP
    injection hv with e1 _ _
    obtain ⟨b, o, rfl, hb, hx⟩ := hA (by omega)
    subst e1
    obtain ⟨v', w', hr, ho, hg, _⟩ := run_append_own (P := Tryd.prog) wr w2.heap.size 28 ty 27 ip (.agg (cellsB (List.replicate 32 0)).toArray) 32 32 Tryd.underlying28 hip hpz hps hpb (by rfl) (by decide) v ls.length (cellsP ls) hL.own ⟨b, o, none⟩ ps.length pc (cellsP ps) (cellsP_length ps hi) (fun j u hj => by rw [Addr.add_mid]; exact hx j u hj) (cellsP_one ps) (by unfold maxLen; omega) (by omega) hL.bel.size
    exact ⟨v', w', hr, ⟨by rw [List.length_append, cellsP_app]; exact ho, below_own hL.bel hL.own (Nat.le_refl _) hg⟩⟩
set_option maxRecDepth 100000 in
set_option maxHeartbeats 4000000 in
theorem links_any (o : Ob) (cs : Array Value) (T E P : Option Addr) (tc ec pc : Nat) (w : World) (h : ObC w o cs T tc E ec P pc) (hf : o.Fit) (hz : o.ents.length ≤ 1000 ∧ o.pars.length ≤ 1000) :
    Calls Tryd.prog 15 #[.agg cs] w fun e w' => ∃ v, e = .returned v ∧ RdK w' v o.links.length (cellsP o.links) ∧ Below w.heap.size w w' := by
  obtain ⟨w2, hw2⟩ : ∃ w2, w2 = w.alloc (.cells cs 30) := ⟨_, rfl⟩
  have X1 : Box w w2 w.heap.size 30 cs := hw2 ▸ Box.new w _ cs
  have HC := Lib.hid (h.below X1.bel (Nat.le_refl _))
  have HF := Lib.hid hf
  have HZ := Lib.hid hz
  have HX := Lib.hid X1
  have K0 := Lib.hid h.c0
  have K2 := Lib.hid h.c2
  have K3 := Lib.hid (h.c35 hf)
  have HTG := Lib.hid hf.target
  obtain ⟨ip, hip, hpz, hps, hpb⟩ := info_parts ioid_info
  have HIP := Lib.hid (And.intro hip (And.intro hpz (And.intro hps hpb)))
  have a2 : w2.cell? ⟨w.heap.size, 2, none⟩ = some (.slice E o.ents.length ec) := (X1.at_.cell 2).trans K2.out
  have HL0 : Hid (LkW w2 w2 nilV ((o.ents.take 0).map (·.id))) := Lib.hid ⟨World.ownsRow_nil _ _ _ _, Below.refl _ _⟩
  have HLE := Lib.hid (show o.ents.length ≤ 1000 ∧ o.pars.length ≤ 1000 from hz)
  have e2 := hw2.symm
  clear h hf hz X1 hw2 hip hpz hps hpb
  go_enter Tryd.func15, Tryd.ntmps15
  go_wp2
  clear a2
  go_loopw [3, 9] (fun v i wr => ∃ k : Nat, k ≤ o.ents.length ∧ i = .int .i64 k ∧ Hid (LkW w2 wr v ((o.ents.take k).map (·.id)))) (fun _ i _ => o.ents.length - (intOf i).toNat)
  case atStart => exact ⟨0, Nat.zero_le _, rfl, HL0⟩
  case round =>
    obtain ⟨k, hk, rfl, HL⟩ := hrel
    by_cases hlt : k < o.ents.length
    · obtain ⟨sb, so, rfl, _, hsr⟩ := (HC.out.ents.below HL.out.bel (Nat.le_refl _)).ent rfl HF.out.ents hlt
      have HSR := Lib.hid hsr
      have HID := Lib.hid (HF.out.ents _ (List.getElem_mem hlt))
      have HTK := Lib.hid (ids_take hlt)
      have HKL : Hid (((o.ents.take k).map (·.id)).length = k) := Lib.hid (by rw [List.length_map, List.length_take]; omega)
      clear hsr
      obtain ⟨en, hen⟩ : ∃ en, en = o.ents[k] := ⟨_, rfl⟩
      rw [← hen] at HSR HID HTK
      clear hen
      have i1 : ((k : Nat) : Int) < o.ents.length := by omega
      have i2 : (0 : Int) ≤ ((k : Nat) : Int) := by omega
      have i3 : ((k : Nat) : Int) < 1000 := by have := HLE.out; omega
      go_wp2_with (with_reducible (show wpList _ _ _ (Oper.mk _ (Op.load 61 _) _ _ _ _ :: _) _ _); refine pause ?_)
      unfold Paused
      refine wpList_mid_w (by rfl) 61 (.tmp 11) (by rfl) sb (so + k * 33) (by rfl) _ _ HSR.out Tryd.underlying61 (by rfl) (by rw [cellsE1_len HID.out]; kernel_rfl) ?_
      go_wp2_with (with_reducible (show wpList _ _ _ (Oper.mk _ (Op.store 61 _ _) _ _ _ _ :: _) _ _); refine pause ?_)
      unfold Paused
      change wpList _ _ _ _ _ (wr.alloc (.cells (cellsE1 ⟨⟨#[]⟩, List.replicate 32 0⟩).toArray 61))
      refine wpList_store_row (by rfl) 61 (.tmp 5) (.tmp 12) (by rfl) wr.heap.size (cellsE1 en).toArray (by rfl) (by rfl) 61 (cellsE1 ⟨⟨#[]⟩, List.replicate 32 0⟩).toArray (Blk.new wr _ _) (by rw [List.size_toArray, cellsE1_len HID.out]; kernel_rfl) (by rw [List.size_toArray, List.size_toArray, cellsE1_len HID.out]; rfl) (arr_one (cellsE1_one en)) ?_
      have HLa : Hid (LkW w2 ((wr.alloc (.cells (cellsE1 ⟨⟨#[]⟩, List.replicate 32 0⟩).toArray 61)).setRow wr.heap.size (cellsE1 en).toArray) u3 ((o.ents.take k).map (·.id))) := Lib.hid ⟨own_farRow (g := wr.heap.size) (HL.out.own.alloc _) (fun k hk => by have := (HL.out.own.lt k hk).2; omega) _, below_next HL.out.bel (below_row ((Below.refl _ _).alloc (Nat.le_refl _) _) (Nat.le_refl _) _)⟩
      have HXa := Lib.hid ((Blk.new wr 61 (cellsE1 ⟨⟨#[]⟩, List.replicate 32 0⟩).toArray).row (cellsE1 en).toArray)
      generalize World.setRow _ wr.heap.size (cellsE1 en).toArray = wa at HLa HXa ⊢
      generalize wr.heap.size = gx at HXa ⊢
      simp only [Act.put]
      go_wp2_with (with_reducible (show wpList _ _ _ (Oper.mk _ (Op.load 27 _) _ _ _ _ :: _) _ _); refine pause ?_)
      unfold Paused
      refine wpList_mid_w (by rfl) 27 (.tmp 14) (by rfl) gx 1 (by rfl) _ _ (ent_idx en HXa.out) Tryd.underlying27 (by rfl) (by rw [cellsP1_len HID.out]; kernel_rfl) ?_
      go_wp2_with (with_reducible (show wpList _ _ _ (Oper.mk _ (Op.buildSlice _ _ _) _ _ _ _ :: _) _ _); refine pause ?_)
      unfold Paused
      refine wpList_buildSliceK (by rfl) 28 27 1 _ (by rfl) (cellsB (en.id)).toArray ip (.agg (cellsB (List.replicate 32 0)).toArray) Tryd.underlying28 HIP.out.1 HIP.out.2.1 (by rw [HIP.out.2.2.1]; decide) (by rw [HIP.out.2.2.1]; decide) _ (by kernel_rfl) (by rw [HIP.out.2.2.1]; exact fill_one 32 (Value.agg (cellsB (List.replicate 32 0)).toArray).cells _ (cellsP1_len HID.out) (by rfl)) ?_
      have HOx7 := Lib.hid (HLa.out.own.alloc (.cells (cellsB (en.id)).toArray 27))
      have HXx7 := Lib.hid (Blk.new wa 27 (cellsB (en.id)).toArray)
      have HBx7 := Lib.hid (below_next HLa.out.bel (show Below wa.heap.size wa (wa.alloc (.cells (cellsB (en.id)).toArray 27)) from (Below.refl _ _).alloc (Nat.le_refl _) _))
      generalize wa.alloc (.cells (cellsB (en.id)).toArray 27) = wb at HOx7 HXx7 HBx7 ⊢
      generalize wa.heap.size = gs at HXx7 ⊢
      go_wp2_with (with_reducible (show wpList _ _ _ (Oper.mk _ (Op.call (Call.mk (Callee.builtin Builtin.append) _ _)) _ _ _ _ :: _) _ _); refine pause ?_)
      unfold Paused
      have HOk : Hid (wb.ownsRow w2.heap.size 27 32 u3 k (cellsP ((o.ents.take k).map (·.id)))) := Lib.hid (by have h := HOx7.out; rwa [HKL.out] at h)
      have HN1 : Hid (k + 1 ≤ maxLen ∧ (k + 1) * 32 ≤ 140737488355328) := Lib.hid (by have := HLE.out; unfold maxLen; constructor <;> omega)
      have hcl : ∀ (j : Nat) u, (cellsB en.id)[j]? = some u → wb.cell? ((⟨gs, 0, none⟩ : Addr).add j) = some u := fun j u hj => by rw [Addr.add_mid, Nat.zero_add, HXx7.out.cell j]; simpa using hj
      have HCL := Lib.hid hcl
      clear hcl
      refine wpList_append_own _ (by rfl) (.tmp 13) (.tmp 16) 28 (by rfl) w2.heap.size 27 ip _ 32 32 Tryd.underlying28 HIP.out.1 HIP.out.2.1 HIP.out.2.2.1 HIP.out.2.2.2 (by rfl) (by decide) u3 k _ (by rfl) HOk.out ⟨gs, 0, none⟩ 1 1 (cellsB (en.id)) (by rfl) (by rw [cellsP1_len HID.out]) HCL.out (cellsB_one _) HN1.out.1 HN1.out.2 HBx7.out.size ?_
      intro v7 w7 ho7 hg7 _
      have HLn : Hid (LkW w2 w7 v7 ((o.ents.take (k + 1)).map (·.id))) := Lib.hid ⟨by rw [HTK.out, List.length_append, cellsP_snoc, HKL.out]; exact ho7, below_own HBx7.out HOk.out (Nat.le_refl _) hg7⟩
      clear ho7 hg7
      go_wp2
      go_roundw
      case rel => exact ⟨k + 1, by omega, by go_num, HLn⟩
      case measure => simp [intOf]; omega
    · obtain rfl : k = o.ents.length := by omega
      have HLz : Hid (LkW w2 wr u3 (o.ents.map (·.id))) := Lib.hid (by have h := HL.out; rwa [List.take_of_length_le (Nat.le_refl _)] at h)
      have a0 : wr.cell? ⟨w.heap.size, 0, none⟩ = some (.int .i64 o.kind) := ((HX.out.at_.below HLz.out.bel HX.out.at_.lt).cell 0).trans K0.out
      have CA := aims_any o.kind wr
      have ik : ¬ ((o.ents.length : Nat) : Int) < o.ents.length := by omega
      by_cases ha : aimsB o.kind = true
      · have HFL : Hid (o.links = (o.ents.map (·.id) ++ [o.target]) ++ o.pars) := Lib.hid (by unfold Ob.links; rw [if_pos ha])
        rw [ha] at CA
        clear ha HL
        go_wp2_with (first
          | (go_at_call 25; refine CA.mono ?_; rintro e wn ⟨rfl, rfl⟩)
          | (with_reducible (show wpList _ _ _ (Oper.mk _ (Op.load 27 _) _ _ _ _ :: _) _ _); refine pause ?_))
        unfold Paused
        refine wpList_mid_w (by rfl) 27 (.tmp 23) (by rfl) w.heap.size 3 (by rfl) _ _ (tgt_idx (HX.out.at_.below HLz.out.bel HX.out.at_.lt) (ob_mid HC.out)) Tryd.underlying27 (by rfl) (by rw [cellsP1_len HTG.out]; kernel_rfl) ?_
        go_wp2_with (with_reducible (show wpList _ _ _ (Oper.mk _ (Op.buildSlice _ _ _) _ _ _ _ :: _) _ _); refine pause ?_)
        unfold Paused
        refine wpList_buildSliceK (by rfl) 28 27 1 _ (by rfl) (cellsB (o.target)).toArray ip (.agg (cellsB (List.replicate 32 0)).toArray) Tryd.underlying28 HIP.out.1 HIP.out.2.1 (by rw [HIP.out.2.2.1]; decide) (by rw [HIP.out.2.2.1]; decide) _ (by kernel_rfl) (by rw [HIP.out.2.2.1]; exact fill_one 32 (Value.agg (cellsB (List.replicate 32 0)).toArray).cells _ (cellsP1_len HTG.out) (by rfl)) ?_
        have HOx := Lib.hid (HLz.out.own.alloc (.cells (cellsB (o.target)).toArray 27))
        have HXx := Lib.hid (Blk.new wr 27 (cellsB (o.target)).toArray)
        have HBx := Lib.hid (below_next HLz.out.bel (show Below wr.heap.size wr (wr.alloc (.cells (cellsB (o.target)).toArray 27)) from (Below.refl _ _).alloc (Nat.le_refl _) _))
        generalize wr.alloc (.cells (cellsB (o.target)).toArray 27) = wb at HOx HXx HBx ⊢
        generalize wr.heap.size = gs at HXx ⊢
        go_wp2_with (with_reducible (show wpList _ _ _ (Oper.mk _ (Op.call (Call.mk (Callee.builtin Builtin.append) _ _)) _ _ _ _ :: _) _ _); refine pause ?_)
        unfold Paused
        have HKL : Hid ((o.ents.map (·.id)).length = o.ents.length) := Lib.hid (List.length_map ..)
        have HOk : Hid (wb.ownsRow w2.heap.size 27 32 u3 o.ents.length (cellsP (o.ents.map (·.id)))) := Lib.hid (by have h := HOx.out; rwa [HKL.out] at h)
        have HN1 : Hid (o.ents.length + 1 ≤ maxLen ∧ (o.ents.length + 1) * 32 ≤ 140737488355328) := Lib.hid (by have := HLE.out; unfold maxLen; constructor <;> omega)
        have hcl : ∀ (j : Nat) u, (cellsB o.target)[j]? = some u → wb.cell? ((⟨gs, 0, none⟩ : Addr).add j) = some u := fun j u hj => by rw [Addr.add_mid, Nat.zero_add, HXx.out.cell j]; simpa using hj
        have HCL := Lib.hid hcl
        clear hcl
        refine wpList_append_own _ (by rfl) (.tmp 22) (.tmp 25) 28 (by rfl) w2.heap.size 27 ip _ 32 32 Tryd.underlying28 HIP.out.1 HIP.out.2.1 HIP.out.2.2.1 HIP.out.2.2.2 (by rfl) (by decide) u3 o.ents.length _ (by rfl) HOk.out ⟨gs, 0, none⟩ 1 1 (cellsB (o.target)) (by rfl) (by rw [cellsP1_len HTG.out]) HCL.out (cellsB_one _) HN1.out.1 HN1.out.2 HBx.out.size ?_
        intro v7 w7 ho7 hg7 _
        have HL7 : Hid (LkW w2 w7 v7 (o.ents.map (·.id) ++ [o.target])) := Lib.hid ⟨by rw [List.length_append, cellsP_snoc, HKL.out]; exact ho7, below_own HBx.out HOk.out (Nat.le_refl _) hg7⟩
        clear ho7 hg7 a0 CA
        have HP9 : Hid (RdK w7 (.slice P o.pars.length pc) o.pars.length (cellsP o.pars)) := Lib.hid (HC.out.pars.below HL7.out.bel (Nat.le_refl _))
        obtain ⟨v9, w9, hr9, hl9⟩ := app_pars HL7.out HP9.out HF.out.pars (by have h1 := HLE.out; simp only [List.length_append, List.length_map, List.length_cons, List.length_nil]; omega) HLE.out.2 28
        have HR9 := Lib.hid hr9
        have HL9 := Lib.hid hl9
        have a5 : w7.cell? ⟨w.heap.size, 35, none⟩ = some (.slice P o.pars.length pc) := ((HX.out.at_.below HL7.out.bel HX.out.at_.lt).cell 35).trans K3.out
        clear hr9 hl9
        go_wp2_with (at_builtin; go_loud (refine Lib.wpList_append_run_sl _ rfl (.tmp 27) (.tmp 29) _ rfl _ _ rfl rfl HR9.out ?_))
        go_ret
        exact ⟨_, rfl, by rw [HFL.out]; exact rdk_own HL9.out.own, (HX.out.bel).trans (HL9.out.bel.mono HX.out.bel.size)⟩
      · have ha' : aimsB o.kind = false := by simpa using ha
        have HFL : Hid (o.links = o.ents.map (·.id) ++ o.pars) := Lib.hid (by unfold Ob.links; rw [if_neg ha, List.append_nil])
        rw [ha'] at CA
        clear ha ha' HL
        have HP9 : Hid (RdK wr (.slice P o.pars.length pc) o.pars.length (cellsP o.pars)) := Lib.hid (HC.out.pars.below HLz.out.bel (Nat.le_refl _))
        obtain ⟨v9, w9, hr9, hl9⟩ := app_pars HLz.out HP9.out HF.out.pars (by have h1 := HLE.out; simp only [List.length_map]; omega) HLE.out.2 28
        have HR9 := Lib.hid hr9
        have HL9 := Lib.hid hl9
        have a5 : wr.cell? ⟨w.heap.size, 35, none⟩ = some (.slice P o.pars.length pc) := ((HX.out.at_.below HLz.out.bel HX.out.at_.lt).cell 35).trans K3.out
        clear hr9 hl9
        go_wp2_with (first
          | (go_at_call 25; refine CA.mono ?_; rintro e wn ⟨rfl, rfl⟩)
          | (at_builtin; go_loud (refine Lib.wpList_append_run_sl _ rfl (.tmp 27) (.tmp 29) _ rfl _ _ rfl rfl HR9.out ?_)))
        go_ret
        exact ⟨_, rfl, by rw [HFL.out]; exact rdk_own HL9.out.own, (HX.out.bel).trans (HL9.out.bel.mono HX.out.bel.size)⟩
end Go.Proofs.YtlgljdefileeoaaDoor
/- octets.run of an object, whatever reads it: its result lies in a variable. -/
namespace Go.Proofs.YtlgljdefileeoaaDoor
open Go Go.RowKit
/-- no object -/
def zOc : Array Value := #[.int .i64 0, .slice none 0 0, .slice none 0 0, .int .u8 0, .int .u8 0, .int .u8 0, .int .u8 0, .int .u8 0, .int .u8 0, .int .u8 0, .int .u8 0, .int .u8 0, .int .u8 0, .int .u8 0, .int .u8 0, .int .u8 0, .int .u8 0, .int .u8 0, .int .u8 0, .int .u8 0, .int .u8 0, .int .u8 0, .int .u8 0, .int .u8 0, .int .u8 0, .int .u8 0, .int .u8 0, .int .u8 0, .int .u8 0, .int .u8 0, .int .u8 0, .int .u8 0, .int .u8 0, .int .u8 0, .int .u8 0, .slice none 0 0]
/-- the world in which the function that reads is called: run's variable, its result, the In -/
abbrev runBoxO (w : World) (r : Nat) : World := ((w.alloc (.cells #[.pointer (some ⟨r, 0, none⟩)] 66)).alloc (.cells zOc 30)).alloc (.cells #[.pointer (some ⟨r, 0, none⟩)] 93)
theorem resultsO {fn : Func} {t : Tmp} (hr : fn.results = #[.cell t 30]) {tmps : Array Value} {W : World} {g : Nat} {cs : Array Value} (h4 : tmps.getD t undef = .pointer (some ⟨g, 0, none⟩)) (hb : Blk W g 30 cs) (hs : cs.size = 36) :
    (results fn tmps).run Tryd.prog W = .ok (.agg cs) W := by
  have hl : (loadVar 30 ⟨g, 0, none⟩).run Tryd.prog W = .ok (.agg cs) W := run_loadVar_row W g 30 30 cs (0, 0) _ hb Tryd.underlying30 (by rfl) (by rw [hs]; kernel_rfl)
  simp only [Array.getD_eq_getD_getElem?] at h4
  simp [results, hr, h4, asAddr, hl]
theorem catchO_idle (q : Nat) (w : World) :
    CallsD Tryd.prog 42 #[.pointer (some ⟨q, 0, none⟩)] .returning w fun e u' w' => e = .returned (.tuple #[]) ∧ u' = .returning ∧ w' = w := by
  refine callsD_of_wpS Tryd.func42 rfl fun c₀ cs hu => ?_
  apply wpS_seq
  apply wpS_region
  simp [wpOpsS, go_sem, recoverD, hu, Tryd.ntmps42, Exit.thenS]
  rw [slots17]
  refine wpS_of_wp ?_
  go_wp2
  exact ⟨rfl, _, by rw [← hu], _, results_none rfl _ _ _, rfl, rfl, rfl⟩
set_option maxRecDepth 100000 in
theorem catchO_stop (q r : Nat) (older : List PanicEntry) (w : World) (hq : w.cell? ⟨q, 0, none⟩ = some (.pointer (some ⟨r, 0, none⟩))) :
    CallsD Tryd.prog 42 #[.pointer (some ⟨q, 0, none⟩)] (.panicking ({ v := stopV r, recovered := false } :: older)) w fun e u' w' =>
      e = .returned (.tuple #[]) ∧ u' = .panicking ({ v := stopV r, recovered := true } :: older) ∧ Below w.heap.size w w' := by
  refine callsD_of_wpS Tryd.func42 rfl fun c₀ cs hu => ?_
  apply wpS_seq
  apply wpS_region
  simp [wpOpsS, go_sem, recoverD, hu, Tryd.ntmps42, Exit.thenS]
  rw [slots17]
  refine wpS_of_wp ?_
  have h1 := stop_eql r
  have h2 := stop_assert r
  have h3 := stop_neq r
  have hb : Hid (Below w.heap.size w (w.alloc (.cells #[.pointer (some ⟨r, 0, none⟩)] 92))) := Lib.hid ((Below.refl _ _).alloc (Nat.le_refl _) _)
  have hq2 : (w.alloc (.cells #[.pointer (some ⟨r, 0, none⟩)] 92)).cell? ⟨q, 0, none⟩ = some (.pointer (some ⟨r, 0, none⟩)) := (hb.out.cell (p := ⟨q, 0, none⟩) (block_lt_of_cell hq)).trans hq
  go_wp2
  refine ⟨rfl, .panicking ({ v := stopV r, recovered := true } :: older), rfl, .tuple #[], ?_, rfl, rfl, hb.out⟩
  exact results_none rfl _ _ _
theorem closeO_any (q r : Nat) (v0 v1 v2 v3 : Value) (w : World) (hq : w.cell? ⟨q, 0, none⟩ = some (.pointer (some ⟨r, 0, none⟩))) (hr : Blk w r 68 #[v0, v1, v2, v3]) :
    CallsD Tryd.prog 27 #[.pointer (some ⟨q, 0, none⟩)] .returning w fun e u' w' => u' = .returning ∧ (e = .returned (.tuple #[]) ∧ w.grownBy w' (some r)) := by
  have HG : Hid (w.grownBy ((((w.setCell ⟨r, 0, none⟩ (.slice none 0 0)).setCell ⟨r, 1, none⟩ (.bool false)).setCell ⟨r, 2, none⟩ (.bool false)).setCell ⟨r, 3, none⟩ .nilIface) (some r)) := Lib.hid (only_setCell (p := ⟨r, 3, none⟩) (only_setCell (p := ⟨r, 2, none⟩) (only_setCell (p := ⟨r, 1, none⟩) (only_setCell (p := ⟨r, 0, none⟩) (World.grownBy.refl w (some r)) (Or.inl rfl) _) (Or.inl rfl) _) (Or.inl rfl) _) (Or.inl rfl) _)
  have c0 : w.cell? ⟨r, 0, none⟩ = some v0 := hr.cell 0
  have c1 : w.cell? ⟨r, 1, none⟩ = some v1 := hr.cell 1
  have c2 : w.cell? ⟨r, 2, none⟩ = some v2 := hr.cell 2
  have c3 : w.cell? ⟨r, 3, none⟩ = some v3 := hr.cell 3
  have z0 := hr.frozen 0
  have z1 := hr.frozen 1
  have z2 := hr.frozen 2
  have z3 := hr.frozen 3
  clear hr
  go_enter_d Tryd.func27, Tryd.ntmps27
  go_wp2
  go_end0
  exact ⟨rfl, HG.out⟩
theorem runO_ok (K : Nat) (cap : Array Value) (r : Nat) (w : World) (R : Array Value → World → Prop) (hK : ∀ args w, (callFunc K args).run Tryd.prog w = .ok (.enter K args) w)
    (hread : Calls Tryd.prog K (#[.pointer (some ⟨w.heap.size + 2, 0, none⟩)] ++ cap) (runBoxO w r) fun e w' => ∃ cs, e = .returned (.agg cs) ∧ cs.size = 36 ∧ cs.all (·.oneCell') = true ∧ Blk w' (w.heap.size + 1) 30 zOc ∧ R cs w')
    (hR : ∀ cs a b, R cs a → a.grownBy b (some (w.heap.size + 1)) → R cs b) :
    Calls Tryd.prog 28 #[.pointer (some ⟨r, 0, none⟩), .func (.func K) #[] cap] w fun e w' => ∃ cs, e = .returned (.agg cs) ∧ cs.size = 36 ∧ R cs w' := by
  have hmf : ∀ (fn : Fn) (first cap : Array Value) (w : World), (Instr.makeFunc fn first cap).run Tryd.prog w = .ok (.func fn first cap) w := fun _ _ _ _ => rfl
  go_enter_defers Tryd.func28, Tryd.ntmps28
  go_wp2_with (refine hread.mono ?_; rintro e w1 ⟨cs, rfl, hs, h1, hb, hr⟩; have HR := Lib.hid hr; have HB := Lib.hid hb; have HS := Lib.hid hs; have HO := Lib.hid h1; clear hr hb hs h1; refine pause ?_)
  unfold Paused
  go_wp2_with (with_reducible (show wpList _ _ _ (Oper.mk _ (Op.store 30 _ _) _ _ _ _ :: _) _ _); refine pause ?_)
  unfold Paused
  refine wpList_store_row (by rfl) 30 (.tmp 4) (.tmp 10) (by rfl) (w.heap.size + 1) cs (by rfl) (by rfl) 30 zOc HB.out (by rw [HS.out]; kernel_rfl) (by rw [HS.out]; rfl) HO.out ?_
  have HB2 := Lib.hid (HB.out.row cs)
  have HG := Lib.hid (show w1.grownBy (w1.setRow (w.heap.size + 1) cs) (some (w.heap.size + 1)) from ⟨rfl, rfl, rfl, by simp, fun k _ hk => setRow_other w1 _ k _ (fun e => hk (by rw [e]))⟩)
  generalize w1.setRow (w.heap.size + 1) cs = w2 at HB2 HG ⊢
  go_wp2
  refine leaves_cons (f := 42) (args := #[.pointer (some ⟨w.heap.size, 0, none⟩)]) (by simp) (by simp [go_sem]) ?_
  refine (catchO_idle w.heap.size _).mono ?_
  rintro e u' w'' ⟨rfl, rfl, rfl⟩
  refine ⟨_, resultsO (t := 4) rfl (by rfl) HB2.out HS.out, ?_⟩
  exact ⟨cs, rfl, HS.out, hR _ _ _ HR.out HG.out⟩
theorem runO_bad (K : Nat) (cap : Array Value) (r : Nat) (w : World) (R : World → Prop) (hK : ∀ args w, (callFunc K args).run Tryd.prog w = .ok (.enter K args) w)
    (hread : Calls Tryd.prog K (#[.pointer (some ⟨w.heap.size + 2, 0, none⟩)] ++ cap) (runBoxO w r) fun e w' => e = .panicked [{ v := stopV r, recovered := false }] ∧ Blk w' (w.heap.size + 1) 30 zOc ∧ R w')
    (hq : ∀ a, R a → a.cell? ⟨w.heap.size, 0, none⟩ = some (.pointer (some ⟨r, 0, none⟩))) (hR : ∀ a b, R a → Below a.heap.size a b → R b) :
    Calls Tryd.prog 28 #[.pointer (some ⟨r, 0, none⟩), .func (.func K) #[] cap] w fun e w' => e = .returned (.agg zOc) ∧ R w' := by
  have hmf : ∀ (fn : Fn) (first cap : Array Value) (w : World), (Instr.makeFunc fn first cap).run Tryd.prog w = .ok (.func fn first cap) w := fun _ _ _ _ => rfl
  go_enter_defers Tryd.func28, Tryd.ntmps28
  go_wp2_with (refine hread.mono ?_; rintro e w1 ⟨rfl, hb, hr⟩; have HR := Lib.hid hr; have HB := Lib.hid hb; clear hr hb)
  refine leaves_cons (f := 42) (args := #[.pointer (some ⟨w.heap.size, 0, none⟩)]) (by simp) (by simp [go_sem]) ?_
  refine (catchO_stop w.heap.size r [] _ (hq _ HR.out)).mono ?_
  rintro e u' w'' ⟨rfl, rfl, hb⟩
  exact ⟨_, resultsO (t := 4) rfl (by rfl) (HB.out.below hb HB.out.lt) (by rfl), rfl, hR _ _ HR.out hb⟩
end Go.Proofs.YtlgljdefileeoaaDoor
