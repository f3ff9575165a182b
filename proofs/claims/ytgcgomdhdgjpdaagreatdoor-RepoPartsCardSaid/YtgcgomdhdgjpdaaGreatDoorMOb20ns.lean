/- Links in general: the answer is a row of its own. -/
import Derived.Test.YtgcgomdhdgjpdaaGreatDoorMOb18s
import Derived.Test.YtgcgomdhdgjpdaaGreatDoorMZers
import Derived.Test.YtgcgomdhdgjpdaaGreatDoorMOb30s
import Derived.Test.YtgcgomdhdgjpdaaGreatDoorMUpto
import Derived.Test.YtgcgomdhdgjpdaaGreatDoorMOb29
namespace Go.Proofs.YtgcgomdhdgjpdaaGreatDoor
open Go Go.RowKit
theorem own_lowL {w : World} {m m' z n : Nat} {e : TypeId} {v : Value} {us : List Value} (h : w.ownsRow m e z v n us) (hm : m' ≤ m) : w.ownsRow m' e z v n us := by
 refine ⟨h.1, ?_⟩
 rcases h.2 with hn | ⟨g, cap, cur, rfl, hb, rest⟩
 ·exact .inl hn
 ·exact .inr ⟨g, cap, cur, rfl, by omega, rest⟩
set_option maxRecDepth 100000 in
set_option maxHeartbeats 4000000 in
theorem links_own (o : Ob) (cs : Array Value) (T E P : Option Addr) (tc ec pc : Nat) (w : World) (h : ObC w o cs T tc E ec P pc) (hf : o.Fit) (hz : o.ents.length ≤ 1000 ∧ o.pars.length ≤ 1000) :
  Calls Tryz.prog 146 #[.agg cs] w fun e w' => ∃ v, e = .returned v ∧ w'.ownsRow w.heap.size 41 32 v o.links.length (cellsP o.links) ∧ Below w.heap.size w w' := by
 obtain ⟨w2, hw2⟩ : ∃ w2, w2 = w.alloc (.cells cs 183) := ⟨_, rfl⟩
 have X1 : Box w w2 w.heap.size 183 cs := hw2 ▸ Box.new w _ cs
 have HC := Lib.hid (h.below X1.bel (Nat.le_refl _))
 have HF := Lib.hid hf
 have HZ := Lib.hid hz
 have HX := Lib.hid X1
 have K0 := Lib.hid h.c0
 have K2 := Lib.hid h.c2
 have K3 := Lib.hid (h.c35 hf)
 have HTG := Lib.hid hf.target
 obtain ⟨ip, hip, hpz, hps, hpb⟩ := info_parts ioid_info
 have HIP := Lib.hid (And.intro hip (And.intro hpz (And.intro hps hpb)))
 have a2 : w2.cell? ⟨w.heap.size, 2, none⟩ = some (.slice E o.ents.length ec) := (X1.at_.cell 2).trans K2.out
 have HL0 : Hid (LkW w2 w2 nilV ((o.ents.take 0).map (·.id))) := Lib.hid ⟨World.ownsRow_nil _ _ _ _, Below.refl _ _⟩
 have HLE := Lib.hid (show o.ents.length ≤ 1000 ∧ o.pars.length ≤ 1000 from hz)
 have e2 := hw2.symm
 clear h hf hz X1 hw2 hip hpz hps hpb
 go_enter Tryz.func146, Tryz.ntmps146
 go_wp2
 clear a2
 go_loopw [3, 9] (fun v i wr => ∃ k : Nat, k ≤ o.ents.length ∧ i = .int .i64 k ∧ Hid (LkW w2 wr v ((o.ents.take k).map (·.id)))) (fun _ i _ => o.ents.length - (intOf i).toNat)
 case atStart => exact ⟨0, Nat.zero_le _, rfl, HL0⟩
 case round =>
  obtain ⟨k, hk, rfl, HL⟩ := hrel
  by_cases hlt : k < o.ents.length
  ·obtain ⟨sb, so, rfl, _, hsr⟩ := (HC.out.ents.below HL.out.bel (Nat.le_refl _)).ent rfl HF.out.ents hlt
   have HSR := Lib.hid hsr
   have HID := Lib.hid (HF.out.ents _ (List.getElem_mem hlt))
   have HTK := Lib.hid (ids_take hlt)
   have HKL : Hid (((o.ents.take k).map (·.id)).length = k) := Lib.hid (by rw [List.length_map, List.length_take]; omega)
   clear hsr
   obtain ⟨en, hen⟩ : ∃ en, en = o.ents[k] := ⟨_, rfl⟩
   rw [← hen] at HSR HID HTK
   clear hen
   have i1 : ((k : Nat) : Int) < o.ents.length := by omega
   have i2 : (0 : Int) ≤ ((k : Nat) : Int) := by omega
   have i3 : ((k : Nat) : Int) < 1000 := by have := HLE.out; omega
   go_wp2_with (with_reducible (show wpList _ _ _ (Oper.mk _ (Op.load 245 _) _ _ _ _ :: _) _ _); refine pause ?_)
   unfold Paused
   refine wpList_mid_w (by rfl) 245 (.tmp 11) (by rfl) sb (so + k * 33) (by rfl) _ _ HSR.out Tryz.underlying245 (by rfl) (by rw [cellsE1_len HID.out]; kernel_rfl) ?_
   go_wp2_with (with_reducible (show wpList _ _ _ (Oper.mk _ (Op.store 245 _ _) _ _ _ _ :: _) _ _); refine pause ?_)
   unfold Paused
   change wpList _ _ _ _ _ (wr.alloc (.cells (cellsE1 ⟨⟨#[]⟩, List.replicate 32 0⟩).toArray 245))
   refine wpList_store_row (by rfl) 245 (.tmp 5) (.tmp 12) (by rfl) wr.heap.size (cellsE1 en).toArray (by rfl) (by rfl) 245 (cellsE1 ⟨⟨#[]⟩, List.replicate 32 0⟩).toArray (Blk.new wr _ _) (by rw [List.size_toArray, cellsE1_len HID.out]; kernel_rfl) (by rw [List.size_toArray, List.size_toArray, cellsE1_len HID.out]; rfl) (arr_one (cellsE1_one en)) ?_
   have HLa : Hid (LkW w2 ((wr.alloc (.cells (cellsE1 ⟨⟨#[]⟩, List.replicate 32 0⟩).toArray 245)).setRow wr.heap.size (cellsE1 en).toArray) u3 ((o.ents.take k).map (·.id))) := Lib.hid ⟨own_farRow (g := wr.heap.size) (HL.out.own.alloc _) (fun k hk => by have := (HL.out.own.lt k hk).2; omega) _, below_next HL.out.bel (below_row ((Below.refl _ _).alloc (Nat.le_refl _) _) (Nat.le_refl _) _)⟩
   have HXa := Lib.hid ((Blk.new wr 245 (cellsE1 ⟨⟨#[]⟩, List.replicate 32 0⟩).toArray).row (cellsE1 en).toArray)
   generalize World.setRow _ wr.heap.size (cellsE1 en).toArray = wa at HLa HXa ⊢
   generalize wr.heap.size = gx at HXa ⊢
   simp only [Act.put]
   go_wp2_with (with_reducible (show wpList _ _ _ (Oper.mk _ (Op.load 41 _) _ _ _ _ :: _) _ _); refine pause ?_)
   unfold Paused
   refine wpList_mid_w (by rfl) 41 (.tmp 14) (by rfl) gx 1 (by rfl) _ _ (ent_idx en HXa.out) Tryz.underlying41 (by rfl) (by rw [cellsP1_len HID.out]; kernel_rfl) ?_
   go_wp2_with (with_reducible (show wpList _ _ _ (Oper.mk _ (Op.buildSlice _ _ _) _ _ _ _ :: _) _ _); refine pause ?_)
   unfold Paused
   refine wpList_buildSliceK (by rfl) 106 41 1 _ (by rfl) (cellsB (en.id)).toArray ip (.agg (cellsB (List.replicate 32 0)).toArray) Tryz.underlying106 HIP.out.1 HIP.out.2.1 (by rw [HIP.out.2.2.1]; decide) (by rw [HIP.out.2.2.1]; decide) _ (by kernel_rfl) (by rw [HIP.out.2.2.1]; exact fill_one 32 (Value.agg (cellsB (List.replicate 32 0)).toArray).cells _ (cellsP1_len HID.out) (by rfl)) ?_
   have HOx7 := Lib.hid (HLa.out.own.alloc (.cells (cellsB (en.id)).toArray 41))
   have HXx7 := Lib.hid (Blk.new wa 41 (cellsB (en.id)).toArray)
   have HBx7 := Lib.hid (below_next HLa.out.bel (show Below wa.heap.size wa (wa.alloc (.cells (cellsB (en.id)).toArray 41)) from (Below.refl _ _).alloc (Nat.le_refl _) _))
   generalize wa.alloc (.cells (cellsB (en.id)).toArray 41) = wb at HOx7 HXx7 HBx7 ⊢
   generalize wa.heap.size = gs at HXx7 ⊢
   go_wp2_with (with_reducible (show wpList _ _ _ (Oper.mk _ (Op.call (Call.mk (Callee.builtin Builtin.append) _ _)) _ _ _ _ :: _) _ _); refine pause ?_)
   unfold Paused
   have HOk : Hid (wb.ownsRow w2.heap.size 41 32 u3 k (cellsP ((o.ents.take k).map (·.id)))) := Lib.hid (by have h := HOx7.out; rwa [HKL.out] at h)
   have HN1 : Hid (k + 1 ≤ maxLen ∧ (k + 1) * 32 ≤ 140737488355328) := Lib.hid (by have := HLE.out; unfold maxLen; constructor <;> omega)
   have hcl : ∀ (j : Nat) u, (cellsB en.id)[j]? = some u → wb.cell? ((⟨gs, 0, none⟩ : Addr).add j) = some u := fun j u hj => by rw [Addr.add_mid, Nat.zero_add, HXx7.out.cell j]; simpa using hj
   have HCL := Lib.hid hcl
   clear hcl
   refine wpList_append_own _ (by rfl) (.tmp 13) (.tmp 16) 106 (by rfl) w2.heap.size 41 ip _ 32 32 Tryz.underlying106 HIP.out.1 HIP.out.2.1 HIP.out.2.2.1 HIP.out.2.2.2 (by rfl) (by decide) u3 k _ (by rfl) HOk.out ⟨gs, 0, none⟩ 1 1 (cellsB (en.id)) (by rfl) (by rw [cellsP1_len HID.out]) HCL.out (cellsB_one _) HN1.out.1 HN1.out.2 HBx7.out.size ?_
   intro v7 w7 ho7 hg7 _
   have HLn : Hid (LkW w2 w7 v7 ((o.ents.take (k + 1)).map (·.id))) := Lib.hid ⟨by rw [HTK.out, List.length_append, cellsP_snoc, HKL.out]; exact ho7, below_own HBx7.out HOk.out (Nat.le_refl _) hg7⟩
   clear ho7 hg7
   go_wp2
   go_roundw
   case rel => exact ⟨k + 1, by omega, by go_num, HLn⟩
   case measure => simp [intOf]; omega
  ·obtain rfl : k = o.ents.length := by omega
   have HLz : Hid (LkW w2 wr u3 (o.ents.map (·.id))) := Lib.hid (by have h := HL.out; rwa [List.take_of_length_le (Nat.le_refl _)] at h)
   have a0 : wr.cell? ⟨w.heap.size, 0, none⟩ = some (.int .i64 o.kind) := ((HX.out.at_.below HLz.out.bel HX.out.at_.lt).cell 0).trans K0.out
   have CA := aims_any o.kind wr
   have ik : ¬ ((o.ents.length : Nat) : Int) < o.ents.length := by omega
   by_cases ha : aimsB o.kind = true
   ·have HFL : Hid (o.links = (o.ents.map (·.id) ++ [o.target]) ++ o.pars) := Lib.hid (by unfold Ob.links; rw [if_pos ha])
    rw [ha] at CA
    clear ha HL
    go_wp2_with (first
     | (go_at_call 173; refine CA.mono ?_; rintro e wn ⟨rfl, rfl⟩)
     | (with_reducible (show wpList _ _ _ (Oper.mk _ (Op.load 41 _) _ _ _ _ :: _) _ _); refine pause ?_))
    unfold Paused
    refine wpList_mid_w (by rfl) 41 (.tmp 23) (by rfl) w.heap.size 3 (by rfl) _ _ (tgt_idx (HX.out.at_.below HLz.out.bel HX.out.at_.lt) (ob_mid HC.out)) Tryz.underlying41 (by rfl) (by rw [cellsP1_len HTG.out]; kernel_rfl) ?_
    go_wp2_with (with_reducible (show wpList _ _ _ (Oper.mk _ (Op.buildSlice _ _ _) _ _ _ _ :: _) _ _); refine pause ?_)
    unfold Paused
    refine wpList_buildSliceK (by rfl) 106 41 1 _ (by rfl) (cellsB (o.target)).toArray ip (.agg (cellsB (List.replicate 32 0)).toArray) Tryz.underlying106 HIP.out.1 HIP.out.2.1 (by rw [HIP.out.2.2.1]; decide) (by rw [HIP.out.2.2.1]; decide) _ (by kernel_rfl) (by rw [HIP.out.2.2.1]; exact fill_one 32 (Value.agg (cellsB (List.replicate 32 0)).toArray).cells _ (cellsP1_len HTG.out) (by rfl)) ?_
    have HOx := Lib.hid (HLz.out.own.alloc (.cells (cellsB (o.target)).toArray 41))
    have HXx := Lib.hid (Blk.new wr 41 (cellsB (o.target)).toArray)
    have HBx := Lib.hid (below_next HLz.out.bel (show Below wr.heap.size wr (wr.alloc (.cells (cellsB (o.target)).toArray 41)) from (Below.refl _ _).alloc (Nat.le_refl _) _))
    generalize wr.alloc (.cells (cellsB (o.target)).toArray 41) = wb at HOx HXx HBx ⊢
    generalize wr.heap.size = gs at HXx ⊢
    go_wp2_with (with_reducible (show wpList _ _ _ (Oper.mk _ (Op.call (Call.mk (Callee.builtin Builtin.append) _ _)) _ _ _ _ :: _) _ _); refine pause ?_)
    unfold Paused
    have HKL : Hid ((o.ents.map (·.id)).length = o.ents.length) := Lib.hid (List.length_map ..)
    have HOk : Hid (wb.ownsRow w2.heap.size 41 32 u3 o.ents.length (cellsP (o.ents.map (·.id)))) := Lib.hid (by have h := HOx.out; rwa [HKL.out] at h)
    have HN1 : Hid (o.ents.length + 1 ≤ maxLen ∧ (o.ents.length + 1) * 32 ≤ 140737488355328) := Lib.hid (by have := HLE.out; unfold maxLen; constructor <;> omega)
    have hcl : ∀ (j : Nat) u, (cellsB o.target)[j]? = some u → wb.cell? ((⟨gs, 0, none⟩ : Addr).add j) = some u := fun j u hj => by rw [Addr.add_mid, Nat.zero_add, HXx.out.cell j]; simpa using hj
    have HCL := Lib.hid hcl
    clear hcl
    refine wpList_append_own _ (by rfl) (.tmp 22) (.tmp 25) 106 (by rfl) w2.heap.size 41 ip _ 32 32 Tryz.underlying106 HIP.out.1 HIP.out.2.1 HIP.out.2.2.1 HIP.out.2.2.2 (by rfl) (by decide) u3 o.ents.length _ (by rfl) HOk.out ⟨gs, 0, none⟩ 1 1 (cellsB (o.target)) (by rfl) (by rw [cellsP1_len HTG.out]) HCL.out (cellsB_one _) HN1.out.1 HN1.out.2 HBx.out.size ?_
    intro v7 w7 ho7 hg7 _
    have HL7 : Hid (LkW w2 w7 v7 (o.ents.map (·.id) ++ [o.target])) := Lib.hid ⟨by rw [List.length_append, cellsP_snoc, HKL.out]; exact ho7, below_own HBx.out HOk.out (Nat.le_refl _) hg7⟩
    clear ho7 hg7 a0 CA
    have HP9 : Hid (RdK w7 (.slice P o.pars.length pc) o.pars.length (cellsP o.pars)) := Lib.hid (HC.out.pars.below HL7.out.bel (Nat.le_refl _))
    obtain ⟨v9, w9, hr9, hl9⟩ := app_pars HL7.out HP9.out HF.out.pars (by have h1 := HLE.out; simp only [List.length_append, List.length_map, List.length_cons, List.length_nil]; omega) HLE.out.2 106
    have HR9 := Lib.hid hr9
    have HL9 := Lib.hid hl9
    have a5 : w7.cell? ⟨w.heap.size, 35, none⟩ = some (.slice P o.pars.length pc) := ((HX.out.at_.below HL7.out.bel HX.out.at_.lt).cell 35).trans K3.out
    clear hr9 hl9
    go_wp2_with (at_builtin; go_loud (refine Lib.wpList_append_run_sl _ rfl (.tmp 27) (.tmp 29) _ rfl _ _ rfl rfl HR9.out ?_))
    go_ret
    exact ⟨_, rfl, by rw [HFL.out]; exact own_lowL HL9.out.own HX.out.bel.size, (HX.out.bel).trans (HL9.out.bel.mono HX.out.bel.size)⟩
   ·have ha' : aimsB o.kind = false := by simpa using ha
    have HFL : Hid (o.links = o.ents.map (·.id) ++ o.pars) := Lib.hid (by unfold Ob.links; rw [if_neg ha, List.append_nil])
    rw [ha'] at CA
    clear ha ha' HL
    have HP9 : Hid (RdK wr (.slice P o.pars.length pc) o.pars.length (cellsP o.pars)) := Lib.hid (HC.out.pars.below HLz.out.bel (Nat.le_refl _))
    obtain ⟨v9, w9, hr9, hl9⟩ := app_pars HLz.out HP9.out HF.out.pars (by have h1 := HLE.out; simp only [List.length_map]; omega) HLE.out.2 106
    have HR9 := Lib.hid hr9
    have HL9 := Lib.hid hl9
    have a5 : wr.cell? ⟨w.heap.size, 35, none⟩ = some (.slice P o.pars.length pc) := ((HX.out.at_.below HLz.out.bel HX.out.at_.lt).cell 35).trans K3.out
    clear hr9 hl9
    go_wp2_with (first
     | (go_at_call 173; refine CA.mono ?_; rintro e wn ⟨rfl, rfl⟩)
     | (at_builtin; go_loud (refine Lib.wpList_append_run_sl _ rfl (.tmp 27) (.tmp 29) _ rfl _ _ rfl rfl HR9.out ?_)))
    go_ret
    exact ⟨_, rfl, by rw [HFL.out]; exact own_lowL HL9.out.own HX.out.bel.size, (HX.out.bel).trans (HL9.out.bel.mono HX.out.bel.size)⟩
structure CSents (w : World) (a : Nat → Addr) : Prop where
 p : PSents w a
 g : w.cell? ⟨13, 0, none⟩ = some (ev (a 12))
theorem CSents.at_ {w0 w : World} {a : Nat → Addr} (h : CSents w0 a) (hb : Below w0.heap.size w0 w) : CSents w a :=
 ⟨h.p.at_ hb, (hb.cell (block_lt_of_cell h.g)).trans h.g⟩
def ndC (b : Bool) (k : Int) (v : Value) : Array Value := #[.bool b, .int .i64 k, v]
theorem nd_built3 (b : Bool) (k : Int) (A : Option Addr) (n c : Nat) : Tryz.prog.built 191 [(0, .bool b), (1, .int .i64 k), (2, .slice A n c)] = some (ndC b k (.slice A n c)) := by kernel_rfl
theorem nd_built1 (b : Bool) : Tryz.prog.built 191 [(0, .bool b)] = some (ndC b 0 (.slice none 0 0)) := by kernel_rfl
theorem nd_size : (Tryz.prog.info? 191).map (·.size) = some 3 := by kernel_rfl
theorem cl_obj36 {cs : Array Value} (h : cs.size = 36) : (Tryz.prog.info? 183).map (·.size) = some cs.size := by rw [h]; kernel_rfl
theorem nd_one (b : Bool) (k : Int) (A : Option Addr) (n c : Nat) : (ndC b k (.slice A n c)).all (·.oneCell') = true := by simp [ndC, Value.oneCell']
theorem parse_small {t : List Nat} {o : Ob} (hb : Oc.bytes t) (hp : Ob.parse t = .ok o) : o.ents.length ≤ 1000 ∧ o.pars.length ≤ 1000 := by
 obtain ⟨_, hr⟩ := parse_laid hb hp
 obtain ⟨nr, _⟩ := right_near hr
 exact ⟨by have := nr.ents; omega, by have := nr.pars; omega⟩
def LookPost (w : World) (objs : List (List Nat)) (id : List Nat) (e : Ending) (w' : World) : Prop :=
 ∃ v, e = .returned (.agg (ndC (Cl.the objs id) (Cl.knd objs id) v)) ∧ w'.ownsRow w.heap.size 41 32 v (Cl.lks objs id).length (cellsP (Cl.lks objs id)) ∧ Below w.heap.size w w'
theorem look_res {fn : Func} {t : Tmp} (hr : fn.results = #[.cell t 191]) {tmps : Array Value} {W : World} {g : Nat} {cs : Array Value} (h4 : tmps.getD t undef = .pointer (some ⟨g, 0, none⟩)) (hb : Blk W g 191 cs) (hs : cs.size = 3) :
  (results fn tmps).run Tryz.prog W = .ok (.agg cs) W := by
 have hl : (loadVar 191 ⟨g, 0, none⟩).run Tryz.prog W = .ok (.agg cs) W := run_loadVar_row W g 191 191 cs (0, 0) _ hb Tryz.underlying191 (by rfl) (by rw [hs]; exact nd_size)
 simp only [Array.getD_eq_getD_getElem?] at h4
 simp [results, hr, h4, asAddr, hl]
set_option maxRecDepth 100000 in
set_option maxHeartbeats 4000000 in
theorem look_none (m nm : Nat) (f : List Nat → Option Value) (id : List Nat) (A : Option Addr) (n c : Nat) (b : Bool) (ae : Addr) (w : World) (hm : MapO w m nm f) (hid : Id32 id) (hf : (f id).getD (.slice none 0 0) = .slice A n c) (hb : (f id).isSome = b)
  (hP : ∀ w', Below w.heap.size w w' → Calls Tryz.prog 105 #[.slice A n c] w' fun e w'' => e = .returned (.tuple #[.agg zOc, ev ae]) ∧ Below w'.heap.size w' w'') :
  Calls Tryz.prog 111 #[.map (some m), .agg (u8s id)] w fun e w' => e = .returned (.agg (ndC b 0 (.slice none 0 0))) ∧ Below w.heap.size w w' := by
 obtain ⟨w2, hw2⟩ : ∃ w2, w2 = (w.alloc (.cells (u8s id) 41)).alloc (.cells #[.bool false, .int .i64 0, .slice none 0 0] 191) := ⟨_, rfl⟩
 have b2 : Below w.heap.size w w2 := hw2 ▸ ((Below.refl _ _).alloc (Nat.le_refl _) _).alloc (by simp) _
 have HI : Hid (Blk w2 w.heap.size 41 (u8s id)) := Lib.hid (hw2 ▸ (Blk.new w _ _).alloc _)
 have HZ : Hid (Blk w2 (w.heap.size + 1) 191 #[.bool false, .int .i64 0, .slice none 0 0]) := Lib.hid (by rw [hw2]; have h := Blk.new (w.alloc (.cells (u8s id) 41)) 191 #[.bool false, .int .i64 0, .slice none 0 0]; rwa [World.size_alloc] at h)
 have HB2 := Lib.hid b2
 have q2 := (hm.below b2).look_ok Tryz.underlying160 (cl_zero_bytes w2) hid
 rw [hf, hb] at q2
 have CP := hP w2 b2
 have HID := Lib.hid hid
 have e2 := hw2.symm
 clear hm hid hf hb hP hw2 b2
 go_enter Tryz.func111, Tryz.ntmps111
 go_wp2_with (with_reducible (show wpList _ _ _ (Oper.mk _ (Op.load 41 _) _ _ _ _ :: _) _ _); refine pause ?_)
 unfold Paused
 refine wpList_row_w (by rfl) 41 (.tmp 3) (by rfl) w.heap.size (by rfl) 41 (u8s id) _ HI.out Tryz.underlying41 (by rfl) (by rw [u8s_size, HID.out.1]; exact cl_oid_load) ?_
 go_wp2_with (go_at_call 105; refine pause ?_)
 unfold Paused
 refine CP.mono ?_
 rintro e w5 ⟨rfl, hb5⟩
 have HB5 := Lib.hid (below_next HB2.out hb5)
 have HZ5 := Lib.hid (HZ.out.below hb5 HZ.out.lt)
 clear hb5 CP q2
 go_wp2_with (with_reducible (show wpList _ _ _ (Oper.mk _ (Op.store 183 _ _) _ _ _ _ :: _) _ _); refine pause ?_)
 unfold Paused
 change wpList _ _ _ _ _ (w5.alloc (.cells zOc 183))
 refine wpList_store_row (by rfl) 183 (.tmp 7) (.tmp 18) (by rfl) w5.heap.size zOc (by rfl) (by rfl) 183 zOc (Blk.new w5 _ _) (cl_obj36 (by kernel_rfl)) (by rfl) (by kernel_rfl) ?_
 have b6 : Below w5.heap.size w5 ((w5.alloc (.cells zOc 183)).setRow w5.heap.size zOc) := below_row ((Below.refl _ _).alloc (Nat.le_refl _) _) (Nat.le_refl _) _
 have HB6 := Lib.hid (below_next HB5.out b6)
 have HZ6 := Lib.hid (HZ5.out.below b6 HZ5.out.lt)
 clear b6
 generalize (w5.alloc (.cells zOc 183)).setRow w5.heap.size zOc = w6 at HB6 HZ6 ⊢
 simp only [Act.put]
 go_wp2_with (with_reducible (show wpList _ _ _ (Oper.mk _ (Op.build 191 _) _ _ _ _ :: _) _ _); refine pause ?_)
 unfold Paused
 refine wpList_buildK (by rfl) 191 _ (by rfl) [(0, .bool b)] (by kernel_rfl) _ (nd_built1 b) ?_
 go_wp2_with (with_reducible (show wpList _ _ _ (Oper.mk _ (Op.store 191 _ _) _ _ _ _ :: _) _ _); refine pause ?_)
 unfold Paused
 refine wpList_store_row (by rfl) 191 (.tmp 4) (.tmp 23) (by rfl) (w.heap.size + 1) (ndC b 0 (.slice none 0 0)) (by rfl) (by rfl) 191 #[.bool false, .int .i64 0, .slice none 0 0] HZ6.out (by exact nd_size) (by rfl) (nd_one b 0 none 0 0) ?_
 have HX := Lib.hid (HZ6.out.row (ndC b 0 (.slice none 0 0)))
 have HBx := Lib.hid (below_of_only HB6.out (only_setRow (World.grownBy.refl w6 _) (Or.inl rfl) (ndC b 0 (.slice none 0 0)) : w6.grownBy _ (some (w.heap.size + 1))) (by omega))
 generalize w6.setRow (w.heap.size + 1) (ndC b 0 (.slice none 0 0)) = w7 at HX HBx ⊢
 simp only [Act.put]
 go_wp2
 exact bodyPost_ret (v := .agg (ndC b 0 (.slice none 0 0))) (look_res (t := 4) rfl (by rfl) HX.out (by rfl)) rfl ⟨rfl, HBx.out⟩
set_option maxRecDepth 100000 in
set_option maxHeartbeats 4000000 in
theorem look_some (m nm : Nat) (f : List Nat → Option Value) (id : List Nat) (o : Ob) (t : List Nat) (A : Option Addr) (n c : Nat) (a : Nat → Addr) (w : World) (hm : MapO w m nm f) (hid : Id32 id) (hf : f id = some (.slice A n c)) (hv : Rd w (.slice A n c) t) (hb : Sha.Byte t) (hz : t.length ≤ 300) (hS : CSents w a) (hp : Ob.parse t = .ok o) :
  Calls Tryz.prog 111 #[.map (some m), .agg (u8s id)] w fun e w' => ∃ v, e = .returned (.agg (ndC true o.kind v)) ∧ w'.ownsRow w.heap.size 41 32 v o.links.length (cellsP o.links) ∧ Below w.heap.size w w' := by
 obtain ⟨w2, hw2⟩ : ∃ w2, w2 = (w.alloc (.cells (u8s id) 41)).alloc (.cells #[.bool false, .int .i64 0, .slice none 0 0] 191) := ⟨_, rfl⟩
 have b2 : Below w.heap.size w w2 := hw2 ▸ ((Below.refl _ _).alloc (Nat.le_refl _) _).alloc (by simp) _
 have HI : Hid (Blk w2 w.heap.size 41 (u8s id)) := Lib.hid (hw2 ▸ (Blk.new w _ _).alloc _)
 have HZ : Hid (Blk w2 (w.heap.size + 1) 191 #[.bool false, .int .i64 0, .slice none 0 0]) := Lib.hid (by rw [hw2]; have h := Blk.new (w.alloc (.cells (u8s id) 41)) 191 #[.bool false, .int .i64 0, .slice none 0 0]; rwa [World.size_alloc] at h)
 have HB2 := Lib.hid b2
 have q2 := (hm.below b2).look_ok Tryz.underlying160 (cl_zero_bytes w2) hid
 rw [hf] at q2
 simp only [Option.getD_some, Option.isSome_some] at q2
 have CP := oparse_ok o t a (.slice A n c) w2 (hv.below b2 (Nat.le_refl _)) (Oc.bytes_of hb) hz (hS.p.at_ b2) hp
 have HSM : Hid (o.ents.length ≤ 1000 ∧ o.pars.length ≤ 1000) := Lib.hid (parse_small (Oc.bytes_of hb) hp)
 have HID := Lib.hid hid
 have e2 := hw2.symm
 clear hm hid hf hv hb hz hS hp hw2 b2
 go_enter Tryz.func111, Tryz.ntmps111
 go_wp2_with (with_reducible (show wpList _ _ _ (Oper.mk _ (Op.load 41 _) _ _ _ _ :: _) _ _); refine pause ?_)
 unfold Paused
 refine wpList_row_w (by rfl) 41 (.tmp 3) (by rfl) w.heap.size (by rfl) 41 (u8s id) _ HI.out Tryz.underlying41 (by rfl) (by rw [u8s_size, HID.out.1]; exact cl_oid_load) ?_
 go_wp2_with (go_at_call 105; refine pause ?_)
 unfold Paused
 refine CP.mono ?_
 rintro e w5 ⟨cs, T, tc, E, ec, P, pc, rfl, hfit, _, hob, hb5⟩
 have HOB := Lib.hid (hob.obc)
 have HFIT := Lib.hid hfit
 have H36 := Lib.hid (HOB.out.size hfit)
 have H1 : Hid (cs.all (·.oneCell') = true) := Lib.hid hob.one
 have HB5 := Lib.hid (below_next HB2.out hb5)
 have HZ5 := Lib.hid (HZ.out.below hb5 HZ.out.lt)
 clear hb5 CP q2 hob hfit
 go_wp2_with (with_reducible (show wpList _ _ _ (Oper.mk _ (Op.store 183 _ _) _ _ _ _ :: _) _ _); refine pause ?_)
 unfold Paused
 change wpList _ _ _ _ _ (w5.alloc (.cells zOc 183))
 refine wpList_store_row (by rfl) 183 (.tmp 7) (.tmp 18) (by rfl) w5.heap.size cs (by rfl) (by rfl) 183 zOc (Blk.new w5 _ _) (cl_obj36 H36.out) (by rw [H36.out]; rfl) H1.out ?_
 have b6 : Below w5.heap.size w5 ((w5.alloc (.cells zOc 183)).setRow w5.heap.size cs) := below_row ((Below.refl _ _).alloc (Nat.le_refl _) _) (Nat.le_refl _) _
 have HB6 := Lib.hid (below_next HB5.out b6)
 have HZ6 := Lib.hid (HZ5.out.below b6 HZ5.out.lt)
 have HX6 : Hid (Blk ((w5.alloc (.cells zOc 183)).setRow w5.heap.size cs) w5.heap.size 183 cs) := Lib.hid ((Blk.new w5 _ _).row _)
 have HO6 := Lib.hid (HOB.out.below b6 (Nat.le_refl _))
 clear b6
 generalize (w5.alloc (.cells zOc 183)).setRow w5.heap.size cs = w6 at HB6 HZ6 HX6 HO6 ⊢
 generalize w5.heap.size = g7 at HX6 ⊢
 simp only [Act.put]
 go_wp2_with fail
 have HSX : Hid (Blk w6.drew g7 183 cs) := Lib.hid HX6.out.drew
 have CL := links_own o cs T E P tc ec pc w6.drew (HO6.out.below (below_drewN (Below.refl _ w6) 1) (Nat.le_refl _)) HFIT.out HSM.out
 refine wp_region_upto (S := fun w' => Blk w' g7 183 cs) (b := 6) (by kernel_rfl) ?_
 change Upto _ _ _ _ _ _ _ _ _ w6.drew
 refine Upto.takeY (i := 0) (v := ?_) rfl (by kernel_rfl) (by kernel_rfl) (by kernel_rfl) (by kernel_rfl) (fun _ _ _ h => h) (Or.inl ⟨by rfl, ?_⟩) (fun _ => HSX.out) ?_
 rotate_left
 ·intro w' _; go_simp; with_reducible rfl
 try simp only [Act.put, List.getElem_toArray, List.getElem_cons_zero, List.setIfInBounds_toArray, List.set_cons_zero, List.set_cons_succ]
 refine Upto.takeY (i := 1) (v := ?_) rfl (by kernel_rfl) (by kernel_rfl) (by kernel_rfl) (by kernel_rfl) (fun _ _ _ h => h) (Or.inl ⟨by rfl, ?_⟩) (fun _ => HSX.out) ?_
 rotate_left
 ·intro w' _; go_simp; with_reducible rfl
 try simp only [Act.put, List.getElem_toArray, List.getElem_cons_zero, List.getElem_cons_succ, List.setIfInBounds_toArray, List.set_cons_zero, List.set_cons_succ]
 refine Upto.take (i := 2) (v := ?_) rfl (by kernel_rfl) (by kernel_rfl) (by kernel_rfl) (by kernel_rfl) (fun _ _ _ h => h) (Or.inl ⟨by rfl, ?_⟩) HSX.out ?_
 rotate_left
 ·intro w' hS; have h0 : w'.cell? ⟨g7, 0, none⟩ = some (.int .i64 o.kind) := (hS.cell 0).trans HO6.out.c0; go_simp; with_reducible rfl
 try simp only [Act.put, List.getElem_toArray, List.getElem_cons_zero, List.getElem_cons_succ, List.setIfInBounds_toArray, List.set_cons_zero, List.set_cons_succ]
 refine Upto.take (i := 3) (v := .agg (cs)) rfl (by kernel_rfl) (by kernel_rfl) (by kernel_rfl) (by kernel_rfl) (fun _ _ _ h => h) (takes_row 183 (.tmp 7) rfl (by rfl) g7 (by rfl) 183 (cs) _ (fun w' hS => hS) (by first | exact Tryz.underlying183 | kernel_rfl) (by rfl) (cl_obj36 H36.out)) HSX.out ?_
 try simp only [Act.put, List.getElem_toArray, List.getElem_cons_zero, List.getElem_cons_succ, List.setIfInBounds_toArray, List.set_cons_zero, List.set_cons_succ]
 refine Upto.one (i := 4) (by kernel_rfl) rfl (by rfl) (fun K hK => ?_)
 go_simp
 refine CL.mono ?_
 rintro e w7 ⟨v, rfl, hrk, hb7⟩
 have hx7 : Blk w7 g7 183 cs := HSX.out.below hb7 HSX.out.lt
 refine hK _ _ (fun _ _ => hx7) ?_
 try simp only [Act.put, List.getElem_toArray, List.getElem_cons_zero, List.getElem_cons_succ, List.setIfInBounds_toArray, List.set_cons_zero, List.set_cons_succ]
 obtain ⟨A8, n8, c8, rfl⟩ : ∃ A n c, v = .slice A n c := by obtain ⟨A, c, h, _⟩ := rdk_own hrk; exact ⟨A, _, c, h⟩
 have HB7 := Lib.hid (below_next (below_drewN HB6.out 1) hb7)
 have HZ7 := Lib.hid (HZ6.out.drew.below hb7 HZ6.out.drew.lt)
 have HRK := Lib.hid hrk
 clear hrk hb7 CL
 refine Upto.one (i := 5) (by kernel_rfl) rfl (by rfl) (fun K hK => ?_)
 refine wp_buildK 191 _ (by rfl) [(0, .bool true), (1, .int .i64 o.kind), (2, .slice A8 n8 c8)] (by go_simp) (ndC true o.kind (.slice A8 n8 c8)) (nd_built3 _ _ _ _ _) ?_
 refine hK _ _ (fun _ _ => hx7) ?_
 try simp only [Act.put, List.getElem_toArray, List.getElem_cons_zero, List.getElem_cons_succ, List.setIfInBounds_toArray, List.set_cons_zero, List.set_cons_succ]
 refine Upto.one (i := 6) (by kernel_rfl) rfl (by rfl) (fun K hK => ?_)
 refine wp_store_row 191 (.tmp 4) (.tmp 29) (by rfl) (w.heap.size + 1) (ndC true o.kind (.slice A8 n8 c8)) (by rfl) (by rfl) 191 #[.bool false, .int .i64 0, .slice none 0 0] HZ7.out (by exact nd_size) (by rfl) (nd_one _ _ _ _ _) ?_
 refine hK _ _ (fun h => absurd rfl h) ?_
 try simp only [Act.put, List.getElem_toArray, List.getElem_cons_zero, List.getElem_cons_succ]
 have HX := Lib.hid (HZ7.out.row (ndC true o.kind (.slice A8 n8 c8)))
 have hg8 : w7.grownBy (w7.setRow (w.heap.size + 1) (ndC true o.kind (.slice A8 n8 c8))) (some (w.heap.size + 1)) := only_setRow (World.grownBy.refl w7 _) (Or.inl rfl) (ndC true o.kind (.slice A8 n8 c8))
 have HBx := Lib.hid (below_of_only HB7.out hg8 (by omega))
 have HR8 : Hid ((w7.setRow (w.heap.size + 1) (ndC true o.kind (.slice A8 n8 c8))).ownsRow w.heap.size 41 32 (.slice A8 n8 c8) o.links.length (cellsP o.links)) := Lib.hid (own_lowL (HRK.out.kept hg8 (own_far HRK.out (by show w.heap.size + 1 < w6.heap.size; exact HZ6.out.lt))) (by show w.heap.size ≤ w6.heap.size; exact HB6.out.size))
 clear hg8 hx7
 generalize w7.setRow (w.heap.size + 1) (ndC true o.kind (.slice A8 n8 c8)) = w8 at HX HBx HR8 ⊢
 refine Upto.done (by kernel_rfl) ?_ _
 go_wp2
 exact bodyPost_ret (v := .agg (ndC true o.kind (.slice A8 n8 c8))) (look_res (t := 4) rfl (by rfl) HX.out (by rfl)) rfl ⟨_, rfl, HR8.out, HBx.out⟩
set_option maxRecDepth 100000 in
theorem look_any (m nm : Nat) (its : List Cl.T) (id : List Nat) (a : Nat → Addr) (w : World) (hm : MapO w m nm (fun id => (Cl.fst its id).map (·.val))) (hid : Id32 id) (hr : ∀ p ∈ its, Rd w p.val p.text ∧ Sha.Byte p.text) (hS : CSents w a) :
  Calls Tryz.prog 111 #[.map (some m), .agg (u8s id)] w (LookPost w (its.map (·.text)) id) := by
 have htx := Cl.fst_text its id
 cases hf : Cl.fst its id with
 | none =>
  rw [hf] at htx
  have e1 : Cl.the (its.map (·.text)) id = false := by unfold Cl.the; rw [← htx]; rfl
  have e2 : Cl.obAt (its.map (·.text)) id = none := by unfold Cl.obAt; rw [← htx]; rfl
  have e3 : Cl.knd (its.map (·.text)) id = 0 := by unfold Cl.knd; rw [e2]
  have e4 : Cl.lks (its.map (·.text)) id = [] := by unfold Cl.lks; rw [e2]
  refine (look_none m nm _ id none 0 0 false (a 1) w hm hid (by simp only [hf]; rfl) (by simp only [hf]; rfl) (fun w' hw => oparse_bad 2 [] a _ w' ⟨none, 0, rfl, Nat.le_refl _, fun h => absurd h (by simp)⟩ (by intro x hx; cases hx) (by simp) (hS.p.at_ hw) rfl)).mono ?_
  rintro e w' ⟨rfl, hb⟩
  exact ⟨.slice none 0 0, by rw [e1, e3], by rw [e4]; exact World.ownsRow_nil _ _ _ _, hb⟩
 | some t =>
  rw [hf] at htx
  obtain ⟨hmem, _⟩ := Cl.fst_mem hf
  obtain ⟨hrd, hby⟩ := hr t hmem
  obtain ⟨A, c, hv, _⟩ := hrd
  obtain ⟨hrd, _⟩ := hr t hmem
  rw [hv] at hrd
  have e1 : Cl.the (its.map (·.text)) id = true := by unfold Cl.the; rw [← htx]; rfl
  have e2 : Cl.obAt (its.map (·.text)) id = Cl.ob t.text := by unfold Cl.obAt; rw [← htx]; rfl
  by_cases hz : 300 < t.text.length
  ·have e0 : Cl.ob t.text = none := by unfold Cl.ob; rw [if_pos hz]
   have e3 : Cl.knd (its.map (·.text)) id = 0 := by unfold Cl.knd; rw [e2, e0]
   have e4 : Cl.lks (its.map (·.text)) id = [] := by unfold Cl.lks; rw [e2, e0]
   refine (look_none m nm _ id A t.text.length c true (a 12) w hm hid (by simp only [hf]; exact hv) (by simp only [hf]; rfl) (fun w' hw => oparse_large (a 12) t.text _ w' (hrd.below hw (Nat.le_refl _)) hz (hS.at_ hw).g)).mono ?_
   rintro e w' ⟨rfl, hb⟩
   exact ⟨.slice none 0 0, by rw [e1, e3], by rw [e4]; exact World.ownsRow_nil _ _ _ _, hb⟩
  ·cases hp : Ob.parse t.text with
   | bad k =>
    have e0 : Cl.ob t.text = none := by unfold Cl.ob; rw [if_neg hz, hp]
    have e3 : Cl.knd (its.map (·.text)) id = 0 := by unfold Cl.knd; rw [e2, e0]
    have e4 : Cl.lks (its.map (·.text)) id = [] := by unfold Cl.lks; rw [e2, e0]
    refine (look_none m nm _ id A t.text.length c true (a (k - 1)) w hm hid (by simp only [hf]; exact hv) (by simp only [hf]; rfl) (fun w' hw => oparse_bad k t.text a _ w' (hrd.below hw (Nat.le_refl _)) (Oc.bytes_of hby) (by omega) (hS.at_ hw).p hp)).mono ?_
    rintro e w' ⟨rfl, hb⟩
    exact ⟨.slice none 0 0, by rw [e1, e3], by rw [e4]; exact World.ownsRow_nil _ _ _ _, hb⟩
   | ok o =>
    have e0 : Cl.ob t.text = some o := by unfold Cl.ob; rw [if_neg hz, hp]
    have e3 : Cl.knd (its.map (·.text)) id = o.kind := by unfold Cl.knd; rw [e2, e0]
    have e4 : Cl.lks (its.map (·.text)) id = o.links := by unfold Cl.lks; rw [e2, e0]
    refine (look_some m nm _ id o t.text A t.text.length c a w hm hid (by simp only [hf]; rw [← hv]; rfl) hrd hby (by omega) hS hp).mono ?_
    rintro e w' ⟨v, rfl, ho, hb⟩
    exact ⟨v, by rw [e1, e3], by rw [e4]; exact ho, hb⟩
end Go.Proofs.YtgcgomdhdgjpdaaGreatDoor
