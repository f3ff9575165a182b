/- An entry as the document has it: cartagelaw10.Of. -/
import Derived.Test.YtjkneidoochfjaaGreatDoorMEn16s
import Derived.Test.YtjkneidoochfjaaGreatDoorMUptos
namespace Go.Proofs.YtjkneidoochfjaaGreatDoor
open Go Go.RowKit
/-- an entry is not more than is asked -/
def En.few (e : En.E) : Bool := decide (e.ups.length ≤ 20) && (!(En.long e.objs) && e.ups.all (fun u => decide (u.ref.size ≤ 100)))
def ecs (e : En.E) (v : Value) (O : Option Addr) (co : Nat) : Array Value := #[.int .i64 e.client, .int .i64 e.number, .int .i64 e.answer, v, .slice O e.objs.length co]
abbrev zR : Array Value := #[.int .i64 0, .int .i64 0, .int .i64 0, .slice none 0 0, .slice none 0 0]
theorem rup_places : (Tryz.prog.fieldsOf 58).toList.mapM (fun f => (Tryz.prog.info? f.type).map fun i => (f.offset, i.size)) = some [(0, 1), (1, 32), (33, 32)] := by kernel_rfl
theorem rup_zero : ((Tryz.prog.info? 58).bind (·.zero)).map (·.cells) = some (cellsU1 ⟨⟨#[]⟩, List.replicate 32 0, List.replicate 32 0⟩).toArray := by kernel_rfl
theorem rup_under : Tryz.prog.underlying 58 = some (.struct (Tryz.prog.fieldsOf 58)) := by kernel_rfl
theorem rup_fill (u : En.Up) (h : u.Fit) : Instr.fill (([(0, 1), (1, 32), (33, 32)] : List (Nat × Nat)).toArray[·]?) (cellsU1 ⟨⟨#[]⟩, List.replicate 32 0, List.replicate 32 0⟩).toArray [(0, .string u.ref), (1, .agg (cellsB u.old).toArray), (2, .agg (cellsB u.new).toArray)] = some (cellsU1 u).toArray := by
  have e1 := fill_part (fun i => ([(0, 1), (1, 32), (33, 32)] : List (Nat × Nat)).toArray[i]?) 0 0 1 (.string u.ref) [(1, .agg (cellsB u.old).toArray), (2, .agg (cellsB u.new).toArray)] [.string u.ref] [.string ⟨#[]⟩] [] (cellsB (List.replicate 32 0) ++ cellsB (List.replicate 32 0)) rfl rfl rfl rfl rfl
  have e2 := fill_part (fun i => ([(0, 1), (1, 32), (33, 32)] : List (Nat × Nat)).toArray[i]?) 1 1 32 (.agg (cellsB u.old).toArray) [(2, .agg (cellsB u.new).toArray)] (cellsB u.old) (cellsB (List.replicate 32 0)) [.string u.ref] (cellsB (List.replicate 32 0)) rfl rfl (by rw [cellsB_len, h.1.1]) (by rw [cellsB_len]; rfl) rfl
  have e3 := fill_part (fun i => ([(0, 1), (1, 32), (33, 32)] : List (Nat × Nat)).toArray[i]?) 2 33 32 (.agg (cellsB u.new).toArray) [] (cellsB u.new) (cellsB (List.replicate 32 0)) (.string u.ref :: cellsB u.old) [] rfl rfl (by rw [cellsB_len, h.2.1]) (by rw [cellsB_len]; rfl) (by rw [List.length_cons, cellsB_len, h.1.1])
  rw [List.append_nil, List.append_nil] at e3
  exact e1.trans (e2.trans e3)
theorem rup_built (u : En.Up) (h : u.Fit) : Tryz.prog.built 58 [(0, .string u.ref), (1, .agg (cellsB u.old).toArray), (2, .agg (cellsB u.new).toArray)] = some (cellsU1 u).toArray := by
  rw [built_of rup_under rup_zero rup_places]
  exact rup_fill u h
theorem rup_info : (Tryz.prog.info? 58).map (fun i => (i.zero, i.size, i.bytes)) = some (some (.agg (cellsU1 ⟨⟨#[]⟩, List.replicate 32 0, List.replicate 32 0⟩).toArray), 65, 80) := by kernel_rfl
theorem rent5_load {cs : Array Value} (h : cs.size = 5) : (Tryz.prog.info? 29).map (·.size) = some cs.size := by rw [h]; kernel_rfl
theorem rent5_built (x y z : Int) (O : Option Addr) (no co : Nat) : Tryz.prog.built 29 [(0, .int .i64 x), (1, .int .i64 y), (2, .int .i64 z), (4, .slice O no co)] = some #[.int .i64 x, .int .i64 y, .int .i64 z, .slice none 0 0, .slice O no co] := by kernel_rfl
/-- what Of has laid -/
structure EOf (w wr : World) (e : En.E) (ca : Array Value) (U : Option Addr) (cu : Nat) (O : Option Addr) (co : Nat) (ts : List En.Bt) (g1 g2 : Nat) (v : Value) (k : Nat) : Prop where
  en : EnB w wr e ca U cu O co ts
  r1 : Blk wr g1 29 zR
  r2 : Blk wr g2 29 (ecs e v O co)
  own : wr.ownsRow (g2 + 1) 58 65 v k (cellsU (e.ups.take k))
  ord : w.heap.size < g1 ∧ g1 < g2 ∧ g2 < wr.heap.size
section
variable {w wr w' : World} {e : En.E} {ca : Array Value} {U O : Option Addr} {cu co g1 g2 k : Nat} {ts : List En.Bt} {v v2 : Value} {cs : List Value}
theorem ecs_one (h : w.ownsRow g1 58 65 v k cs) : (ecs e v O co).all (·.oneCell') = true := by
  obtain ⟨A, c, rfl⟩ := own_slice h
  simp [ecs, Value.oneCell']
theorem EOf.below (h : EOf w wr e ca U cu O co ts g1 g2 v k) (hb : Below wr.heap.size wr w') : EOf w w' e ca U cu O co ts g1 g2 v k :=
  ⟨h.en.below hb, h.r1.below hb h.r1.lt, h.r2.below hb h.r2.lt, h.own.kept (only_of_below hb none) (by cases hv : v.ownBlock with | none => exact Or.inl rfl | some g => exact Or.inr (by simp)), by have := h.ord; have := hb.size; omega⟩
/-- behind an append -/
structure EOg (w wr : World) (e : En.E) (ca : Array Value) (U : Option Addr) (cu : Nat) (O : Option Addr) (co : Nat) (ts : List En.Bt) (g1 g2 : Nat) (v v2 : Value) (k : Nat) : Prop where
  en : EnB w wr e ca U cu O co ts
  r1 : Blk wr g1 29 zR
  r2 : Blk wr g2 29 (ecs e v O co)
  own : wr.ownsRow (g2 + 1) 58 65 v2 (k + 1) (cellsU (e.ups.take (k + 1)))
  ord : w.heap.size < g1 ∧ g1 < g2 ∧ g2 < wr.heap.size
theorem EOf.grow (h : EOf w wr e ca U cu O co ts g1 g2 v k) (h0 : EnC w e ca U cu O co ts) (ho : w'.ownsRow (g2 + 1) 58 65 v2 (k + 1) (cellsU (e.ups.take (k + 1)))) (hg : wr.grownBy w' v.ownBlock) : EOg w w' e ca U cu O co ts g1 g2 v v2 k :=
  have ne : ∀ {g}, g < g2 + 1 → some g ≠ v.ownBlock := fun hg e => by
    have := (h.own.lt _ e.symm).1
    omega
  have hb : Below w.heap.size w w' := ⟨hg.os.trans h.en.bel.os, hg.tape.trans h.en.bel.tape, hg.output.trans h.en.bel.output, Nat.le_trans h.en.bel.size hg.size, fun b hb => (hg.block b (Nat.lt_of_lt_of_le hb h.en.bel.size) (ne (by have := h.ord; omega))).trans (h.en.bel.block b hb)⟩
  ⟨⟨hb, h.en.box.grown hg (ne (by have := h.ord; omega)), h0.below hb⟩, h.r1.grown hg (ne (by have := h.ord; omega)), h.r2.grown hg (ne (by omega)), ho, by have := h.ord; have := hg.size; omega⟩
theorem EOg.done (h : EOg w wr e ca U cu O co ts g1 g2 v v2 k) (h0 : EnC w e ca U cu O co ts) : EOf w (wr.setCell ⟨g2, 3, none⟩ v2) e ca U cu O co ts g1 g2 v2 (k + 1) :=
  have hb : Below w.heap.size w (wr.setCell ⟨g2, 3, none⟩ v2) := h.en.bel.setCell (p := ⟨g2, 3, none⟩) (by show w.heap.size ≤ g2; have := h.ord; omega) v2
  ⟨⟨hb, h.en.box.far (by show w.heap.size ≠ g2; have := h.ord; omega) v2, h0.below hb⟩, h.r1.far (by show g1 ≠ g2; have := h.ord; omega) v2, by have h1 := h.r2.set_ 3 v2; exact h1, ownsRow_far h.own (by show g2 < g2 + 1; omega) _, by have := h.ord; simpa [World.setCell] using this⟩
/-- the result is stored -/
theorem EOf.res (h : EOf w wr e ca U cu O co ts g1 g2 v k) : Blk (wr.setRow g1 (ecs e v O co)) g1 29 (ecs e v O co) ∧ Below w.heap.size w (wr.setRow g1 (ecs e v O co)) ∧ (wr.setRow g1 (ecs e v O co)).ownsRow (g2 + 1) 58 65 v k (cellsU (e.ups.take k)) :=
  ⟨h.r1.row _, below_row h.en.bel (by have := h.ord; omega) _, h.own.kept (only_setRow (World.grownBy.refl wr _) (Or.inl rfl) _ : wr.grownBy _ (some g1)) (by
    cases hv : v.ownBlock with
    | none => exact Or.inl rfl
    | some g => exact Or.inr (fun e => by have := (h.own.lt g hv).1; injection e with e; have := h.ord; omega))⟩
end
/-- how Of ends -/
def EOfPost (e : En.E) (O : Option Addr) (co : Nat) (ts : List En.Bt) (w : World) (r : Ending) (w' : World) : Prop :=
  Below w.heap.size w w' ∧ (En.few e = true → ∃ U' cu', r = .returned (.tuple #[.agg (ecs e (.slice U' e.ups.length cu') O co), .bool true]) ∧ EnC w' e (ecs e (.slice U' e.ups.length cu') O co) U' cu' O co ts) ∧
  (En.few e = false → ∃ cs : Array Value, r = .returned (.tuple #[.agg cs, .bool false]) ∧ cs.size = 5 ∧ cs.all (·.oneCell') = true)
set_option maxRecDepth 100000 in
set_option maxHeartbeats 8000000 in
theorem eof_any (e : En.E) (ca : Array Value) (U O : Option Addr) (cu co : Nat) (ts : List En.Bt) (w : World) (h : EnC w e ca U cu O co ts) :
    Calls Tryz.prog 6 #[.agg ca] w (EOfPost e O co ts w) := by
  obtain ⟨w2, hw2⟩ : ∃ w2, w2 = (w.alloc (.cells ca 25)).alloc (.cells zR 29) := ⟨_, rfl⟩
  have b1 : Below w.heap.size w (w.alloc (.cells ca 25)) := (Below.refl _ _).alloc (Nat.le_refl _) _
  have hb : EnB w w2 e ca U cu O co ts := hw2 ▸ (EnB.of h).below ((Below.refl _ _).alloc (Nat.le_refl _) _)
  have hr1 : Blk w2 (w.heap.size + 1) 29 zR := by rw [hw2]; have h1 := Blk.new (w.alloc (.cells ca 25)) 29 zR; rwa [World.size_alloc] at h1
  have hsz : w2.heap.size = w.heap.size + 2 := by rw [hw2]; simp
  have p0 := hb.c0
  have p1 := hb.c1
  have p2 := hb.c2
  have p4 := hb.c4
  have HB := Lib.hid hb
  have HR1 := Lib.hid hr1
  have H0 := Lib.hid h
  have HSZ := Lib.hid hsz
  obtain ⟨ip, hip, hpz, hps, hpb⟩ := info_parts rup_info
  have HIP : Hid (_ ∧ _ ∧ _ ∧ _) := Lib.hid ⟨hip, hpz, hps, hpb⟩
  have e1 := hw2.symm
  clear h hb hr1 hsz hw2 hip hpz hps hpb b1
  go_enter Tryz.func6, Tryz.ntmps6
  go_wp2_with (with_reducible (show wpList _ _ _ (Oper.mk _ (Op.build 29 _) _ _ _ _ :: _) _ _); refine pause ?_)
  unfold Paused
  refine wpList_buildK (by rfl) 29 _ (by rfl) _ (by kernel_rfl) _ (rent5_built e.client e.number e.answer O e.objs.length co) ?_
  go_wp2_with (with_reducible (show wpList _ _ _ (Oper.mk _ (Op.store 29 _ _) _ _ _ _ :: _) _ _); refine pause ?_)
  unfold Paused
  change wpList _ _ _ _ _ (w2.alloc (.cells zR 29))
  refine wpList_store_row (by rfl) 29 (.tmp 4) (.tmp 15) (by rfl) w2.heap.size (ecs e (.slice none 0 0) O co) (by rfl) (by rfl) 29 zR (Blk.new w2 _ _) (rent5_load rfl) (by rfl) (by simp [ecs, Value.oneCell']) ?_
  have b3 : Below w2.heap.size w2 ((w2.alloc (.cells zR 29)).setRow w2.heap.size (ecs e (.slice none 0 0) O co)) := below_row ((Below.refl _ _).alloc (Nat.le_refl _) _) (Nat.le_refl _) _
  have HW : Hid (EOf w ((w2.alloc (.cells zR 29)).setRow w2.heap.size (ecs e (.slice none 0 0) O co)) e ca U cu O co ts (w.heap.size + 1) w2.heap.size (.slice none 0 0) 0) := Lib.hid ⟨HB.out.below b3, HR1.out.below b3 HR1.out.lt, (Blk.new w2 _ _).row _, ⟨rfl, .inl ⟨rfl, rfl⟩⟩, by have := HSZ.out; simp; omega⟩
  clear b3 HB HR1 p0 p1 p2 p4 e1
  generalize (w2.alloc (.cells zR 29)).setRow w2.heap.size (ecs e (.slice none 0 0) O co) = w3 at HW ⊢
  generalize w2.heap.size = g2 at HW HSZ ⊢
  clear w2
  generalize w.heap.size + 1 = g1 at HW ⊢
  simp only [Act.put]
  have p3 := HW.out.en.c3
  have p4 := HW.out.en.c4
  obtain ⟨nu, hnu⟩ : ∃ n, n = e.ups.length := ⟨_, rfl⟩
  obtain ⟨no, hno⟩ : ∃ n, n = e.objs.length := ⟨_, rfl⟩
  rw [← hnu] at p3
  rw [← hno] at p4
  have HNU := Lib.hid hnu
  have CL := elong_any O no co ts w3 (by rw [hno]; exact HW.out.en.ent.objs)
  rw [H0.out.txt] at CL
  clear hnu hno
  by_cases h20 : 20 < nu
  · have i1 : (20 : Int) < (nu : Int) := by omega
    have HF : Hid (En.few e = false) := Lib.hid (by unfold En.few; rw [decide_eq_false (by rw [← HNU.out]; omega)]; rfl)
    clear h20 CL
    go_wp2_with (with_reducible (show wpList _ _ _ (Oper.mk _ (Op.load 29 _) _ _ _ _ :: _) _ _); refine pause ?_)
    unfold Paused
    refine wpList_row_w (by rfl) 29 (.tmp 4) (by rfl) g2 (by rfl) 29 (ecs e (.slice none 0 0) O co) _ HW.out.r2 (by first | exact Tryz.underlying29 | kernel_rfl) (by rfl) (rent5_load rfl) ?_
    go_wp2_with (with_reducible (show wpList _ _ _ (Oper.mk _ (Op.store 29 _ _) _ _ _ _ :: _) _ _); refine pause ?_)
    unfold Paused
    refine wpList_store_row (by rfl) 29 (.tmp 2) (.tmp 25) (by rfl) g1 (ecs e (.slice none 0 0) O co) (by rfl) (by rfl) 29 zR HW.out.r1 (rent5_load rfl) (by rfl) (ecs_one HW.out.own) ?_
    have HZ := Lib.hid HW.out.res
    have HO1 : Hid ((ecs e (.slice none 0 0) O co).all (·.oneCell') = true) := Lib.hid (ecs_one HW.out.own)
    generalize w3.setRow g1 (ecs e (.slice none 0 0) O co) = w9 at HZ ⊢
    simp only [Act.put]
    go_wp2
    exact bodyPost_ret (v := .tuple #[.agg (ecs e (.slice none 0 0) O co), .bool false]) (results_cell_row2 rfl _ _ g1 29 (ecs e (.slice none 0 0) O co) _ _ (by rfl) (by rfl) HZ.out.1 (by first | exact Tryz.underlying29 | kernel_rfl) rfl (rent5_load rfl)) rfl ⟨HZ.out.2.1, fun h => (by rw [HF.out] at h; cases h), fun _ => ⟨_, rfl, rfl, HO1.out⟩⟩
  have i1 : ¬ (20 : Int) < (nu : Int) := by omega
  have HN20 : Hid (nu ≤ 20) := Lib.hid (by omega)
  clear h20
  go_wp2_with (go_at_call 21; refine pause ?_)
  unfold Paused
  refine CL.mono ?_
  rintro r w4 ⟨rfl, rfl⟩
  clear CL
  cases hlg : En.long e.objs
  rotate_left
  · have HF : Hid (En.few e = false) := Lib.hid (by unfold En.few; rw [hlg]; simp)
    clear hlg
    go_wp2_with (with_reducible (show wpList _ _ _ (Oper.mk _ (Op.load 29 _) _ _ _ _ :: _) _ _); refine pause ?_)
    unfold Paused
    refine wpList_row_w (by rfl) 29 (.tmp 4) (by rfl) g2 (by rfl) 29 (ecs e (.slice none 0 0) O co) _ HW.out.r2 (by first | exact Tryz.underlying29 | kernel_rfl) (by rfl) (rent5_load rfl) ?_
    go_wp2_with (with_reducible (show wpList _ _ _ (Oper.mk _ (Op.store 29 _ _) _ _ _ _ :: _) _ _); refine pause ?_)
    unfold Paused
    refine wpList_store_row (by rfl) 29 (.tmp 2) (.tmp 25) (by rfl) g1 (ecs e (.slice none 0 0) O co) (by rfl) (by rfl) 29 zR HW.out.r1 (rent5_load rfl) (by rfl) (ecs_one HW.out.own) ?_
    have HZ := Lib.hid HW.out.res
    have HO1 : Hid ((ecs e (.slice none 0 0) O co).all (·.oneCell') = true) := Lib.hid (ecs_one HW.out.own)
    generalize w4.setRow g1 (ecs e (.slice none 0 0) O co) = w9 at HZ ⊢
    simp only [Act.put]
    go_wp2
    exact bodyPost_ret (v := .tuple #[.agg (ecs e (.slice none 0 0) O co), .bool false]) (results_cell_row2 rfl _ _ g1 29 (ecs e (.slice none 0 0) O co) _ _ (by rfl) (by rfl) HZ.out.1 (by first | exact Tryz.underlying29 | kernel_rfl) rfl (rent5_load rfl)) rfl ⟨HZ.out.2.1, fun h => (by rw [HF.out] at h; cases h), fun _ => ⟨_, rfl, rfl, HO1.out⟩⟩
  have HLG := Lib.hid hlg
  clear hlg
  go_wp2
  clear p4
  go_loopw [29] (fun i wr => ∃ (k : Nat) (v : Value), k ≤ nu ∧ i = .int .i64 k ∧ Hid (EOf w wr e ca U cu O co ts g1 g2 v k) ∧ Hid (∀ u ∈ e.ups.take k, u.ref.size ≤ 100)) (fun i _ => nu - (intOf i).toNat)
  case atStart => exact ⟨0, _, Nat.zero_le _, rfl, HW, Lib.hid (fun u hu => by cases hu)⟩
  case round =>
    obtain ⟨k, v, hk, rfl, HWk, HSm⟩ := hrel
    obtain ⟨vA, vc, rfl⟩ := own_slice HWk.out.own
    by_cases hlt : k < nu
    · have hki : k < e.ups.length := by rw [← HNU.out]; exact hlt
      obtain ⟨b, o, rfl, hbl, hrg⟩ := H0.out.ups.up rfl H0.out.fit hki
      have hft := H0.out.fit _ (List.getElem_mem hki)
      have HTK := Lib.hid (List.take_succ_eq_append_getElem hki)
      have hmm : e.ups[k] ∈ e.ups := List.getElem_mem hki
      generalize e.ups[k] = u at hrg hft HTK hmm
      have HMM := Lib.hid hmm
      have HFU := Lib.hid hft
      have HRG : Hid (wr.rangeAt b (o + k * 65) (cellsU1 u)) := Lib.hid (fun j v hj => (HWk.out.en.bel.cell (p := ⟨b, o + k * 65 + j, none⟩) hbl).trans (hrg j v hj))
      have i2 : ((k : Nat) : Int) < nu := by omega
      have i3 : (0 : Int) ≤ ((k : Nat) : Int) := by omega
      have i4 : ((nu : Nat) : Int) ≤ 20 := by have := HN20.out; omega
      have HLT : Hid (k + 1 ≤ nu) := Lib.hid hlt
      clear hki hbl hrg hft hmm hk hlt
      go_wp2_with (with_reducible (show wpList _ _ _ (Oper.mk _ (Op.load 56 _) _ _ _ _ :: _) _ _); refine pause ?_)
      unfold Paused
      refine wpList_mid_w (by rfl) 56 (.tmp 31) (by rfl) b (o + k * 65) (by rfl) (cellsU1 u) _ HRG.out Tryz.underlying56 (by rfl) (upd_load HFU.out) ?_
      go_wp2_with (with_reducible (show wpList _ _ _ (Oper.mk _ (Op.store 56 _ _) _ _ _ _ :: _) _ _); refine pause ?_)
      unfold Paused
      change wpList _ _ _ _ _ (wr.alloc (.cells zU 56))
      refine wpList_store_row (by rfl) 56 (.tmp 6) (.tmp 32) (by rfl) wr.heap.size (cellsU1 u).toArray (by rfl) (by rfl) 56 zU (Blk.new wr _ _) (upd_load2 HFU.out) (by rw [zU_size, List.size_toArray, cellsU1_len HFU.out]) (cellsU1_one u) ?_
      have b6 : Below wr.heap.size wr ((wr.alloc (.cells zU 56)).setRow wr.heap.size (cellsU1 u).toArray) := below_row ((Below.refl _ _).alloc (Nat.le_refl _) _) (Nat.le_refl _) _
      have HWa := Lib.hid (HWk.out.below b6)
      have HXa : Hid (Blk ((wr.alloc (.cells zU 56)).setRow wr.heap.size (cellsU1 u).toArray) wr.heap.size 56 (cellsU1 u).toArray) := Lib.hid ((Blk.new wr _ _).row _)
      clear b6 HRG HWk
      generalize (wr.alloc (.cells zU 56)).setRow wr.heap.size (cellsU1 u).toArray = wa at HWa HXa ⊢
      generalize wr.heap.size = gx at HXa ⊢
      simp only [Act.put]
      have d0 : wa.cell? ⟨gx, 0, none⟩ = some (.string u.ref) := HXa.out.cell 0
      have d2 : wa.cell? ⟨g2, 3, none⟩ = some (.slice vA k vc) := HWa.out.r2.cell 3
      by_cases hbig : 100 < u.ref.size
      · have g3 : (100 : Int) < (u.ref.size : Int) := by omega
        have HF : Hid (En.few e = false) := Lib.hid (by
          have h1 : e.ups.all (fun u => decide (u.ref.size ≤ 100)) = false := by
            rw [List.all_eq_false]
            exact ⟨u, HMM.out, by simp; omega⟩
          unfold En.few
          rw [h1]
          simp)
        clear hbig
        go_wp2_with (with_reducible (show wpList _ _ _ (Oper.mk _ (Op.load 29 _) _ _ _ _ :: _) _ _); refine pause ?_)
        unfold Paused
        refine wpList_row_w (by rfl) 29 (.tmp 4) (by rfl) g2 (by rfl) 29 (ecs e (.slice vA k vc) O co) _ HWa.out.r2 (by first | exact Tryz.underlying29 | kernel_rfl) (by rfl) (rent5_load rfl) ?_
        go_wp2_with (with_reducible (show wpList _ _ _ (Oper.mk _ (Op.store 29 _ _) _ _ _ _ :: _) _ _); refine pause ?_)
        unfold Paused
        refine wpList_store_row (by rfl) 29 (.tmp 2) (.tmp 37) (by rfl) g1 (ecs e (.slice vA k vc) O co) (by rfl) (by rfl) 29 zR HWa.out.r1 (rent5_load rfl) (by rfl) (ecs_one HWa.out.own) ?_
        have HZ := Lib.hid HWa.out.res
        have HO1 : Hid ((ecs e (.slice vA k vc) O co).all (·.oneCell') = true) := Lib.hid (ecs_one HWa.out.own)
        generalize wa.setRow g1 (ecs e (.slice vA k vc) O co) = w9 at HZ ⊢
        simp only [Act.put]
        go_wp2
        exact bodyPost_ret (v := .tuple #[.agg (ecs e (.slice vA k vc) O co), .bool false]) (results_cell_row2 rfl _ _ g1 29 (ecs e (.slice vA k vc) O co) _ _ (by rfl) (by rfl) HZ.out.1 (by first | exact Tryz.underlying29 | kernel_rfl) rfl (rent5_load rfl)) rfl ⟨HZ.out.2.1, fun h => (by rw [HF.out] at h; cases h), fun _ => ⟨_, rfl, rfl, HO1.out⟩⟩
      · have g3 : ¬ (100 : Int) < (u.ref.size : Int) := by omega
        have HSM3 : Hid (∀ x ∈ e.ups.take (k + 1), x.ref.size ≤ 100) := Lib.hid (fun x hx => by
          rw [HTK.out] at hx
          rcases List.mem_append.1 hx with hx | hx
          · exact HSm.out x hx
          · rw [List.mem_singleton.1 hx]; omega)
        clear hbig
        go_wp2_with (with_reducible (show wpList _ _ _ (Oper.mk _ (Op.load 54 _) _ _ _ _ :: _) _ _); refine pause ?_)
        unfold Paused
        refine wpList_mid_w (by rfl) 54 (.tmp 42) (by rfl) gx 1 (by rfl) _ _ (up_rng_old HFU.out HXa.out) Tryz.underlying54 (by rfl) (by rw [cellsB_len, HFU.out.1.1]; kernel_rfl) ?_
        go_wp2_with (with_reducible (show wpList _ _ _ (Oper.mk _ (Op.load 54 _) _ _ _ _ :: _) _ _); refine pause ?_)
        unfold Paused
        refine wpList_mid_w (by rfl) 54 (.tmp 44) (by rfl) gx 33 (by rfl) _ _ (up_rng_new HFU.out HXa.out) Tryz.underlying54 (by rfl) (by rw [cellsB_len, HFU.out.2.1]; kernel_rfl) ?_
        go_wp2_with (with_reducible (show wpList _ _ _ (Oper.mk _ (Op.build 58 _) _ _ _ _ :: _) _ _); refine pause ?_)
        unfold Paused
        refine wpList_buildK (by rfl) 58 _ (by rfl) _ (by kernel_rfl) _ (rup_built u HFU.out) ?_
        go_wp2_with (with_reducible (show wpList _ _ _ (Oper.mk _ (Op.buildSlice _ _ _) _ _ _ _ :: _) _ _); refine pause ?_)
        unfold Paused
        refine wpList_buildSliceK (by rfl) 27 58 1 _ (by rfl) (cellsU1 u).toArray ip (.agg (cellsU1 ⟨⟨#[]⟩, List.replicate 32 0, List.replicate 32 0⟩).toArray) Tryz.underlying27 HIP.out.1 HIP.out.2.1 (by rw [HIP.out.2.2.1]; decide) (by rw [HIP.out.2.2.1]; decide) _ (by kernel_rfl) (by rw [HIP.out.2.2.1]; exact fill_one 65 (Value.agg (cellsU1 ⟨⟨#[]⟩, List.replicate 32 0, List.replicate 32 0⟩).toArray).cells _ (cellsU1_len HFU.out) (by rfl)) ?_
        have hbb : Below wa.heap.size wa (wa.alloc (.cells (cellsU1 u).toArray 58)) := (Below.refl _ _).alloc (Nat.le_refl _) _
        have HWb := Lib.hid (HWa.out.below hbb)
        have HXb := Lib.hid (Blk.new wa 58 (cellsU1 u).toArray)
        clear hbb HWa
        generalize wa.alloc (.cells (cellsU1 u).toArray 58) = wb at HWb HXb ⊢
        generalize wa.heap.size = gs at HXb ⊢
        go_wp2_with (with_reducible (show wpList _ _ _ (Oper.mk _ (Op.call (Call.mk (Callee.builtin Builtin.append) _ _)) _ _ _ _ :: _) _ _); refine pause ?_)
        unfold Paused
        refine wpList_append_own wb (by rfl) (.tmp 39) (.tmp 47) 27 (by rfl) (g2 + 1) 58 ip _ 65 80 Tryz.underlying27 HIP.out.1 HIP.out.2.1 HIP.out.2.2.1 HIP.out.2.2.2 (by rfl) (by decide) _ k _ (by rfl) HWb.out.own ⟨gs, 0, none⟩ 1 1 (cellsU1 u) (by rfl) (by rw [cellsU1_len HFU.out]) (fun j u hj => by rw [Addr.add_mid, Nat.zero_add, HXb.out.cell j]; simpa using hj) (fun x hx => by have h1 := cellsU1_one u; rw [Array.all_eq_true_iff_forall_mem] at h1; exact h1 x (by simpa using hx)) (by have := HN20.out; have := HLT.out; unfold maxLen; omega) (by have := HN20.out; have := HLT.out; omega) HWb.out.ord.2.2 ?_
        intro v' w1 hown hgrow _
        have HW1 := Lib.hid (HWb.out.grow H0.out (by rw [HTK.out, cellsU, List.flatMap_append, List.flatMap_cons, List.flatMap_nil, List.append_nil]; exact hown) hgrow)
        clear hown hgrow d0 d2 HXb HWb
        obtain ⟨vA', vc', rfl⟩ := own_slice HW1.out.own
        have d3 : w1.cell? ⟨g2, 3, none⟩ = some (.slice vA k vc) := HW1.out.r2.cell 3
        have d4 := HW1.out.r2.frozen 3
        have HW2 := Lib.hid (HW1.out.done H0.out)
        simp only [Act.put]
        go_wp2
        go_roundw
        case rel => exact ⟨k + 1, _, HLT.out, by go_num, HW2, HSM3⟩
        case measure => have h5 := HLT.out; simp [intOf]; omega
    · obtain rfl : k = nu := by omega
      have ik : ¬ ((k : Nat) : Int) < k := by omega
      have HF : Hid (En.few e = true) := Lib.hid (by
        have h1 := HSm.out
        rw [HNU.out, List.take_length] at h1
        unfold En.few
        rw [HLG.out, decide_eq_true (by rw [← HNU.out]; exact HN20.out), List.all_eq_true.2 (fun u hu => decide_eq_true (h1 u hu))]
        rfl)
      clear hk hlt
      go_wp2_with (with_reducible (show wpList _ _ _ (Oper.mk _ (Op.load 29 _) _ _ _ _ :: _) _ _); refine pause ?_)
      unfold Paused
      refine wpList_row_w (by rfl) 29 (.tmp 4) (by rfl) g2 (by rfl) 29 (ecs e (.slice vA k vc) O co) _ HWk.out.r2 (by first | exact Tryz.underlying29 | kernel_rfl) (by rfl) (rent5_load rfl) ?_
      go_wp2_with (with_reducible (show wpList _ _ _ (Oper.mk _ (Op.store 29 _ _) _ _ _ _ :: _) _ _); refine pause ?_)
      unfold Paused
      refine wpList_store_row (by rfl) 29 (.tmp 2) (.tmp 51) (by rfl) g1 (ecs e (.slice vA k vc) O co) (by rfl) (by rfl) 29 zR HWk.out.r1 (rent5_load rfl) (by rfl) (ecs_one HWk.out.own) ?_
      have HZ := Lib.hid HWk.out.res
      generalize wr.setRow g1 (ecs e (.slice vA k vc) O co) = w9 at HZ ⊢
      have HEC : Hid (EnC w9 e (ecs e (.slice vA e.ups.length vc) O co) vA vc O co ts) := Lib.hid ⟨rfl, by
          have h1 := HZ.out.2.2
          rw [HNU.out, List.take_length] at h1
          exact rdk_own h1, H0.out.fit, (H0.out.below HZ.out.2.1).objs, H0.out.txt⟩
      simp only [Act.put]
      go_wp2
      exact bodyPost_ret (v := .tuple #[.agg (ecs e (.slice vA k vc) O co), .bool true]) (results_cell_row2 rfl _ _ g1 29 (ecs e (.slice vA k vc) O co) _ _ (by rfl) (by rfl) HZ.out.1 (by first | exact Tryz.underlying29 | kernel_rfl) rfl (rent5_load rfl)) rfl ⟨HZ.out.2.1, fun _ => ⟨vA, vc, by rw [HNU.out], HEC.out⟩, fun h => (by rw [HF.out] at h; cases h)⟩
end Go.Proofs.YtjkneidoochfjaaGreatDoor
/- Rows cloned (slices.Clone): updates, texts. -/
namespace Go.Proofs.YtjkneidoochfjaaGreatDoor
open Go Go.RowKit
theorem upd_info : (Tryz.prog.info? 56).map (fun i => (i.zero, i.size, i.bytes)) = some (some (.agg (cellsU1 ⟨⟨#[]⟩, List.replicate 32 0, List.replicate 32 0⟩).toArray), 65, 80) := by kernel_rfl
theorem bts_info : (Tryz.prog.info? 32).map (fun i => (i.zero, i.size, i.bytes)) = some (some (.slice none 0 0), 1, 24) := by kernel_rfl
end Go.Proofs.YtjkneidoochfjaaGreatDoor
/- An entry copied: entry.Copy. -/
namespace Go.Proofs.YtjkneidoochfjaaGreatDoor
open Go Go.RowKit
/-- a text cloned behind a world -/
structure CpT (B : Nat) (w : World) (u : Value) (xs : List Nat) : Prop where
  rd : Rd w u xs
  off : 0 < xs.length → ∃ g cs c, u = .slice (some ⟨g, 0, none⟩) xs.length c ∧ B ≤ g ∧ Blk w g 5 cs
theorem CpT.below {B : Nat} {w w' : World} {u : Value} {xs : List Nat} (h : CpT B w u xs) (hb : Below w.heap.size w w') : CpT B w' u xs :=
  ⟨h.rd.below hb (Nat.le_refl _), fun h0 => by
    obtain ⟨g, cs, c, hu, hB, hg⟩ := h.off h0
    exact ⟨g, cs, c, hu, hB, hg.below hb hg.lt⟩⟩
theorem CpT.grown {B : Nat} {w w' : World} {u : Value} {xs : List Nat} {row : Option Nat} (h : CpT B w u xs) (hg : w.grownBy w' row) (hr : ∀ g, row = some g → ∃ cs T z, w.heap[g]? = some (.cells cs T z) ∧ T ≠ 5) : CpT B w' u xs := by
  have hne : ∀ g cs, Blk w g 5 cs → some g ≠ row := fun g cs hx e => by
    obtain ⟨cs', T, z', h1, h2⟩ := hr g e.symm
    have hx' : w.heap[g]? = some (.cells cs 5 (0, 0)) := hx
    rw [hx'] at h1
    injection h1 with h1
    injection h1 with _ h3 _
    exact h2 h3.symm
  refine ⟨?_, fun h0 => ?_⟩
  · obtain ⟨A, c, hv, hc, hA⟩ := h.rd
    refine ⟨A, c, hv, hc, fun h0 => ?_⟩
    obtain ⟨b, o, ha, hl, hx⟩ := hA h0
    obtain ⟨g, cs, c2, hu, _, hgb⟩ := h.off h0
    rw [hv, ha] at hu
    injection hu with e1 _ _
    injection e1 with e1
    injection e1 with e1 _ _
    subst e1
    refine ⟨b, o, ha, Nat.lt_of_lt_of_le hl hg.size, fun i hi => ?_⟩
    rw [World.cell?_of_block (a := ⟨b, o + i, none⟩) (hg.block b hl (hne b cs hgb))]
    exact hx i hi
  · obtain ⟨g, cs, c, hu, hB, hgb⟩ := h.off h0
    exact ⟨g, cs, c, hu, hB, hgb.grown hg (hne g cs hgb)⟩
/-- the texts' row while its texts are cloned -/
structure CpW (w wr : World) (ts : List En.Bt) (v : Value) (us : List Value) (k : Nat) : Prop where
  own : wr.ownsRow w.heap.size 32 1 v ts.length us
  bel : Below w.heap.size w wr
  old : ∀ i, k ≤ i → us[i]? = (ts.map (·.val))[i]?
  new : ∀ i (h : i < ts.length), i < k → ∃ u, us[i]? = some u ∧ CpT w.heap.size wr u ts[i].text
section
variable {w wr w' : World} {ts : List En.Bt} {v : Value} {us : List Value} {k : Nat}
theorem CpW.below (h : CpW w wr ts v us k) (hb : Below wr.heap.size wr w') : CpW w w' ts v us k :=
  ⟨h.own.kept (only_of_below hb none) (by cases hv : v.ownBlock with | none => exact Or.inl rfl | some g => exact Or.inr (by simp)), below_next h.bel hb, h.old, fun i hi hk => by
    obtain ⟨u, hu, hc⟩ := h.new i hi hk
    exact ⟨u, hu, hc.below hb⟩⟩
theorem CpW.put {g n cap : Nat} (h : CpW w wr ts (.slice (some ⟨g, 0, none⟩) n cap) us k) (hn : n = ts.length) (hk : k < ts.length) {u : Value} (hu : CpT w.heap.size wr u ts[k].text) : CpW w (wr.setCell ⟨g, k, none⟩ u) ts (.slice (some ⟨g, 0, none⟩) n cap) (us.set k u) (k + 1) := by
  subst hn
  have hs := h.own.stored k u
  have hl := h.own.lt g rfl
  have hT : ∃ cs T z, wr.heap[g]? = some (.cells cs T z) ∧ T ≠ 5 := by
    rcases h.own.2 with ⟨h', _⟩ | ⟨g', cap', cur, h', _, hg, _⟩
    · simp at h'
    · simp only [Value.slice.injEq, Option.some.injEq, Addr.mk.injEq, and_true, true_and] at h'
      obtain ⟨rfl, rfl⟩ := h'
      exact ⟨cur, _, _, hg, by decide⟩
  have hc : ∀ x xs, CpT w.heap.size wr x xs → CpT w.heap.size (wr.setCell ⟨g, k, none⟩ u) x xs := fun x xs hx => hx.grown hs.2 fun g' e => by injection e with e; subst e; exact hT
  have hlen : us.length = ts.length := by have := h.own.1; omega
  refine ⟨hs.1, h.bel.setCell (p := ⟨g, k, none⟩) hl.1 u, fun i hi => ?_, fun i hi hik => ?_⟩
  · rw [List.getElem?_set_ne (by omega)]
    exact h.old i (by omega)
  · by_cases hik2 : i = k
    · subst hik2
      exact ⟨u, by rw [List.getElem?_set_self (by omega)], hc _ _ hu⟩
    · obtain ⟨x, hx, hcx⟩ := h.new i hi (by omega)
      exact ⟨x, by rw [List.getElem?_set_ne (by omega)]; exact hx, hc _ _ hcx⟩
end
/-- what a copy is -/
structure CpE (w w' : World) (e : En.E) (cs : Array Value) (U : Option Addr) (cu : Nat) (O : Option Addr) (co : Nat) (ts : List En.Bt) : Prop where
  ent : EnC w' e cs U cu O co ts
  bel : Below w.heap.size w w'
  ups : w'.ownsRow w.heap.size 56 65 (.slice U e.ups.length cu) e.ups.length (cellsU e.ups)
  objs : w'.ownsRow w.heap.size 32 1 (.slice O e.objs.length co) e.objs.length (ts.map (·.val))
  txt : ∀ t ∈ ts, CpT w.heap.size w' t.val t.text
/-- the copied texts -/
theorem CpW.all {w wr : World} {ts : List En.Bt} {O : Option Addr} {co n : Nat} {us : List Value} (h : CpW w wr ts (.slice O n co) us ts.length) (hy : ∀ t ∈ ts, Sha.Byte t.text) :
    ∃ ts' : List En.Bt, ts'.map (·.text) = ts.map (·.text) ∧ ts'.map (·.val) = us ∧ BtT wr O ts.length ts' ∧ ∀ t ∈ ts', CpT w.heap.size wr t.val t.text := by
  have hlen : us.length = ts.length := by have := h.own.1; omega
  have hn : n = ts.length := by
    rcases h.own.2 with ⟨h', h0⟩ | ⟨g', cap', cur, h', _⟩
    · injection h' with _ h2 _; omega
    · injection h' with _ h2 _
  obtain ⟨ts', hts⟩ : ∃ ts', ts' = List.zipWith (fun t u => (⟨t.text, u⟩ : En.Bt)) ts us := ⟨_, rfl⟩
  have hl' : ts'.length = ts.length := by rw [hts, List.length_zipWith]; omega
  have hv : ∀ i, i < ts.length → us[i]? = some (us.getD i undef) := fun i hi => by
    rw [List.getD_eq_getElem?_getD, List.getElem?_eq_getElem (show i < us.length by omega)]; rfl
  have hg : ∀ i (hi : i < ts.length), ts'[i]? = some ⟨ts[i].text, us.getD i undef⟩ := fun i hi => by
    have h1 := hv i hi
    subst hts
    rw [List.getElem?_zipWith, List.getElem?_eq_getElem hi, h1]
  have hm : ∀ t ∈ ts', ∃ i, ∃ hi : i < ts.length, t = ⟨ts[i].text, us.getD i undef⟩ := fun t ht => by
    obtain ⟨i, hi, rfl⟩ := List.mem_iff_getElem.1 ht
    have h1 := hg i (by omega)
    rw [List.getElem?_eq_getElem hi] at h1
    exact ⟨i, by omega, Option.some.inj h1⟩
  have hc : ∀ t ∈ ts', CpT w.heap.size wr t.val t.text := fun t ht => by
    obtain ⟨i, hi, rfl⟩ := hm t ht
    obtain ⟨u, hu, hc⟩ := h.new i hi hi
    rw [hv i hi] at hu
    injection hu with hu
    show CpT w.heap.size wr (us.getD i undef) ts[i].text
    rw [hu]
    exact hc
  refine ⟨ts', ?_, ?_, ⟨hl'.symm, fun h0 => ?_, fun t ht => ⟨(hc t ht).rd, ?_⟩⟩, hc⟩
  · apply List.ext_getElem?
    intro i
    rw [List.getElem?_map, List.getElem?_map]
    by_cases hi : i < ts.length
    · rw [hg i hi, List.getElem?_eq_getElem hi]; rfl
    · rw [List.getElem?_eq_none (by omega), List.getElem?_eq_none (by omega)]
  · apply List.ext_getElem?
    intro i
    rw [List.getElem?_map]
    by_cases hi : i < ts.length
    · rw [hg i hi, hv i hi]; rfl
    · rw [List.getElem?_eq_none (by omega), List.getElem?_eq_none (by omega)]; rfl
  · rcases h.own.2 with ⟨_, h'⟩ | ⟨g', cap', cur, h', _, hgg, hnc, hcm, hcs, htk⟩
    · omega
    · injection h' with e1 _ _
      refine ⟨g', 0, e1, (Array.getElem?_eq_some_iff.1 hgg).1, fun i t ht => ?_⟩
      have hB : Blk wr g' 32 cur := hgg
      have hi : i < ts.length := by have := (List.getElem?_eq_some_iff.1 ht).1; omega
      rw [hg i hi] at ht
      obtain rfl := Option.some.inj ht
      have h2 := hv i hi
      show wr.cell? ⟨g', 0 + i, none⟩ = some (us.getD i undef)
      rw [Nat.zero_add, hB.cell i]
      generalize us.getD i undef = x at h2
      rw [← htk, List.getElem?_take] at h2
      split at h2
      · simpa using h2
      · cases h2
  · obtain ⟨i, hi, e⟩ := hm t ht
    have h1 := hy _ (List.getElem_mem hi)
    rw [e]
    exact h1
/-- an entry in its box, its result's box, its rows: while it is copied -/
structure CpS (w wr : World) (e : En.E) (ts : List En.Bt) (v1 v2 : Value) : Prop where
  bel : Below w.heap.size w wr
  box : Blk wr w.heap.size 25 #[.int .i64 e.client, .int .i64 e.number, .int .i64 e.answer, v1, v2]
  res : Blk wr (w.heap.size + 1) 25 zR
section
variable {w wr w' : World} {e : En.E} {ts : List En.Bt} {v1 v2 : Value}
theorem CpS.below (h : CpS w wr e ts v1 v2) (hb : Below wr.heap.size wr w') : CpS w w' e ts v1 v2 := ⟨below_next h.bel hb, h.box.below hb h.box.lt, h.res.below hb h.res.lt⟩
theorem CpS.own {z n B : Nat} {t : TypeId} {v u : Value} {xs : List Value} {i : Nat} (_h : CpS w wr e ts v1 v2) (ho : wr.ownsRow B t z v n xs) (hB : w.heap.size < B) : (wr.setCell ⟨w.heap.size, i, none⟩ u).ownsRow B t z v n xs := ownsRow_far ho hB u
end
/-- all that stands while the texts are cloned -/
structure CpR (w wr : World) (e : En.E) (ts : List En.Bt) (v1 v2 : Value) (us : List Value) (k : Nat) : Prop where
  s : CpS w wr e ts v1 v2
  u : wr.ownsRow (w.heap.size + 1) 56 65 v1 e.ups.length (cellsU e.ups)
  t : CpW w wr ts v2 us k
theorem blk_ne {w : World} {g g' t t' : Nat} {cs cs' : Array Value} (h : Blk w g t cs) (h' : Blk w g' t' cs') (ht : t ≠ t') : g ≠ g' := fun e => by
  subst e
  have h1 : w.heap[g]? = some (.cells cs t (0, 0)) := h
  have h2 : w.heap[g]? = some (.cells cs' t' (0, 0)) := h'
  rw [h1] at h2
  injection h2 with h2
  injection h2 with _ h3 _
  exact ht h3
theorem own_blk {w : World} {B z n : Nat} {t : TypeId} {v : Value} {xs : List Value} (h : w.ownsRow B t z v n xs) {g : Nat} (hg : v.ownBlock = some g) : ∃ cs, Blk w g t cs := by
  rcases h.2 with ⟨h', _⟩ | ⟨g', cap', cur, h', _, hh, _⟩
  · rw [h'] at hg; simp [Value.ownBlock] at hg
  · rw [h'] at hg
    obtain rfl : g' = g := by simpa [Value.ownBlock] using hg
    exact ⟨cur, hh⟩
section
variable {w wr w' : World} {e : En.E} {ts : List En.Bt} {v1 v2 : Value} {us : List Value} {k : Nat}
theorem CpR.below (h : CpR w wr e ts v1 v2 us k) (hb : Below wr.heap.size wr w') : CpR w w' e ts v1 v2 us k :=
  ⟨h.s.below hb, h.u.kept (only_of_below hb none) (by cases hv : v1.ownBlock with | none => exact Or.inl rfl | some g => exact Or.inr (by simp)), h.t.below hb⟩
theorem CpR.put {g n cap : Nat} (h : CpR w wr e ts v1 (.slice (some ⟨g, 0, none⟩) n cap) us k) (hn : n = ts.length) (hk : k < ts.length) {u : Value} (hu : CpT w.heap.size wr u ts[k].text) : CpR w (wr.setCell ⟨g, k, none⟩ u) e ts v1 (.slice (some ⟨g, 0, none⟩) n cap) (us.set k u) (k + 1) := by
  obtain ⟨cs, hg⟩ := own_blk h.t.own (g := g) rfl
  have h1 := h.t.put hn hk hu
  refine ⟨⟨h1.bel, h.s.box.far (blk_ne h.s.box hg (by decide)) u, h.s.res.far (blk_ne h.s.res hg (by decide)) u⟩, ?_, h1⟩
  exact h.u.kept (only_setCell (World.grownBy.refl wr _) (Or.inl rfl) _ : wr.grownBy _ (some g)) (by
    cases hv : v1.ownBlock with
    | none => exact Or.inl rfl
    | some g' =>
      obtain ⟨cs', hg'⟩ := own_blk h.u hv
      exact Or.inr (fun e => by injection e with e; exact blk_ne hg' hg (by decide) e))
end
end Go.Proofs.YtjkneidoochfjaaGreatDoor
