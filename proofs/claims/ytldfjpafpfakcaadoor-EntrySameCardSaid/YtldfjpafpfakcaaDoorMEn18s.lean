/- An entry as the document has it: cartagelaw10.Of. -/
import Derived.Test.YtldfjpafpfakcaaDoorMEn16s
import Derived.Test.YtldfjpafpfakcaaDoorMEn6
namespace Go.Proofs.YtldfjpafpfakcaaDoor
open Go Go.RowKit
/-- an entry is not more than is asked -/
def En.few (e : En.E) : Bool := decide (e.ups.length ≤ 20) && (!(En.long e.objs) && e.ups.all (fun u => decide (u.ref.size ≤ 100)))
def ecs (e : En.E) (v : Value) (O : Option Addr) (co : Nat) : Array Value := #[.int .i64 e.client, .int .i64 e.number, .int .i64 e.answer, v, .slice O e.objs.length co]
abbrev zR : Array Value := #[.int .i64 0, .int .i64 0, .int .i64 0, .slice none 0 0, .slice none 0 0]
theorem rup_places : (Tryd.prog.fieldsOf 41).toList.mapM (fun f => (Tryd.prog.info? f.type).map fun i => (f.offset, i.size)) = some [(0, 1), (1, 32), (33, 32)] := by kernel_rfl
theorem rup_zero : ((Tryd.prog.info? 41).bind (·.zero)).map (·.cells) = some (cellsU1 ⟨⟨#[]⟩, List.replicate 32 0, List.replicate 32 0⟩).toArray := by kernel_rfl
theorem rup_under : Tryd.prog.underlying 41 = some (.struct (Tryd.prog.fieldsOf 41)) := by kernel_rfl
theorem rup_fill (u : En.Up) (h : u.Fit) : Instr.fill (([(0, 1), (1, 32), (33, 32)] : List (Nat × Nat)).toArray[·]?) (cellsU1 ⟨⟨#[]⟩, List.replicate 32 0, List.replicate 32 0⟩).toArray [(0, .string u.ref), (1, .agg (cellsB u.old).toArray), (2, .agg (cellsB u.new).toArray)] = some (cellsU1 u).toArray := by
  have e1 := fill_part (fun i => ([(0, 1), (1, 32), (33, 32)] : List (Nat × Nat)).toArray[i]?) 0 0 1 (.string u.ref) [(1, .agg (cellsB u.old).toArray), (2, .agg (cellsB u.new).toArray)] [.string u.ref] [.string ⟨#[]⟩] [] (cellsB (List.replicate 32 0) ++ cellsB (List.replicate 32 0)) rfl rfl rfl rfl rfl
  have e2 := fill_part (fun i => ([(0, 1), (1, 32), (33, 32)] : List (Nat × Nat)).toArray[i]?) 1 1 32 (.agg (cellsB u.old).toArray) [(2, .agg (cellsB u.new).toArray)] (cellsB u.old) (cellsB (List.replicate 32 0)) [.string u.ref] (cellsB (List.replicate 32 0)) rfl rfl (by rw [cellsB_len, h.1.1]) (by rw [cellsB_len]; rfl) rfl
  have e3 := fill_part (fun i => ([(0, 1), (1, 32), (33, 32)] : List (Nat × Nat)).toArray[i]?) 2 33 32 (.agg (cellsB u.new).toArray) [] (cellsB u.new) (cellsB (List.replicate 32 0)) (.string u.ref :: cellsB u.old) [] rfl rfl (by rw [cellsB_len, h.2.1]) (by rw [cellsB_len]; rfl) (by rw [List.length_cons, cellsB_len, h.1.1])
  rw [List.append_nil, List.append_nil] at e3
  exact e1.trans (e2.trans e3)
theorem rup_built (u : En.Up) (h : u.Fit) : Tryd.prog.built 41 [(0, .string u.ref), (1, .agg (cellsB u.old).toArray), (2, .agg (cellsB u.new).toArray)] = some (cellsU1 u).toArray := by
  rw [built_of rup_under rup_zero rup_places]
  exact rup_fill u h
theorem rup_info : (Tryd.prog.info? 41).map (fun i => (i.zero, i.size, i.bytes)) = some (some (.agg (cellsU1 ⟨⟨#[]⟩, List.replicate 32 0, List.replicate 32 0⟩).toArray), 65, 80) := by kernel_rfl
theorem rent5_load {cs : Array Value} (h : cs.size = 5) : (Tryd.prog.info? 29).map (·.size) = some cs.size := by rw [h]; kernel_rfl
theorem rent5_built (x y z : Int) (O : Option Addr) (no co : Nat) : Tryd.prog.built 29 [(0, .int .i64 x), (1, .int .i64 y), (2, .int .i64 z), (4, .slice O no co)] = some #[.int .i64 x, .int .i64 y, .int .i64 z, .slice none 0 0, .slice O no co] := by kernel_rfl
/-- what Of has laid -/
structure EOf (w wr : World) (e : En.E) (ca : Array Value) (U : Option Addr) (cu : Nat) (O : Option Addr) (co : Nat) (ts : List En.Bt) (g1 g2 : Nat) (v : Value) (k : Nat) : Prop where
  en : EnB w wr e ca U cu O co ts
  r1 : Blk wr g1 29 zR
  r2 : Blk wr g2 29 (ecs e v O co)
  own : wr.ownsRow (g2 + 1) 41 65 v k (cellsU (e.ups.take k))
  ord : w.heap.size < g1 ∧ g1 < g2 ∧ g2 < wr.heap.size
section
variable {w wr w' : World} {e : En.E} {ca : Array Value} {U O : Option Addr} {cu co g1 g2 k : Nat} {ts : List En.Bt} {v v2 : Value} {cs : List Value}
theorem ecs_one (h : w.ownsRow g1 41 65 v k cs) : (ecs e v O co).all (·.oneCell') = true := by
  obtain ⟨A, c, rfl⟩ := own_slice h
  simp [ecs, Value.oneCell']
theorem EOf.below (h : EOf w wr e ca U cu O co ts g1 g2 v k) (hb : Below wr.heap.size wr w') : EOf w w' e ca U cu O co ts g1 g2 v k :=
  ⟨h.en.below hb, h.r1.below hb h.r1.lt, h.r2.below hb h.r2.lt, h.own.kept (only_of_below hb none) (by cases hv : v.ownBlock with | none => exact Or.inl rfl | some g => exact Or.inr (by simp)), by have := h.ord; have := hb.size; omega⟩
/-- behind an append -/
structure EOg (w wr : World) (e : En.E) (ca : Array Value) (U : Option Addr) (cu : Nat) (O : Option Addr) (co : Nat) (ts : List En.Bt) (g1 g2 : Nat) (v v2 : Value) (k : Nat) : Prop where
  en : EnB w wr e ca U cu O co ts
  r1 : Blk wr g1 29 zR
  r2 : Blk wr g2 29 (ecs e v O co)
  own : wr.ownsRow (g2 + 1) 41 65 v2 (k + 1) (cellsU (e.ups.take (k + 1)))
  ord : w.heap.size < g1 ∧ g1 < g2 ∧ g2 < wr.heap.size
theorem EOf.grow (h : EOf w wr e ca U cu O co ts g1 g2 v k) (h0 : EnC w e ca U cu O co ts) (ho : w'.ownsRow (g2 + 1) 41 65 v2 (k + 1) (cellsU (e.ups.take (k + 1)))) (hg : wr.grownBy w' v.ownBlock) : EOg w w' e ca U cu O co ts g1 g2 v v2 k :=
  have ne : ∀ {g}, g < g2 + 1 → some g ≠ v.ownBlock := fun hg e => by
    have := (h.own.lt _ e.symm).1
    omega
  have hb : Below w.heap.size w w' := ⟨hg.os.trans h.en.bel.os, hg.tape.trans h.en.bel.tape, hg.output.trans h.en.bel.output, Nat.le_trans h.en.bel.size hg.size, fun b hb => (hg.block b (Nat.lt_of_lt_of_le hb h.en.bel.size) (ne (by have := h.ord; omega))).trans (h.en.bel.block b hb)⟩
  ⟨⟨hb, h.en.box.grown hg (ne (by have := h.ord; omega)), h0.below hb⟩, h.r1.grown hg (ne (by have := h.ord; omega)), h.r2.grown hg (ne (by omega)), ho, by have := h.ord; have := hg.size; omega⟩
theorem EOg.done (h : EOg w wr e ca U cu O co ts g1 g2 v v2 k) (h0 : EnC w e ca U cu O co ts) : EOf w (wr.setCell ⟨g2, 3, none⟩ v2) e ca U cu O co ts g1 g2 v2 (k + 1) :=
  have hb : Below w.heap.size w (wr.setCell ⟨g2, 3, none⟩ v2) := h.en.bel.setCell (p := ⟨g2, 3, none⟩) (by show w.heap.size ≤ g2; have := h.ord; omega) v2
  ⟨⟨hb, h.en.box.far (by show w.heap.size ≠ g2; have := h.ord; omega) v2, h0.below hb⟩, h.r1.far (by show g1 ≠ g2; have := h.ord; omega) v2, by have h1 := h.r2.set_ 3 v2; exact h1, ownsRow_far h.own (by show g2 < g2 + 1; omega) _, by have := h.ord; simpa [World.setCell] using this⟩
/-- the result is stored -/
theorem EOf.res (h : EOf w wr e ca U cu O co ts g1 g2 v k) : Blk (wr.setRow g1 (ecs e v O co)) g1 29 (ecs e v O co) ∧ Below w.heap.size w (wr.setRow g1 (ecs e v O co)) ∧ (wr.setRow g1 (ecs e v O co)).ownsRow (g2 + 1) 41 65 v k (cellsU (e.ups.take k)) :=
  ⟨h.r1.row _, below_row h.en.bel (by have := h.ord; omega) _, h.own.kept (only_setRow (World.grownBy.refl wr _) (Or.inl rfl) _ : wr.grownBy _ (some g1)) (by
    cases hv : v.ownBlock with
    | none => exact Or.inl rfl
    | some g => exact Or.inr (fun e => by have := (h.own.lt g hv).1; injection e with e; have := h.ord; omega))⟩
end
/-- how Of ends -/
def EOfPost (e : En.E) (O : Option Addr) (co : Nat) (ts : List En.Bt) (w : World) (r : Ending) (w' : World) : Prop :=
  Below w.heap.size w w' ∧ (En.few e = true → ∃ U' cu', r = .returned (.tuple #[.agg (ecs e (.slice U' e.ups.length cu') O co), .bool true]) ∧ EnC w' e (ecs e (.slice U' e.ups.length cu') O co) U' cu' O co ts) ∧
  (En.few e = false → ∃ cs : Array Value, r = .returned (.tuple #[.agg cs, .bool false]) ∧ cs.size = 5 ∧ cs.all (·.oneCell') = true)
set_option maxRecDepth 100000 in
set_option maxHeartbeats 8000000 in
theorem eof_any (e : En.E) (ca : Array Value) (U O : Option Addr) (cu co : Nat) (ts : List En.Bt) (w : World) (h : EnC w e ca U cu O co ts) :
    Calls Tryd.prog 6 #[.agg ca] w (EOfPost e O co ts w) := by
  obtain ⟨w2, hw2⟩ : ∃ w2, w2 = (w.alloc (.cells ca 25)).alloc (.cells zR 29) := ⟨_, rfl⟩
  have b1 : Below w.heap.size w (w.alloc (.cells ca 25)) := (Below.refl _ _).alloc (Nat.le_refl _) _
  have hb : EnB w w2 e ca U cu O co ts := hw2 ▸ (EnB.of h).below ((Below.refl _ _).alloc (Nat.le_refl _) _)
  have hr1 : Blk w2 (w.heap.size + 1) 29 zR := by rw [hw2]; have h1 := Blk.new (w.alloc (.cells ca 25)) 29 zR; rwa [World.size_alloc] at h1
  have hsz : w2.heap.size = w.heap.size + 2 := by rw [hw2]; simp
  have p0 := hb.c0
  have p1 := hb.c1
  have p2 := hb.c2
  have p4 := hb.c4
  have HB := Lib.hid hb
  have HR1 := Lib.hid hr1
  have H0 := Lib.hid h
  have HSZ := Lib.hid hsz
  obtain ⟨ip, hip, hpz, hps, hpb⟩ := info_parts rup_info
  have HIP : Hid (_ ∧ _ ∧ _ ∧ _) := Lib.hid ⟨hip, hpz, hps, hpb⟩
  have e1 := hw2.symm
  clear h hb hr1 hsz hw2 hip hpz hps hpb b1
  go_enter Tryd.func6, Tryd.ntmps6
  go_wp2_with (with_reducible (show wpList _ _ _ (Oper.mk _ (Op.build 29 _) _ _ _ _ :: _) _ _); refine pause ?_)
  unfold Paused
  refine wpList_buildK (by rfl) 29 _ (by rfl) _ (by kernel_rfl) _ (rent5_built e.client e.number e.answer O e.objs.length co) ?_
  go_wp2_with (with_reducible (show wpList _ _ _ (Oper.mk _ (Op.store 29 _ _) _ _ _ _ :: _) _ _); refine pause ?_)
  unfold Paused
  change wpList _ _ _ _ _ (w2.alloc (.cells zR 29))
  refine wpList_store_row (by rfl) 29 (.tmp 4) (.tmp 15) (by rfl) w2.heap.size (ecs e (.slice none 0 0) O co) (by rfl) (by rfl) 29 zR (Blk.new w2 _ _) (rent5_load rfl) (by rfl) (by simp [ecs, Value.oneCell']) ?_
  have b3 : Below w2.heap.size w2 ((w2.alloc (.cells zR 29)).setRow w2.heap.size (ecs e (.slice none 0 0) O co)) := below_row ((Below.refl _ _).alloc (Nat.le_refl _) _) (Nat.le_refl _) _
  have HW : Hid (EOf w ((w2.alloc (.cells zR 29)).setRow w2.heap.size (ecs e (.slice none 0 0) O co)) e ca U cu O co ts (w.heap.size + 1) w2.heap.size (.slice none 0 0) 0) := Lib.hid ⟨HB.out.below b3, HR1.out.below b3 HR1.out.lt, (Blk.new w2 _ _).row _, ⟨rfl, .inl ⟨rfl, rfl⟩⟩, by have := HSZ.out; simp; omega⟩
  clear b3 HB HR1 p0 p1 p2 p4 e1
  generalize (w2.alloc (.cells zR 29)).setRow w2.heap.size (ecs e (.slice none 0 0) O co) = w3 at HW ⊢
  generalize w2.heap.size = g2 at HW HSZ ⊢
  clear w2
  generalize w.heap.size + 1 = g1 at HW ⊢
  simp only [Act.put]
  have p3 := HW.out.en.c3
  have p4 := HW.out.en.c4
  obtain ⟨nu, hnu⟩ : ∃ n, n = e.ups.length := ⟨_, rfl⟩
  obtain ⟨no, hno⟩ : ∃ n, n = e.objs.length := ⟨_, rfl⟩
  rw [← hnu] at p3
  rw [← hno] at p4
  have HNU := Lib.hid hnu
  have CL := elong_any O no co ts w3 (by rw [hno]; exact HW.out.en.ent.objs)
  rw [H0.out.txt] at CL
  clear hnu hno
  by_cases h20 : 20 < nu
  · have i1 : (20 : Int) < (nu : Int) := by omega
    have HF : Hid (En.few e = false) := Lib.hid (by unfold En.few; rw [decide_eq_false (by rw [← HNU.out]; omega)]; rfl)
    clear h20 CL
    go_wp2_with (with_reducible (show wpList _ _ _ (Oper.mk _ (Op.load 29 _) _ _ _ _ :: _) _ _); refine pause ?_)
    unfold Paused
    refine wpList_row_w (by rfl) 29 (.tmp 4) (by rfl) g2 (by rfl) 29 (ecs e (.slice none 0 0) O co) _ HW.out.r2 (by first | exact Tryd.underlying29 | kernel_rfl) (by rfl) (rent5_load rfl) ?_
    go_wp2_with (with_reducible (show wpList _ _ _ (Oper.mk _ (Op.store 29 _ _) _ _ _ _ :: _) _ _); refine pause ?_)
    unfold Paused
    refine wpList_store_row (by rfl) 29 (.tmp 2) (.tmp 25) (by rfl) g1 (ecs e (.slice none 0 0) O co) (by rfl) (by rfl) 29 zR HW.out.r1 (rent5_load rfl) (by rfl) (ecs_one HW.out.own) ?_
    have HZ := Lib.hid HW.out.res
    have HO1 : Hid ((ecs e (.slice none 0 0) O co).all (·.oneCell') = true) := Lib.hid (ecs_one HW.out.own)
    generalize w3.setRow g1 (ecs e (.slice none 0 0) O co) = w9 at HZ ⊢
    simp only [Act.put]
    go_wp2
    exact bodyPost_ret (v := .tuple #[.agg (ecs e (.slice none 0 0) O co), .bool false]) (results_cell_row2 rfl _ _ g1 29 (ecs e (.slice none 0 0) O co) _ _ (by rfl) (by rfl) HZ.out.1 (by first | exact Tryd.underlying29 | kernel_rfl) rfl (rent5_load rfl)) rfl ⟨HZ.out.2.1, fun h => (by rw [HF.out] at h; cases h), fun _ => ⟨_, rfl, rfl, HO1.out⟩⟩
  have i1 : ¬ (20 : Int) < (nu : Int) := by omega
  have HN20 : Hid (nu ≤ 20) := Lib.hid (by omega)
  clear h20
  go_wp2_with (go_at_call 13; refine pause ?_)
  unfold Paused
  refine CL.mono ?_
  rintro r w4 ⟨rfl, rfl⟩
  clear CL
  cases hlg : En.long e.objs
  rotate_left
  · have HF : Hid (En.few e = false) := Lib.hid (by unfold En.few; rw [hlg]; simp)
    clear hlg
    go_wp2_with (with_reducible (show wpList _ _ _ (Oper.mk _ (Op.load 29 _) _ _ _ _ :: _) _ _); refine pause ?_)
    unfold Paused
    refine wpList_row_w (by rfl) 29 (.tmp 4) (by rfl) g2 (by rfl) 29 (ecs e (.slice none 0 0) O co) _ HW.out.r2 (by first | exact Tryd.underlying29 | kernel_rfl) (by rfl) (rent5_load rfl) ?_
    go_wp2_with (with_reducible (show wpList _ _ _ (Oper.mk _ (Op.store 29 _ _) _ _ _ _ :: _) _ _); refine pause ?_)
    unfold Paused
    refine wpList_store_row (by rfl) 29 (.tmp 2) (.tmp 25) (by rfl) g1 (ecs e (.slice none 0 0) O co) (by rfl) (by rfl) 29 zR HW.out.r1 (rent5_load rfl) (by rfl) (ecs_one HW.out.own) ?_
    have HZ := Lib.hid HW.out.res
    have HO1 : Hid ((ecs e (.slice none 0 0) O co).all (·.oneCell') = true) := Lib.hid (ecs_one HW.out.own)
    generalize w4.setRow g1 (ecs e (.slice none 0 0) O co) = w9 at HZ ⊢
    simp only [Act.put]
    go_wp2
    exact bodyPost_ret (v := .tuple #[.agg (ecs e (.slice none 0 0) O co), .bool false]) (results_cell_row2 rfl _ _ g1 29 (ecs e (.slice none 0 0) O co) _ _ (by rfl) (by rfl) HZ.out.1 (by first | exact Tryd.underlying29 | kernel_rfl) rfl (rent5_load rfl)) rfl ⟨HZ.out.2.1, fun h => (by rw [HF.out] at h; cases h), fun _ => ⟨_, rfl, rfl, HO1.out⟩⟩
  have HLG := Lib.hid hlg
  clear hlg
  go_wp2
  clear p4
  go_loopw [29] (fun i wr => ∃ (k : Nat) (v : Value), k ≤ nu ∧ i = .int .i64 k ∧ Hid (EOf w wr e ca U cu O co ts g1 g2 v k) ∧ Hid (∀ u ∈ e.ups.take k, u.ref.size ≤ 100)) (fun i _ => nu - (intOf i).toNat)
  case atStart => exact ⟨0, _, Nat.zero_le _, rfl, HW, Lib.hid (fun u hu => by cases hu)⟩
  case round =>
    obtain ⟨k, v, hk, rfl, HWk, HSm⟩ := hrel
    obtain ⟨vA, vc, rfl⟩ := own_slice HWk.out.own
    by_cases hlt : k < nu
    · have hki : k < e.ups.length := by rw [← HNU.out]; exact hlt
      obtain ⟨b, o, rfl, hbl, hrg⟩ := H0.out.ups.up rfl H0.out.fit hki
      have hft := H0.out.fit _ (List.getElem_mem hki)
      have HTK := Lib.hid (List.take_succ_eq_append_getElem hki)
      have hmm : e.ups[k] ∈ e.ups := List.getElem_mem hki
      generalize e.ups[k] = u at hrg hft HTK hmm
      have HMM := Lib.hid hmm
      have HFU := Lib.hid hft
      have HRG : Hid (wr.rangeAt b (o + k * 65) (cellsU1 u)) := Lib.hid (fun j v hj => (HWk.out.en.bel.cell (p := ⟨b, o + k * 65 + j, none⟩) hbl).trans (hrg j v hj))
      have i2 : ((k : Nat) : Int) < nu := by omega
      have i3 : (0 : Int) ≤ ((k : Nat) : Int) := by omega
      have i4 : ((nu : Nat) : Int) ≤ 20 := by have := HN20.out; omega
      have HLT : Hid (k + 1 ≤ nu) := Lib.hid hlt
      clear hki hbl hrg hft hmm hk hlt
      go_wp2_with (with_reducible (show wpList _ _ _ (Oper.mk _ (Op.load 38 _) _ _ _ _ :: _) _ _); refine pause ?_)
      unfold Paused
      refine wpList_mid_w (by rfl) 38 (.tmp 31) (by rfl) b (o + k * 65) (by rfl) (cellsU1 u) _ HRG.out Tryd.underlying38 (by rfl) (upd_load HFU.out) ?_
      go_wp2_with (with_reducible (show wpList _ _ _ (Oper.mk _ (Op.store 38 _ _) _ _ _ _ :: _) _ _); refine pause ?_)
      unfold Paused
      change wpList _ _ _ _ _ (wr.alloc (.cells zU 38))
      refine wpList_store_row (by rfl) 38 (.tmp 6) (.tmp 32) (by rfl) wr.heap.size (cellsU1 u).toArray (by rfl) (by rfl) 38 zU (Blk.new wr _ _) (upd_load2 HFU.out) (by rw [zU_size, List.size_toArray, cellsU1_len HFU.out]) (cellsU1_one u) ?_
      have b6 : Below wr.heap.size wr ((wr.alloc (.cells zU 38)).setRow wr.heap.size (cellsU1 u).toArray) := below_row ((Below.refl _ _).alloc (Nat.le_refl _) _) (Nat.le_refl _) _
      have HWa := Lib.hid (HWk.out.below b6)
      have HXa : Hid (Blk ((wr.alloc (.cells zU 38)).setRow wr.heap.size (cellsU1 u).toArray) wr.heap.size 38 (cellsU1 u).toArray) := Lib.hid ((Blk.new wr _ _).row _)
      clear b6 HRG HWk
      generalize (wr.alloc (.cells zU 38)).setRow wr.heap.size (cellsU1 u).toArray = wa at HWa HXa ⊢
      generalize wr.heap.size = gx at HXa ⊢
      simp only [Act.put]
      have d0 : wa.cell? ⟨gx, 0, none⟩ = some (.string u.ref) := HXa.out.cell 0
      have d2 : wa.cell? ⟨g2, 3, none⟩ = some (.slice vA k vc) := HWa.out.r2.cell 3
      by_cases hbig : 100 < u.ref.size
      · have g3 : (100 : Int) < (u.ref.size : Int) := by omega
        have HF : Hid (En.few e = false) := Lib.hid (by
          have h1 : e.ups.all (fun u => decide (u.ref.size ≤ 100)) = false := by
            rw [List.all_eq_false]
            exact ⟨u, HMM.out, by simp; omega⟩
          unfold En.few
          rw [h1]
          simp)
        clear hbig
        go_wp2_with (with_reducible (show wpList _ _ _ (Oper.mk _ (Op.load 29 _) _ _ _ _ :: _) _ _); refine pause ?_)
        unfold Paused
        refine wpList_row_w (by rfl) 29 (.tmp 4) (by rfl) g2 (by rfl) 29 (ecs e (.slice vA k vc) O co) _ HWa.out.r2 (by first | exact Tryd.underlying29 | kernel_rfl) (by rfl) (rent5_load rfl) ?_
        go_wp2_with (with_reducible (show wpList _ _ _ (Oper.mk _ (Op.store 29 _ _) _ _ _ _ :: _) _ _); refine pause ?_)
        unfold Paused
        refine wpList_store_row (by rfl) 29 (.tmp 2) (.tmp 37) (by rfl) g1 (ecs e (.slice vA k vc) O co) (by rfl) (by rfl) 29 zR HWa.out.r1 (rent5_load rfl) (by rfl) (ecs_one HWa.out.own) ?_
        have HZ := Lib.hid HWa.out.res
        have HO1 : Hid ((ecs e (.slice vA k vc) O co).all (·.oneCell') = true) := Lib.hid (ecs_one HWa.out.own)
        generalize wa.setRow g1 (ecs e (.slice vA k vc) O co) = w9 at HZ ⊢
        simp only [Act.put]
        go_wp2
        exact bodyPost_ret (v := .tuple #[.agg (ecs e (.slice vA k vc) O co), .bool false]) (results_cell_row2 rfl _ _ g1 29 (ecs e (.slice vA k vc) O co) _ _ (by rfl) (by rfl) HZ.out.1 (by first | exact Tryd.underlying29 | kernel_rfl) rfl (rent5_load rfl)) rfl ⟨HZ.out.2.1, fun h => (by rw [HF.out] at h; cases h), fun _ => ⟨_, rfl, rfl, HO1.out⟩⟩
      · have g3 : ¬ (100 : Int) < (u.ref.size : Int) := by omega
        have HSM3 : Hid (∀ x ∈ e.ups.take (k + 1), x.ref.size ≤ 100) := Lib.hid (fun x hx => by
          rw [HTK.out] at hx
          rcases List.mem_append.1 hx with hx | hx
          · exact HSm.out x hx
          · rw [List.mem_singleton.1 hx]; omega)
        clear hbig
        go_wp2_with (with_reducible (show wpList _ _ _ (Oper.mk _ (Op.load 36 _) _ _ _ _ :: _) _ _); refine pause ?_)
        unfold Paused
        refine wpList_mid_w (by rfl) 36 (.tmp 42) (by rfl) gx 1 (by rfl) _ _ (up_rng_old HFU.out HXa.out) Tryd.underlying36 (by rfl) (by rw [cellsB_len, HFU.out.1.1]; kernel_rfl) ?_
        go_wp2_with (with_reducible (show wpList _ _ _ (Oper.mk _ (Op.load 36 _) _ _ _ _ :: _) _ _); refine pause ?_)
        unfold Paused
        refine wpList_mid_w (by rfl) 36 (.tmp 44) (by rfl) gx 33 (by rfl) _ _ (up_rng_new HFU.out HXa.out) Tryd.underlying36 (by rfl) (by rw [cellsB_len, HFU.out.2.1]; kernel_rfl) ?_
        go_wp2_with (with_reducible (show wpList _ _ _ (Oper.mk _ (Op.build 41 _) _ _ _ _ :: _) _ _); refine pause ?_)
        unfold Paused
        refine wpList_buildK (by rfl) 41 _ (by rfl) _ (by kernel_rfl) _ (rup_built u HFU.out) ?_
        go_wp2_with (with_reducible (show wpList _ _ _ (Oper.mk _ (Op.buildSlice _ _ _) _ _ _ _ :: _) _ _); refine pause ?_)
        unfold Paused
        refine wpList_buildSliceK (by rfl) 27 41 1 _ (by rfl) (cellsU1 u).toArray ip (.agg (cellsU1 ⟨⟨#[]⟩, List.replicate 32 0, List.replicate 32 0⟩).toArray) Tryd.underlying27 HIP.out.1 HIP.out.2.1 (by rw [HIP.out.2.2.1]; decide) (by rw [HIP.out.2.2.1]; decide) _ (by kernel_rfl) (by rw [HIP.out.2.2.1]; exact fill_one 65 (Value.agg (cellsU1 ⟨⟨#[]⟩, List.replicate 32 0, List.replicate 32 0⟩).toArray).cells _ (cellsU1_len HFU.out) (by rfl)) ?_
        have hbb : Below wa.heap.size wa (wa.alloc (.cells (cellsU1 u).toArray 41)) := (Below.refl _ _).alloc (Nat.le_refl _) _
        have HWb := Lib.hid (HWa.out.below hbb)
        have HXb := Lib.hid (Blk.new wa 41 (cellsU1 u).toArray)
        clear hbb HWa
        generalize wa.alloc (.cells (cellsU1 u).toArray 41) = wb at HWb HXb ⊢
        generalize wa.heap.size = gs at HXb ⊢
        go_wp2_with (with_reducible (show wpList _ _ _ (Oper.mk _ (Op.call (Call.mk (Callee.builtin Builtin.append) _ _)) _ _ _ _ :: _) _ _); refine pause ?_)
        unfold Paused
        refine wpList_append_own wb (by rfl) (.tmp 39) (.tmp 47) 27 (by rfl) (g2 + 1) 41 ip _ 65 80 Tryd.underlying27 HIP.out.1 HIP.out.2.1 HIP.out.2.2.1 HIP.out.2.2.2 (by rfl) (by decide) _ k _ (by rfl) HWb.out.own ⟨gs, 0, none⟩ 1 1 (cellsU1 u) (by rfl) (by rw [cellsU1_len HFU.out]) (fun j u hj => by rw [Addr.add_mid, Nat.zero_add, HXb.out.cell j]; simpa using hj) (fun x hx => by have h1 := cellsU1_one u; rw [Array.all_eq_true_iff_forall_mem] at h1; exact h1 x (by simpa using hx)) (by have := HN20.out; have := HLT.out; unfold maxLen; omega) (by have := HN20.out; have := HLT.out; omega) HWb.out.ord.2.2 ?_
        intro v' w1 hown hgrow _
        have HW1 := Lib.hid (HWb.out.grow H0.out (by rw [HTK.out, cellsU, List.flatMap_append, List.flatMap_cons, List.flatMap_nil, List.append_nil]; exact hown) hgrow)
        clear hown hgrow d0 d2 HXb HWb
        obtain ⟨vA', vc', rfl⟩ := own_slice HW1.out.own
        have d3 : w1.cell? ⟨g2, 3, none⟩ = some (.slice vA k vc) := HW1.out.r2.cell 3
        have d4 := HW1.out.r2.frozen 3
        have HW2 := Lib.hid (HW1.out.done H0.out)
        simp only [Act.put]
        go_wp2
        go_roundw
        case rel => exact ⟨k + 1, _, HLT.out, by go_num, HW2, HSM3⟩
        case measure => have h5 := HLT.out; simp [intOf]; omega
    · obtain rfl : k = nu := by omega
      have ik : ¬ ((k : Nat) : Int) < k := by omega
      have HF : Hid (En.few e = true) := Lib.hid (by
        have h1 := HSm.out
        rw [HNU.out, List.take_length] at h1
        unfold En.few
        rw [HLG.out, decide_eq_true (by rw [← HNU.out]; exact HN20.out), List.all_eq_true.2 (fun u hu => decide_eq_true (h1 u hu))]
        rfl)
      clear hk hlt
      go_wp2_with (with_reducible (show wpList _ _ _ (Oper.mk _ (Op.load 29 _) _ _ _ _ :: _) _ _); refine pause ?_)
      unfold Paused
      refine wpList_row_w (by rfl) 29 (.tmp 4) (by rfl) g2 (by rfl) 29 (ecs e (.slice vA k vc) O co) _ HWk.out.r2 (by first | exact Tryd.underlying29 | kernel_rfl) (by rfl) (rent5_load rfl) ?_
      go_wp2_with (with_reducible (show wpList _ _ _ (Oper.mk _ (Op.store 29 _ _) _ _ _ _ :: _) _ _); refine pause ?_)
      unfold Paused
      refine wpList_store_row (by rfl) 29 (.tmp 2) (.tmp 51) (by rfl) g1 (ecs e (.slice vA k vc) O co) (by rfl) (by rfl) 29 zR HWk.out.r1 (rent5_load rfl) (by rfl) (ecs_one HWk.out.own) ?_
      have HZ := Lib.hid HWk.out.res
      generalize wr.setRow g1 (ecs e (.slice vA k vc) O co) = w9 at HZ ⊢
      have HEC : Hid (EnC w9 e (ecs e (.slice vA e.ups.length vc) O co) vA vc O co ts) := Lib.hid ⟨rfl, by
          have h1 := HZ.out.2.2
          rw [HNU.out, List.take_length] at h1
          exact rdk_own h1, H0.out.fit, (H0.out.below HZ.out.2.1).objs, H0.out.txt⟩
      simp only [Act.put]
      go_wp2
      exact bodyPost_ret (v := .tuple #[.agg (ecs e (.slice vA k vc) O co), .bool true]) (results_cell_row2 rfl _ _ g1 29 (ecs e (.slice vA k vc) O co) _ _ (by rfl) (by rfl) HZ.out.1 (by first | exact Tryd.underlying29 | kernel_rfl) rfl (rent5_load rfl)) rfl ⟨HZ.out.2.1, fun _ => ⟨vA, vc, by rw [HNU.out], HEC.out⟩, fun h => (by rw [HF.out] at h; cases h)⟩
end Go.Proofs.YtldfjpafpfakcaaDoor
/- Rows cloned (slices.Clone): updates, texts. -/
namespace Go.Proofs.YtldfjpafpfakcaaDoor
open Go Go.RowKit
theorem upd_info : (Tryd.prog.info? 38).map (fun i => (i.zero, i.size, i.bytes)) = some (some (.agg (cellsU1 ⟨⟨#[]⟩, List.replicate 32 0, List.replicate 32 0⟩).toArray), 65, 80) := by kernel_rfl
theorem bts_info : (Tryd.prog.info? 39).map (fun i => (i.zero, i.size, i.bytes)) = some (some (.slice none 0 0), 1, 24) := by kernel_rfl
theorem cellsU_len {us : List En.Up} (hf : ∀ u ∈ us, u.Fit) : (cellsU us).length = us.length * 65 := by
  induction us with
  | nil => rfl
  | cons u us ih =>
    have h1 : cellsU (u :: us) = cellsU1 u ++ cellsU us := List.flatMap_cons ..
    rw [h1, List.length_append, ih (fun v hv => hf v (List.mem_cons_of_mem _ hv)), cellsU1_len (hf u (List.mem_cons_self ..)), List.length_cons]
    omega
theorem cellsU_one (us : List En.Up) : ∀ v ∈ cellsU us, v.oneCell' = true := fun v hv => by
  obtain ⟨u, _, h⟩ := List.mem_flatMap.1 hv
  have h1 := cellsU1_one u
  rw [Array.all_eq_true_iff_forall_mem] at h1
  exact h1 v (by simpa using h)
theorem own_none (w : World) (B : Nat) (e : TypeId) (z : Nat) (h : B ≤ w.heap.size) : (w.alloc (.cells #[] e)).ownsRow B e z (.slice (some ⟨w.heap.size, 0, none⟩) 0 0) 0 [] :=
  ⟨by simp, .inr ⟨w.heap.size, 0, #[], rfl, h, heap_alloc_new w _, Nat.le_refl _, by unfold maxLen; omega, by simp, by simp⟩⟩
set_option maxRecDepth 100000 in
set_option maxHeartbeats 2000000 in
theorem cloneU_any (us : List En.Up) (A : Option Addr) (n c : Nat) (w : World) (hx : RdK w (.slice A n c) n (cellsU us)) (hl : n = us.length) (hf : ∀ u ∈ us, u.Fit) (hn : n ≤ 1000) :
    Calls Tryd.prog 14 #[.slice A n c] w fun e w' => ∃ v, e = .returned v ∧ w'.ownsRow w.heap.size 38 65 v n (cellsU us) ∧ Below w.heap.size w w' := by
  have qT : ∀ (w : World) (a : Option Addr) (n c n' c' : Nat), (binOp .eql 22 (.slice a n c) (.slice none n' c')).run Tryd.prog w = .ok (.bool a.isNone) w := fun w a n c n' c' => Lib.run_eql_slice_nil w _ _ a n c n' c' Tryd.underlying22
  obtain ⟨A', c', hv, hc, hA⟩ := hx
  injection hv with e1 _ e3
  subst e1 e3
  cases A with
  | none =>
    have h0 : n = 0 := by
      rcases Nat.eq_zero_or_pos n with h | h
      · exact h
      · obtain ⟨b, o, ha, _⟩ := hA h
        cases ha
    have HE : Hid (us = []) := Lib.hid (List.eq_nil_of_length_eq_zero (by omega))
    subst h0
    clear hA hf hl
    go_enter Tryd.func14, Tryd.ntmps14
    go_wp2
    go_ret
    exact ⟨_, rfl, by rw [HE.out]; exact World.ownsRow_nil _ _ _ _, Below.refl _ _⟩
  | some ad =>
    have HA := Lib.hid hA
    have HL : Hid ((cellsU us).length = n * 65) := Lib.hid (by rw [cellsU_len hf, hl])
    have HN := Lib.hid hn
    obtain ⟨ip, hip, hpz, hps, hpb⟩ := info_parts upd_info
    have HIP : Hid (_ ∧ _ ∧ _ ∧ _) := Lib.hid ⟨hip, hpz, hps, hpb⟩
    have bb : Below w.heap.size w (w.alloc (.cells #[] 38)) := (Below.refl _ _).alloc (Nat.le_refl _) _
    have HO := Lib.hid (own_none w w.heap.size 38 65 (Nat.le_refl _))
    have HB := Lib.hid bb
    clear hA hf hl hip hpz hps hpb bb
    go_enter Tryd.func14, Tryd.ntmps14
    go_wp2_with (with_reducible (show wpList _ _ _ (Oper.mk _ (Op.call (Call.mk (Callee.builtin Builtin.append) _ _)) _ _ _ _ :: _) _ _); refine pause ?_)
    unfold Paused
    refine wpList_append_own (w.alloc (.cells #[] 38)) (by rfl) (.tmp 5) (.tmp 6) 22 (by rfl) w.heap.size 38 ip _ 65 80 Tryd.underlying22 HIP.out.1 HIP.out.2.1 HIP.out.2.2.1 HIP.out.2.2.2 (by rfl) (by decide) (.slice (some ⟨w.heap.size, 0, none⟩) 0 0) 0 [] (by rfl) HO.out ad n c (cellsU us) (by rfl) HL.out (fun j u hj => ?_) (cellsU_one us) (by have := HN.out; unfold maxLen; omega) (by have := HN.out; omega) HB.out.size ?_
    · have hj0 : 0 < n := by
        have h1 := (List.getElem?_eq_some_iff.1 hj).1
        have h2 := HL.out
        omega
      obtain ⟨b, o, ha, hb, hc⟩ := HA.out hj0
      injection ha with ha
      subst ha
      rw [Addr.add_mid]
      exact (HB.out.cell (p := ⟨b, o + j, none⟩) hb).trans (hc j u hj)
    intro v' w' ho hg _
    have HR : Hid (w'.ownsRow w.heap.size 38 65 v' n (cellsU us)) := Lib.hid (by
      rw [Nat.zero_add, List.nil_append] at ho
      exact ho)
    have HB2 : Hid (Below w.heap.size w w') := Lib.hid (below_of_only HB.out hg (by simp))
    clear ho hg
    simp only [Act.put]
    go_wp2
    go_ret
    exact ⟨_, rfl, HR.out, HB2.out⟩
set_option maxRecDepth 100000 in
set_option maxHeartbeats 2000000 in
theorem cloneT_any (ts : List En.Bt) (A : Option Addr) (n c : Nat) (w : World) (hx : BtT w A n ts) (hc : A = none → n = 0) (hn : n ≤ 100000) :
    Calls Tryd.prog 15 #[.slice A n c] w fun e w' => ∃ v, e = .returned v ∧ w'.ownsRow w.heap.size 39 1 v n (ts.map (·.val)) ∧ Below w.heap.size w w' := by
  have qT : ∀ (w : World) (a : Option Addr) (n c n' c' : Nat), (binOp .eql 23 (.slice a n c) (.slice none n' c')).run Tryd.prog w = .ok (.bool a.isNone) w := fun w a n c n' c' => Lib.run_eql_slice_nil w _ _ a n c n' c' Tryd.underlying23
  have hl := hx.len
  cases A with
  | none =>
    have h0 := hc rfl
    have HE : Hid (ts = []) := Lib.hid (List.eq_nil_of_length_eq_zero (by omega))
    subst h0
    clear hx hc hl
    go_enter Tryd.func15, Tryd.ntmps15
    go_wp2
    go_ret
    exact ⟨_, rfl, by rw [HE.out]; exact World.ownsRow_nil _ _ _ _, Below.refl _ _⟩
  | some ad =>
    have HX := Lib.hid hx
    have HL : Hid ((ts.map (·.val)).length = n * 1) := Lib.hid (by rw [List.length_map]; omega)
    have HN := Lib.hid hn
    have H1 : Hid (∀ v ∈ ts.map (·.val), v.oneCell' = true) := Lib.hid (fun v hv => by
      obtain ⟨t, ht, rfl⟩ := List.mem_map.1 hv
      obtain ⟨⟨A1, c1, h, _⟩, _⟩ := hx.rd t ht
      rw [h]; rfl)
    obtain ⟨ip, hip, hpz, hps, hpb⟩ := info_parts bts_info
    have HIP : Hid (_ ∧ _ ∧ _ ∧ _) := Lib.hid ⟨hip, hpz, hps, hpb⟩
    have bb : Below w.heap.size w (w.alloc (.cells #[] 39)) := (Below.refl _ _).alloc (Nat.le_refl _) _
    have HO := Lib.hid (own_none w w.heap.size 39 1 (Nat.le_refl _))
    have HB := Lib.hid bb
    clear hx hc hl hip hpz hps hpb bb
    go_enter Tryd.func15, Tryd.ntmps15
    go_wp2_with (with_reducible (show wpList _ _ _ (Oper.mk _ (Op.call (Call.mk (Callee.builtin Builtin.append) _ _)) _ _ _ _ :: _) _ _); refine pause ?_)
    unfold Paused
    refine wpList_append_own (w.alloc (.cells #[] 39)) (by rfl) (.tmp 5) (.tmp 6) 23 (by rfl) w.heap.size 39 ip _ 1 24 Tryd.underlying23 HIP.out.1 HIP.out.2.1 HIP.out.2.2.1 HIP.out.2.2.2 (by rfl) (by decide) (.slice (some ⟨w.heap.size, 0, none⟩) 0 0) 0 [] (by rfl) HO.out ad n c (ts.map (·.val)) (by rfl) HL.out (fun j u hj => ?_) H1.out (by have := HN.out; unfold maxLen; omega) (by have := HN.out; omega) HB.out.size ?_
    · have hj0 : 0 < n := by
        have h1 := (List.getElem?_eq_some_iff.1 hj).1
        have h2 := HL.out
        omega
      obtain ⟨b, o, ha, hb, hc⟩ := HX.out.row hj0
      injection ha with ha
      subst ha
      rw [Addr.add_mid]
      rw [List.getElem?_map] at hj
      obtain ⟨t, ht, rfl⟩ := Option.map_eq_some_iff.1 hj
      exact (HB.out.cell (p := ⟨b, o + j, none⟩) hb).trans (hc j t ht)
    intro v' w' ho hg _
    have HR : Hid (w'.ownsRow w.heap.size 39 1 v' n (ts.map (·.val))) := Lib.hid (by
      rw [Nat.zero_add, List.nil_append] at ho
      exact ho)
    have HB2 : Hid (Below w.heap.size w w') := Lib.hid (below_of_only HB.out hg (by simp))
    clear ho hg
    simp only [Act.put]
    go_wp2
    go_ret
    exact ⟨_, rfl, HR.out, HB2.out⟩
end Go.Proofs.YtldfjpafpfakcaaDoor
