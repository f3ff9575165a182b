/- A disk stands where its blocks do; a disk that goes on apart ((*Disk).Copy). -/
import Derived.Test.YtpmadlkkldbceaaDoorDisk10
import Derived.Shelf.SlMaps.Clone
import Derived.Lib.Hide
namespace Go.Proofs.YtpmadlkkldbceaaDoor
open Go Go.RowKit Go.Maps
section
variable {B : Nat} {w w' : World} {d ms ml c1 c2 : Nat} {S : Dk.D} {v : Value} {fS : Int → Option Value}
theorem ownsRow_stands {base e s n : Nat} {xs : List Value} (h : w.ownsRow base e s v n xs) (k : ∀ b, v.ownBlock = some b → w'.heap[b]? = w.heap[b]?) : w'.ownsRow base e s v n xs := by
  refine ⟨h.1, ?_⟩
  rcases h.2 with hn | ⟨g, cap, cur, rfl, hb, hg, hr⟩
  · exact .inl hn
  · exact .inr ⟨g, cap, cur, rfl, hb, (k g rfl).trans hg, hr⟩
theorem ownsRow_base {base base' e s n : Nat} {xs : List Value} (h : w.ownsRow base e s v n xs) (hb : base' ≤ base) : w.ownsRow base' e s v n xs := by
  refine ⟨h.1, ?_⟩
  rcases h.2 with hn | ⟨g, cap, cur, rfl, h1, hg, hr⟩
  · exact .inl hn
  · exact .inr ⟨g, cap, cur, rfl, Nat.le_trans hb h1, hg, hr⟩
theorem DiskAt.stands (h : DiskAt B w d S ms ml v c1 c2 fS) (k : ∀ b, (b = d ∨ b = ms ∨ b = ml ∨ v.ownBlock = some b) → w'.heap[b]? = w.heap[b]?) : DiskAt B w' d S ms ml v c1 c2 fS :=
  ⟨h.blk.stands (k d (Or.inl rfl)), h.safe.block (k ms (Or.inr (Or.inl rfl))), h.safeAt, h.last.block (k ml (Or.inr (Or.inr (Or.inl rfl)))), ownsRow_stands h.row fun b hb => k b (Or.inr (Or.inr (Or.inr hb))), h.ok, h.bd, h.ne, h.c1, h.c2⟩
theorem DiskAt.lts (h : DiskAt B w d S ms ml v c1 c2 fS) : ∀ b, (b = d ∨ b = ms ∨ b = ml ∨ v.ownBlock = some b) → B ≤ b ∧ b < w.heap.size := fun b hb => by
  rcases hb with rfl | rfl | rfl | hb
  · exact ⟨h.bd.1, h.blk.lt⟩
  · exact ⟨h.bd.2.1, h.safe.lt⟩
  · exact ⟨h.bd.2.2, h.last.lt⟩
  · exact h.row.lt b hb
/-- what lay before the disk stands through its deeds -/
theorem DiskAt.run {w0 : World} (h : DiskAt B w d S ms ml v c1 c2 fS) (hB : w0.heap.size ≤ B) (hb : Below w0.heap.size w0 w) (hf : Fr w w' d ms ml v) : Below w0.heap.size w0 w' :=
  ⟨hf.os.trans hb.os, hf.tape.trans hb.tape, hf.output.trans hb.output, Nat.le_trans hb.size hf.size, fun b hi => by
    have l := h.lts
    refine (hf.block b (Nat.lt_of_lt_of_le hi hb.size) (fun e => ?_) (fun e => ?_) (fun e => ?_) (fun e => ?_)).trans (hb.block b hi)
    · have := (l b (Or.inl e)).1; omega
    · have := (l b (Or.inr (Or.inl e))).1; omega
    · have := (l b (Or.inr (Or.inr (Or.inl e)))).1; omega
    · have := (l b (Or.inr (Or.inr (Or.inr e.symm)))).1; omega⟩
theorem MapF.copied {b n : Nat} {f : Int → Option Value} (h : MapF w b n f) : ∃ es clock, w.heap[b]? = some (.map es clock) ∧ MapF (w.alloc (.map es clock)) w.heap.size n f := by
  obtain ⟨D, ⟨es, clock, h1, h2, h3, h4⟩, k⟩ := h
  exact ⟨es, clock, h1, D, ⟨es, clock, (MapKept.heap_alloc w _).1, h2, h3, h4⟩, k⟩
end
set_option maxRecDepth 100000 in
theorem clone_safe (b n : Nat) (f : Int → Option Value) (w : World) (h : MapF w b n f) :
    Calls Tryd.prog 33 #[.map (some b)] w fun e w' => e = .returned (.map (some w.heap.size)) ∧ MapF w' w.heap.size n f ∧ Below w.heap.size w w' := by
  obtain ⟨es, clock, hb, hm⟩ := h.copied
  have HM := Lib.hid hm
  have hq := fun w => run_eql_map_nil_sl (P := Tryd.prog) w 53 _ _ (some b) Tryd.underlying53
  have hc := run_maps_clone_sl (P := Tryd.prog) w 53 hb
  have hx := @run_callFunc_extern Tryd.prog 41 _ Extern.MapsClone.clone Tryd.func41 (by kernel_rfl) (by kernel_rfl) (by kernel_rfl) (by kernel_rfl)
  clear hm h
  go_enter Tryd.func33, Tryd.ntmps33
  go_wp2
  rw [run_typeAssert_map_sl _ 53 _ _ _ _ Tryd.underlying53]
  simp only [Result.andThen]
  rw [Oper.upon_value]
  go_wp2
  go_ret
  exact ⟨rfl, HM.out, (Below.refl _ _).alloc (Nat.le_refl _) _⟩
set_option maxRecDepth 100000 in
theorem clone_last (b n : Nat) (f : Int → Option Value) (w : World) (h : MapF w b n f) :
    Calls Tryd.prog 35 #[.map (some b)] w fun e w' => e = .returned (.map (some w.heap.size)) ∧ MapF w' w.heap.size n f ∧ Below w.heap.size w w' := by
  obtain ⟨es, clock, hb, hm⟩ := h.copied
  have HM := Lib.hid hm
  have hq := fun w => run_eql_map_nil_sl (P := Tryd.prog) w 54 _ _ (some b) Tryd.underlying54
  have hc := run_maps_clone_sl (P := Tryd.prog) w 54 hb
  have hx := @run_callFunc_extern Tryd.prog 41 _ Extern.MapsClone.clone Tryd.func41 (by kernel_rfl) (by kernel_rfl) (by kernel_rfl) (by kernel_rfl)
  clear hm h
  go_enter Tryd.func35, Tryd.ntmps35
  go_wp2
  rw [run_typeAssert_map_sl _ 54 _ _ _ _ Tryd.underlying54]
  simp only [Result.andThen]
  rw [Oper.upon_value]
  go_wp2
  go_ret
  exact ⟨rfl, HM.out, (Below.refl _ _).alloc (Nat.le_refl _) _⟩
set_option maxRecDepth 100000 in
theorem clone_row {B : Nat} (v : Value) (ps : List (Nat × List Nat)) (w : World) (h : w.ownsRow B 68 33 v ps.length (cellsW ps)) (h0 : ps = [] → v = .slice none 0 0) (hl : ∀ p ∈ ps, p.2.length = 32) (hn : ps.length ≤ 1000000) :
    Calls Tryd.prog 34 #[v] w fun e w' => ∃ v', e = .returned v' ∧ w'.ownsRow w.heap.size 68 33 v' ps.length (cellsW ps) ∧ (ps = [] → v' = .slice none 0 0) ∧ Below w.heap.size w w' := by
  have q22 : ∀ (w : World) (a : Option Addr) (n c n' c' : Nat), (binOp .eql 55 (.slice a n c) (.slice none n' c')).run Tryd.prog w = .ok (.bool a.isNone) w := fun w a n c n' c' => Lib.run_eql_slice_nil w _ _ a n c n' c' Tryd.underlying55
  rcases h.2 with ⟨rfl, hn0⟩ | ⟨g, cap, cur, rfl, hg, hh, hr⟩
  · have e : ps = [] := List.eq_nil_of_length_eq_zero hn0
    subst e
    clear h h0
    go_enter Tryd.func34, Tryd.ntmps34
    go_wp2
    go_ret
    exact ⟨_, rfl, ⟨by simp [cellsW], Or.inl ⟨rfl, rfl⟩⟩, fun _ => rfl, Below.refl _ _⟩
  · have hpos : ps ≠ [] := fun e => by have := h0 e; cases this
    have HPOS := Lib.hid hpos
    have hgl : g < w.heap.size := (Array.getElem?_eq_some_iff.1 hh).1
    have HR : Hid ((w.alloc (.cells #[] 68)).rangeAt g 0 (cellsW ps)) := Lib.hid (fun j u hj => by
      rw [Nat.zero_add, World.cell?_of_block (a := ⟨g, j, none⟩) (Below.heap_alloc w _ g hgl)]
      have hjl : j < ps.length * 33 := by have := (List.getElem?_eq_some_iff.1 hj).1; rwa [cellsW_len ps hl] at this
      rw [h.cellAt j hjl]; exact hj)
    have HL : Hid ((cellsW ps).length = ps.length * 33) := Lib.hid (cellsW_len ps hl)
    have H1 : Hid (∀ u ∈ cellsW ps, u.oneCell' = true) := Lib.hid (fun u hu => by
      obtain ⟨p, hp, hu⟩ := List.mem_flatMap.1 hu
      exact wcells_one p.1 p.2 u hu)
    have HF : Hid (0 + ps.length ≤ maxLen ∧ (0 + ps.length) * 40 ≤ 140737488355328) := Lib.hid ⟨by unfold maxLen; omega, by omega⟩
    obtain ⟨i0, hi0, hiz, his, hib⟩ := info_parts write_info
    clear h h0 hl hh hr hpos
    go_enter Tryd.func34, Tryd.ntmps34
    have HE : Hid ((w.alloc (.cells #[] 68)).ownsRow w.heap.size 68 33 (.slice (some ⟨w.heap.size, 0, none⟩) 0 0) 0 []) := Lib.hid (World.ownsRow_made w #[] 0 (Nat.le_refl _) (Nat.zero_le _) (by simp))
    go_wp2_with (refine wpList_append_own (w.alloc (.cells #[] 68)) rfl (.tmp 5) (.tmp 6) 55 rfl w.heap.size 68 i0 _ 33 40 Tryd.underlying55 hi0 hiz his hib rfl (by decide) (.slice (some ⟨w.heap.size, 0, none⟩) 0 0) 0 [] rfl HE.out ⟨g, 0, none⟩ ps.length cap (cellsW ps) rfl HL.out (fun j u hj => by rw [Addr.add_lit]; exact HR.out j u hj) H1.out HF.out.1 HF.out.2 (by simp) ?_; intro v' w1 hown hgrow hnil)
    have HOWN := Lib.hid hown
    have HB : Hid (Below w.heap.size w w1) := Lib.hid (((Below.refl _ w).alloc (Nat.le_refl _) _).grown hgrow (by simp) (by intro k hk; simp [Value.ownBlock] at hk; omega))
    clear hown hgrow hnil
    go_wp2
    go_ret
    exact ⟨v', rfl, by simpa using HOWN.out, fun e => absurd e HPOS.out, HB.out⟩
section
variable {B : Nat} {d ms ml c1 c2 : Nat} {S : Dk.D} {v : Value} {fS : Int → Option Value}
def diskCells0 : List Value := [.int .i64 0, .map none, .slice none 0 0, .map none, .bool false, .bool false, .int .i64 0, .int .i64 0]
def diskCells (S : Dk.D) (ms ml : Nat) (v : Value) : List Value := [.int .i64 (S.size : Int), .map (some ms), v, .map (some ml), .bool S.off, .bool S.armed, .int .i64 (S.left : Int), .int .i64 (S.deeds : Int)]
theorem disk_size : (Tryd.prog.info? 57).map (·.size) = some 8 := by kernel_rfl
theorem disk_zero : (Tryd.prog.info? 57).map (fun i => (i.zero, i.size)) = some (some (.agg #[.int .i64 0, .map none, .slice none 0 0, .map none, .bool false, .bool false, .int .i64 0, .int .i64 0]), 8) := by kernel_rfl
set_option maxRecDepth 100000 in
theorem copy_any (w : World) (h : DiskAt B w d S ms ml v c1 c2 fS) (h0 : S.pend = [] → v = .slice none 0 0) :
    Calls Tryd.prog 20 #[.pointer (some ⟨d, 0, none⟩)] w fun e w' => ∃ c ms' ml' v', e = .returned (.pointer (some ⟨c, 0, none⟩)) ∧ DiskAt w.heap.size w' c S ms' ml' v' c1 c2 fS ∧ (S.pend = [] → v' = .slice none 0 0) ∧ Below w.heap.size w w' := by
  have HD := Lib.hid h
  have H0 := Lib.hid h0
  have HONE : Hid ((diskCells S ms ml v).toArray.all (·.oneCell') = true) := Lib.hid (by obtain ⟨A, c, hv⟩ := row_slice h.row; rw [hv]; simp [diskCells, Value.oneCell'])
  have HBK : Hid (w.rangeAt d 0 (diskCells S ms ml v)) := Lib.hid (row_of_blk h.blk)
  have HB1 : Hid (Blk (w.alloc (.cells (diskCells0).toArray 57)) w.heap.size 57 diskCells0.toArray) := Lib.hid (Blk.new w _ _)
  have HB2 : Hid (Blk ((w.alloc (.cells (diskCells0).toArray 57)).setRow w.heap.size (diskCells S ms ml v).toArray) w.heap.size 57 (diskCells S ms ml v).toArray) := Lib.hid (HB1.out.row _)
  have HBW : Hid (Below w.heap.size w ((w.alloc (.cells (diskCells0).toArray 57)).setRow w.heap.size (diskCells S ms ml v).toArray)) := Lib.hid (below_row ((Below.refl _ _).alloc (Nat.le_refl _) _) (Nat.le_refl _) _)
  clear h h0
  go_enter Tryd.func20, Tryd.ntmps20
  go_wp2_with (first
    | (refine wpList_load_mid rfl 57 (.tmp 5) rfl d 0 rfl (diskCells S ms ml v) _ HBK.out Tryd.underlying57 rfl disk_size ?_)
    | (refine wpList_store_row rfl 57 (.tmp 3) (.tmp 6) rfl w.heap.size (diskCells S ms ml v).toArray rfl rfl 57 diskCells0.toArray HB1.out disk_size rfl HONE.out ?_; change wpList _ _ _ _ _ ((w.alloc (.cells (diskCells0).toArray 57)).setRow w.heap.size (diskCells S ms ml v).toArray); generalize ((w.alloc (.cells (diskCells0).toArray 57)).setRow w.heap.size (diskCells S ms ml v).toArray) = wz at *; have p1 : wz.cell? ⟨d, 1, none⟩ = some (.map (some ms)) := (HD.out.below HBW.out).blk.cell 1)
    | (go_at_call 33; refine (clone_safe ms c1 fS wz (HD.out.below HBW.out).safe).mono ?_; rintro e w2 ⟨rfl, hm2, hb2⟩
       have hbk2 := HB2.out.below hb2 HB2.out.lt
       have p4 := hbk2.cell 1
       have z4 := hbk2.frozen 1
       have HB3 := Lib.hid (hbk2.set_ 1 (.map (some wz.heap.size)))
       have HBW3 := Lib.hid (below_of_only (HBW.out.trans (hb2.mono HBW.out.size)) (set_own (d := w.heap.size) 1 (.map (some wz.heap.size))) (Nat.le_refl _))
       have HM3 := Lib.hid (hm2.kept (set_own (d := w.heap.size) 1 (.map (some wz.heap.size))) (fun e => by injection e with e; have := HB2.out.lt; omega))
       have p2 : (w2.setCell ⟨w.heap.size, 1, none⟩ (.map (some wz.heap.size))).cell? ⟨d, 2, none⟩ = some v := (HD.out.below HBW3.out).blk.cell 2
       clear hm2 hb2 hbk2)
    | (go_at_call 34; refine (clone_row v S.pend _ (HD.out.below HBW3.out).row H0.out (fun p hp => (HD.out.ok.plen p hp).2.1) HD.out.ok.few).mono ?_; rintro e w4 ⟨v', rfl, ho4, hn4, hb4⟩
       obtain ⟨A4, k4, rfl⟩ := row_slice ho4
       have hbk4 := HB3.out.below hb4 HB3.out.lt
       have p5 : w4.cell? ⟨w.heap.size, 2, none⟩ = some v := hbk4.cell 2
       have z5 := hbk4.frozen 2
       have HB5 := Lib.hid (hbk4.set_ 2 (.slice A4 S.pend.length k4))
       have HO4 := Lib.hid ho4
       have HN4 := Lib.hid hn4
       have HM4 := Lib.hid (HM3.out.below hb4)
       have HBW4 := Lib.hid (HBW3.out.trans (hb4.mono HBW3.out.size))
       have HBW5 := Lib.hid (below_of_only HBW4.out (set_own (d := w.heap.size) 2 (.slice A4 S.pend.length k4)) (Nat.le_refl _))
       have p3 : (w4.setCell ⟨w.heap.size, 2, none⟩ (.slice A4 S.pend.length k4)).cell? ⟨d, 3, none⟩ = some (.map (some ml)) := (HD.out.below HBW5.out).blk.cell 3
       clear ho4 hn4 hb4 hbk4))
  go_at_call 35
  refine (clone_last ml c2 _ _ (HD.out.below HBW5.out).last).mono ?_
  rintro e w6 ⟨rfl, hm6, hb6⟩
  have e5 : (w4.setCell ⟨w.heap.size, 2, none⟩ (.slice A4 S.pend.length k4)).heap.size = w4.heap.size := by simp [World.setCell]
  rw [e5] at hm6
  have hbk6 := HB5.out.below hb6 HB5.out.lt
  have p7 : w6.cell? ⟨w.heap.size, 3, none⟩ = some (.map (some ml)) := hbk6.cell 3
  have z7 := hbk6.frozen 3
  have HB7 := Lib.hid (hbk6.set_ 3 (.map (some w4.heap.size)))
  have HM7 := Lib.hid hm6
  have HB6 := Lib.hid hb6
  clear hm6 hb6 hbk6
  go_wp2
  go_ret
  have l0 := HB2.out.lt
  have l1 := HM3.out.lt
  have l4 := HM4.out.lt
  have l7 := HM7.out.lt
  have l5 : w4.heap.size ≤ (w4.setCell ⟨w.heap.size, 2, none⟩ (.slice A4 S.pend.length k4)).heap.size := Nat.le_of_eq e5.symm
  have ls := HB6.out.size
  have g5 : w4.grownBy (w4.setCell ⟨w.heap.size, 2, none⟩ (.slice A4 S.pend.length k4)) (some w.heap.size) := set_own 2 _
  have g7 : w6.grownBy (w6.setCell ⟨w.heap.size, 3, none⟩ (.map (some w4.heap.size))) (some w.heap.size) := set_own 3 _
  refine ⟨w.heap.size, wz.heap.size, w4.heap.size, .slice A4 S.pend.length k4, rfl, ⟨?_, ?_, HD.out.safeAt, ?_, ?_, HD.out.ok, ⟨Nat.le_refl _, by omega, by omega⟩, ⟨by omega, by omega, by omega⟩, HD.out.c1, HD.out.c2⟩, HN4.out, ?_⟩
  · have := HB7.out
    simp only [diskCells, List.setIfInBounds_toArray, List.set_cons_zero, List.set_cons_succ] at this
    exact this
  · exact ((HM4.out.kept g5 (fun e => by injection e with e; omega)).below HB6.out).kept g7 (fun e => by injection e with e; omega)
  · exact HM7.out.kept g7 (fun e => by injection e with e; omega)
  · refine ownsRow_base (ownsRow_stands HO4.out fun b hb => ?_) (Nat.le_of_lt (Nat.lt_of_lt_of_le l0 (Nat.le_of_lt l1)))
    have l := HO4.out.lt b hb
    have hne : b ≠ w.heap.size := by omega
    exact (g7.block b (Nat.lt_of_lt_of_le l.2 (Nat.le_trans l5 ls)) (fun e => hne (by injection e))).trans ((HB6.out.block b (Nat.lt_of_lt_of_le l.2 l5)).trans (g5.block b l.2 (fun e => hne (by injection e))))
  · exact below_of_only (HBW5.out.trans (HB6.out.mono HBW5.out.size)) g7 (Nat.le_refl _)
end
end Go.Proofs.YtpmadlkkldbceaaDoor
