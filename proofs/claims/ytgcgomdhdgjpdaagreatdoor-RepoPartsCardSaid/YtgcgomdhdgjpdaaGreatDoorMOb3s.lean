/- Entries compared, alone and in rows. -/
import Derived.Test.YtgcgomdhdgjpdaaGreatDoorMLawOpen3s
namespace Go.Proofs.YtgcgomdhdgjpdaaGreatDoor
open Go Go.RowKit
theorem id_eq9 (d : Nat) (w : World) (x y : List Nat) (hx : Id32 x) (hy : Id32 y) : (Op.equalIn (d + 2) 41 (.agg (cellsB x).toArray) (.agg (cellsB y).toArray)).run Tryz.prog w = .ok (eqv x y) w := by
 rw [← beq_eqv, ← ofNat_inj x y hx.2 hy.2]
 have h := run_equalIn_bytes w d 41 5 32 Tryz.underlying41 Tryz.underlying5 size_u8 (x.map UInt8.ofNat) (y.map UInt8.ofNat) (by rw [List.length_map, hx.1]) (by rw [List.length_map, hy.1])
 rw [← u8s_cell x hx.2, ← u8s_cell y hy.2] at h
 exact h
theorem toList_inj {a b : ByteArray} : (a.toList == b.toList) = eqv a b := by
 rw [Bool.eq_iff_iff, beq_iff_eq, eqv_iff, ByteArray.toList_eq, ByteArray.toList_eq]
 refine ⟨fun h => ?_, fun h => by rw [h]⟩
 obtain ⟨⟨x⟩⟩ := a
 obtain ⟨⟨y⟩⟩ := b
 have h : x = y := h
 rw [h]
theorem eqf_true {P : Program} {w : World} {d : Nat} {xs ys : Array Value} {f : Field} {fs : List Field} (hn : f.name ≠ "_") {t : TypeId} {o : Nat} (ht : f.type = t) (ho : f.offset = o) {a b : Value}
  (ha : (part t xs o).run P w = .ok a w) (hb : (part t ys o).run P w = .ok b w) (he : (Op.equalIn d t a b).run P w = .ok true w) : (Op.eqFields d xs ys (f :: fs)).run P w = (Op.eqFields d xs ys fs).run P w := by
 subst ht ho
 rw [Op.eqFields, if_pos hn]
 simp only [Sem.run_bind, ha, hb, he, Result.andThen_ok]
 rfl
theorem eqf_false {P : Program} {w : World} {d : Nat} {xs ys : Array Value} {f : Field} {fs : List Field} (hn : f.name ≠ "_") {t : TypeId} {o : Nat} (ht : f.type = t) (ho : f.offset = o) {a b : Value}
  (ha : (part t xs o).run P w = .ok a w) (hb : (part t ys o).run P w = .ok b w) (he : (Op.equalIn d t a b).run P w = .ok false w) : (Op.eqFields d xs ys (f :: fs)).run P w = .ok false w := by
 subst ht ho
 rw [Op.eqFields, if_pos hn]
 simp only [Sem.run_bind, ha, hb, he, Result.andThen_ok]
 rfl
namespace En
structure Up where
 ref : ByteArray
 old : List Nat
 new : List Nat
def Up.Fit (u : Up) : Prop := Id32 u.old ∧ Id32 u.new
end En
def cellsU1 (u : En.Up) : List Value := .string u.ref :: (cellsB u.old ++ cellsB u.new)
def cellsU (us : List En.Up) : List Value := us.flatMap cellsU1
theorem cellsU1_len {u : En.Up} (h : u.Fit) : (cellsU1 u).length = 65 := by
 simp [cellsU1, cellsB_len, h.1.1, h.2.1]
theorem RdK.up {w : World} {A : Option Addr} {n c : Nat} {us : List En.Up} (h : RdK w (.slice A n c) n (cellsU us)) (hn : n = us.length) (hf : ∀ u ∈ us, u.Fit) {k : Nat} (hk : k < us.length) :
  ∃ b o, A = some ⟨b, o, none⟩ ∧ b < w.heap.size ∧ w.rangeAt b (o + k * 65) (cellsU1 us[k]) := by
 obtain ⟨A', c', hv, hc, hA⟩ := h
 injection hv with e1 e2 e3
 subst e1
 obtain ⟨b, o, ha, hl, hx⟩ := hA (by omega)
 refine ⟨b, o, ha, hl, fun j u hu => ?_⟩
 have hj : j < 65 := by have := (List.getElem?_eq_some_iff.1 hu).1; rwa [cellsU1_len (hf _ (List.getElem_mem _))] at this
 rw [Nat.add_assoc]
 refine hx (k * 65 + j) u ?_
 rw [cellsU, Nat.mul_comm k 65, flat_get cellsU1 65 us (fun e he => cellsU1_len (hf e he)) k hk j hj, hu]
theorem up_ref (w : World) (u : En.Up) : (part 9 (cellsU1 u).toArray 0).run Tryz.prog w = .ok (.string u.ref) w := by
 simp [part, isAgg, run_underlying Tryz.underlying9, cellsU1]
theorem up_old (w : World) (u : En.Up) (h : u.Fit) : (part 41 (cellsU1 u).toArray 1).run Tryz.prog w = .ok (.agg (cellsB u.old).toArray) w := by
 have hx : List.take 32 (cellsU1 u).tail = cellsB u.old := by
  rw [cellsU1, List.tail_cons, List.take_append_of_le_length (by rw [cellsB_len, h.1.1]; omega), List.take_of_length_le (by rw [cellsB_len, h.1.1]; omega)]
 have hs : (cellsU1 u).toArray.size = 65 := by rw [List.size_toArray, cellsU1_len h]
 simp [part, isAgg, run_underlying Tryz.underlying41, Tryz.sizeOf41, hx, hs]
theorem up_new (w : World) (u : En.Up) (h : u.Fit) : (part 41 (cellsU1 u).toArray 33).run Tryz.prog w = .ok (.agg (cellsB u.new).toArray) w := by
 have hx : List.take 32 (List.drop 33 (cellsU1 u)) = cellsB u.new := by
  rw [cellsU1, List.drop_succ_cons, List.drop_append_of_le_length (by rw [cellsB_len, h.1.1]; omega), List.drop_of_length_le (by rw [cellsB_len, h.1.1]; omega), List.nil_append, List.take_of_length_le (by rw [cellsB_len, h.2.1]; omega)]
 have hs : (cellsU1 u).toArray.size = 65 := by rw [List.size_toArray, cellsU1_len h]
 simp [part, isAgg, run_underlying Tryz.underlying41, Tryz.sizeOf41, hx, hs]
theorem up_fields (w : World) (k : Nat) (f0 f1 f2 : Field) (n0 : f0.name ≠ "_") (n1 : f1.name ≠ "_") (n2 : f2.name ≠ "_") (t0 : f0.type = 9) (o0 : f0.offset = 0) (t1 : f1.type = 41) (o1 : f1.offset = 1) (t2 : f2.type = 41) (o2 : f2.offset = 33)
  (d e : En.Up) (hd : d.Fit) (he : e.Fit) : (Op.eqFields (k + 2) (cellsU1 d).toArray (cellsU1 e).toArray [f0, f1, f2]).run Tryz.prog w = .ok (eqv d e) w := by
 have k5 := run_equalIn_string (P := Tryz.prog) w (k + 1) 9 d.ref e.ref Tryz.underlying9
 rw [toList_inj] at k5
 have k6 := id_eq9 k w d.old e.old hd.1 he.1
 have k7 := id_eq9 k w d.new e.new hd.2 he.2
 by_cases h1 : d.ref = e.ref
 ·rw [eqv_true h1] at k5
  rw [eqf_true n0 t0 o0 (up_ref w d) (up_ref w e) k5]
  by_cases h2 : d.old = e.old
  ·rw [eqv_true h2] at k6
   rw [eqf_true n1 t1 o1 (up_old w d hd) (up_old w e he) k6]
   by_cases h3 : d.new = e.new
   ·have h4 : d = e := by
     obtain ⟨a1, a2, a3⟩ := d
     obtain ⟨b1, b2, b3⟩ := e
     dsimp only at h1 h2 h3
     rw [h1, h2, h3]
    rw [eqv_true h3] at k7
    rw [eqv_true h4, eqf_true n2 t2 o2 (up_new w d hd) (up_new w e he) k7]
    rfl
   ·have h4 : d ≠ e := fun h => h3 (by rw [h])
    rw [eqv_false h3] at k7
    rw [eqv_false h4, eqf_false n2 t2 o2 (up_new w d hd) (up_new w e he) k7]
  ·have h4 : d ≠ e := fun h => h2 (by rw [h])
   rw [eqv_false h2] at k6
   rw [eqv_false h4, eqf_false n1 t1 o1 (up_old w d hd) (up_old w e he) k6]
 ·have h4 : d ≠ e := fun h => h1 (by rw [h])
  rw [eqv_false h1] at k5
  rw [eqv_false h4, eqf_false n0 t0 o0 (up_ref w d) (up_ref w e) k5]
theorem up_eq_of (w : World) (t : TypeId) (ht : Tryz.prog.underlying t = some (.struct (Tryz.prog.fieldsOf t))) (hp : Tryz.prog.stoodInHeld t = false) (k : Nat) (hF : (Tryz.prog.fieldsOf t).toList.map (fun f => (f.name == "_", f.type, f.offset)) = [(false, 9, 0), (false, 41, 1), (false, 41, 33)])
  (d e : En.Up) (hd : d.Fit) (he : e.Fit) : (Op.equalIn (k + 3) t (.agg (cellsU1 d).toArray) (.agg (cellsU1 e).toArray)).run Tryz.prog w = .ok (eqv d e) w := by
 rw [run_equalIn_struct w (k + 2) t _ _ ht hp]
 generalize (Tryz.prog.fieldsOf t).toList = L at hF
 rcases L with _ | ⟨f0, _ | ⟨f1, _ | ⟨f2, _ | ⟨f3, L⟩⟩⟩⟩
 ·simp at hF
 ·simp at hF
 ·simp at hF
 ·simp only [List.map_cons, List.map_nil, List.cons.injEq, Prod.mk.injEq, and_true] at hF
  obtain ⟨⟨n0, t0, o0⟩, ⟨n1, t1, o1⟩, n2, t2, o2⟩ := hF
  exact up_fields w k f0 f1 f2 (beq_eq_false_iff_ne.1 n0) (beq_eq_false_iff_ne.1 n1) (beq_eq_false_iff_ne.1 n2) t0 o0 t1 o1 t2 o2 d e hd he
 ·simp at hF
theorem up_eq (w : World) (d e : En.Up) (hd : d.Fit) (he : e.Fit) : (Op.equalIn 10000 89 (.agg (cellsU1 d).toArray) (.agg (cellsU1 e).toArray)).run Tryz.prog w = .ok (eqv d e) w :=
 up_eq_of w 89 (by kernel_rfl) (by kernel_rfl) 9997 (by kernel_rfl) d e hd he
end Go.Proofs.YtgcgomdhdgjpdaaGreatDoor
/- Rows of updates compared (slices.Equal). -/
namespace Go.Proofs.YtgcgomdhdgjpdaaGreatDoor
open Go Go.RowKit
set_option maxRecDepth 100000 in
set_option maxHeartbeats 1000000 in
theorem eqU_any (A B : Option Addr) (c d : Nat) (xs ys : List En.Up) (w : World) (hx : RdK w (.slice A xs.length c) xs.length (cellsU xs)) (hy : RdK w (.slice B ys.length d) ys.length (cellsU ys)) (fx : ∀ x ∈ xs, x.Fit) (fy : ∀ x ∈ ys, x.Fit) (lx : xs.length ≤ 1000) :
  Calls Tryz.prog 45 #[.slice A xs.length c, .slice B ys.length d] w fun e w' => e = .returned (.bool (eqv xs ys)) ∧ ∃ m, w' = w.drewN m := by
 have HX := Lib.hid hx
 have HY := Lib.hid hy
 clear hx hy
 by_cases hl : xs.length = ys.length
 ·have b0 : ((xs.length : Int) != (ys.length : Int)) = false := by simp; omega
  have HL := Lib.hid hl
  clear hl
  go_enter Tryz.func45, Tryz.ntmps45
  go_wp2
  go_loopw [13] (fun i wr => ∃ k n : Nat, k ≤ xs.length ∧ i = .int .i64 k ∧ Hid (xs.take k = ys.take k) ∧ wr = w.drewN n) (fun i _ => xs.length - (intOf i).toNat)
  case atStart => exact ⟨0, 0, Nat.zero_le _, rfl, Lib.hid rfl, rfl⟩
  case round =>
   obtain ⟨k, n, hk, rfl, HT, rfl⟩ := hrel
   by_cases hlt : k < xs.length
   ·have hlt2 : k < ys.length := by rw [← HL.out]; exact hlt
    obtain ⟨b1, o1, rfl, _, g1⟩ := HX.out.up rfl fx hlt
    obtain ⟨b2, o2, rfl, _, g2⟩ := HY.out.up rfl fy hlt2
    have l1 : ∀ m, (Instr.loadAt 89 (.pointer (some ⟨b1, o1 + k * 65, none⟩))).run Tryz.prog (w.drewN m) = .ok (.agg (cellsU1 xs[k]).toArray) (w.drewN m) := fun m => run_loadAt_mid (w.drewN m) b1 (o1 + k * 65) 89 _ _ g1 Tryz.underlying89 rfl (by rw [cellsU1_len (fx _ (List.getElem_mem _))]; kernel_rfl)
    have l2 : ∀ m, (Instr.loadAt 89 (.pointer (some ⟨b2, o2 + k * 65, none⟩))).run Tryz.prog (w.drewN m) = .ok (.agg (cellsU1 ys[k]).toArray) (w.drewN m) := fun m => run_loadAt_mid (w.drewN m) b2 (o2 + k * 65) 89 _ _ g2 Tryz.underlying89 rfl (by rw [cellsU1_len (fy _ (List.getElem_mem _))]; kernel_rfl)
    have q0 : ∀ m, (Op.equalIn 10000 89 (.agg (cellsU1 xs[k]).toArray) (.agg (cellsU1 ys[k]).toArray)).run Tryz.prog (w.drewN m) = .ok (eqv xs[k] ys[k]) (w.drewN m) := fun m => up_eq _ _ _ (fx _ (List.getElem_mem _)) (fy _ (List.getElem_mem _))
    have HS := Lib.hid (show xs[k] = ys[k] → xs.take (k + 1) = ys.take (k + 1) from take_all hlt hlt2 HT.out)
    have HNE := Lib.hid (show xs[k] ≠ ys[k] → eqv xs ys = false from fun h => eqv_false fun e => by subst e; exact h rfl)
    generalize xs[k] = x at l1 q0 HS HNE
    generalize ys[k] = y at l2 q0 HS HNE
    clear g1 g2
    have i0 : ((k : Nat) : Int) < xs.length := by omega
    have i1 : (0 : Int) ≤ ((k : Nat) : Int) := by omega
    have i2 : ((k : Nat) : Int) < ys.length := by omega
    generalize (cellsU1 x).toArray = cx at l1 q0
    generalize (cellsU1 y).toArray = cy at l2 q0
    rcases Classical.em (x = y) with e | e
    ·have HN := Lib.hid (HS.out e)
     have hb : eqv x y = true := eqv_true e
     rw [hb] at q0
     have HQ := Lib.hid q0
     clear HS HNE e hb q0
     go_wp2
     refine wp_region_quiet_lit (by kernel_rfl) (by kernel_rfl) ?_
     repeat (first
      | go_big_quiet_step (fail)
      | (go_big_quiet_want; refine quiet_load 89 (.tmp 18) rfl _ rfl _ (by rintro _ ⟨m, rfl⟩; rw [World.drewN_drewN]; exact l1 _) ?_; go_big_quiet_on; simp only [Act.put, List.setIfInBounds_toArray, List.set_cons_zero, List.set_cons_succ])
      | (go_big_quiet_want; refine quiet_load 89 (.tmp 22) rfl _ rfl _ (by rintro _ ⟨m, rfl⟩; rw [World.drewN_drewN]; exact l2 _) ?_; go_big_quiet_on; simp only [Act.put, List.setIfInBounds_toArray, List.set_cons_zero, List.set_cons_succ])
      | (go_big_quiet_want; refine quiet_ne 89 (.tmp 19) (.tmp 23) _ rfl cx cy rfl rfl (by kernel_rfl) true (by rintro _ ⟨m, rfl⟩; rw [World.drewN_drewN]; exact HQ.out _) ?_; go_big_quiet_on; simp only [Act.put, List.setIfInBounds_toArray, List.set_cons_zero, List.set_cons_succ]))
     refine wpQuiet_nil ?_
     rintro _ ⟨nq, rfl⟩
     go_wp2
     go_roundw
     case rel => exact ⟨k + 1, n + nq, by omega, by go_num, HN, by simp⟩
     case measure => simp [intOf]; omega
    ·have HN := Lib.hid (HNE.out e)
     have hb : eqv x y = false := eqv_false e
     rw [hb] at q0
     have HQ := Lib.hid q0
     clear HS HNE e hb q0
     go_wp2
     refine wp_region_quiet_lit (by kernel_rfl) (by kernel_rfl) ?_
     repeat (first
      | go_big_quiet_step (fail)
      | (go_big_quiet_want; refine quiet_load 89 (.tmp 18) rfl _ rfl _ (by rintro _ ⟨m, rfl⟩; rw [World.drewN_drewN]; exact l1 _) ?_; go_big_quiet_on; simp only [Act.put, List.setIfInBounds_toArray, List.set_cons_zero, List.set_cons_succ])
      | (go_big_quiet_want; refine quiet_load 89 (.tmp 22) rfl _ rfl _ (by rintro _ ⟨m, rfl⟩; rw [World.drewN_drewN]; exact l2 _) ?_; go_big_quiet_on; simp only [Act.put, List.setIfInBounds_toArray, List.set_cons_zero, List.set_cons_succ])
      | (go_big_quiet_want; refine quiet_ne 89 (.tmp 19) (.tmp 23) _ rfl cx cy rfl rfl (by kernel_rfl) false (by rintro _ ⟨m, rfl⟩; rw [World.drewN_drewN]; exact HQ.out _) ?_; go_big_quiet_on; simp only [Act.put, List.setIfInBounds_toArray, List.set_cons_zero, List.set_cons_succ]))
     refine wpQuiet_nil ?_
     rintro _ ⟨nq, rfl⟩
     go_wp2
     go_ret
     exact ⟨by rw [HN.out]; rfl, _, by simp; rfl⟩
   ·have H : Hid (eqv xs ys = true) := Lib.hid (eqv_true (by
     have h := HT.out
     rw [List.take_of_length_le (by omega), List.take_of_length_le (by rw [← HL.out]; omega)] at h
     exact h))
    go_wp2
    go_ret
    exact ⟨by rw [H.out]; rfl, n, rfl⟩
 ·have b0 : ((xs.length : Int) != (ys.length : Int)) = true := by simp; omega
  have HN := Lib.hid (show eqv xs ys = false from eqv_false fun e => by subst e; exact hl rfl)
  clear hl
  go_enter Tryz.func45, Tryz.ntmps45
  go_wp2
  go_ret
  exact ⟨by rw [HN.out]; rfl, 0, rfl⟩
theorem wpList_mid_w {P : Program} {ops : Array Oper} {rest : List Oper} {op : Oper} {a : Act} {w : World} {Q : Exit → Act → World → Prop} (hw : Region.wanted op (yielded ops a.tmps) = true) (ty : TypeId) (x : Operand) (ho : op.op = .load ty x)
  (b o : Nat) (hx : a.eval x = .pointer (some ⟨b, o, none⟩)) (cs : List Value) (d : TypeDesc) (hc : w.rangeAt b o cs)
  (hu : P.underlying ty = some d) (hd : d.isRow = true) (hi : (P.info? ty).map (·.size) = some cs.length)
  (h : wpList P ops Q rest (a.put op.dst (.agg cs.toArray)) w) : wpList P ops Q (op :: rest) a w :=
 wpList_step fun K hK => by
  simp only [hw, if_true]
  exact wp_load_mid ty x ho b o hx cs d hc hu hd hi (hK _ _ h)
theorem textOf_eqv {xs ys : List Nat} (hx : Sha.Byte xs) (hy : Sha.Byte ys) : ((textOf xs).toList == (textOf ys).toList) = eqv xs ys := by
 rw [← beq_eqv, ← ofNat_inj xs ys hx hy, ByteArray.toList_eq, ByteArray.toList_eq]
 rfl
theorem beqB_any (u v : Value) (xs ys : List Nat) (w : World) (hu : Rd w u xs) (hv : Rd w v ys) (hx : Sha.Byte xs) (hy : Sha.Byte ys) :
  Calls Tryz.prog 47 #[u, v] w fun e w' => e = .returned (.bool (eqv xs ys)) ∧ w = w' := by
 have q1 := conv_rd hu
 have q2 := conv_rd hv
 have q3 := Lib.hid (textOf_eqv hx hy)
 clear hu hv hx hy
 go_enter Tryz.func47, Tryz.ntmps47
 go_wp2
 go_ret
 refine ⟨?_, rfl⟩
 rw [← q3.out]; rfl
theorem boxed {w : World} (c1 c2 : Array Value) (t : TypeId) : Below w.heap.size w ((w.alloc (.cells c1 t)).alloc (.cells c2 t)) :=
 ((Below.refl _ _).alloc (Nat.le_refl _) _).alloc (((Below.refl _ _).alloc (Nat.le_refl _) _).size) _
theorem boxed2 {w : World} (c1 c2 : Array Value) (t : TypeId) : Blk ((w.alloc (.cells c1 t)).alloc (.cells c2 t)) (w.heap.size + 1) t c2 := by
 have h := Blk.new (w.alloc (.cells c1 t)) t c2
 rwa [show (w.alloc (.cells c1 t)).heap.size = w.heap.size + 1 by simp] at h
namespace En
structure Bt where
 text : List Nat
 val : Value
end En
structure BtT (w : World) (A : Option Addr) (n : Nat) (ts : List En.Bt) : Prop where
 len : n = ts.length
 row : 0 < n → ∃ b o, A = some ⟨b, o, none⟩ ∧ b < w.heap.size ∧ ∀ i t, ts[i]? = some t → w.cell? ⟨b, o + i, none⟩ = some t.val
 rd : ∀ t ∈ ts, Rd w t.val t.text ∧ Sha.Byte t.text
theorem BtT.below {w w' : World} {A : Option Addr} {n : Nat} {ts : List En.Bt} (h : BtT w A n ts) (hb : Below w.heap.size w w') : BtT w' A n ts :=
 ⟨h.len, fun h0 => by
  obtain ⟨b, o, ha, hl, hx⟩ := h.row h0
  exact ⟨b, o, ha, Nat.lt_of_lt_of_le hl hb.size, fun i t ht => (hb.cell (p := ⟨b, _, none⟩) hl).trans (hx i t ht)⟩, fun t ht => ⟨(h.rd t ht).1.below hb (Nat.le_refl _), (h.rd t ht).2⟩⟩
theorem map_take_next {ts us : List En.Bt} {k : Nat} (h1 : k < ts.length) (h2 : k < us.length) (h : (ts.take k).map (·.text) = (us.take k).map (·.text)) (e : ts[k].text = us[k].text) : (ts.take (k + 1)).map (·.text) = (us.take (k + 1)).map (·.text) := by
 rw [List.take_succ_eq_append_getElem h1, List.take_succ_eq_append_getElem h2, List.map_append, List.map_append, h]
 simp [e]
theorem eg_beq (args : Array Value) (w : World) : (callFunc 47 args).run Tryz.prog w = .ok (.enter 47 args) w := by kernel_rfl
set_option maxRecDepth 100000 in
set_option maxHeartbeats 1000000 in
theorem eqT_any (A B : Option Addr) (n m c d : Nat) (ts us : List En.Bt) (w : World) (ht : BtT w A n ts) (hu : BtT w B m us) (hn : n ≤ 100000) :
  Calls Tryz.prog 46 #[.slice A n c, .slice B m d, .func (.func 47) #[] #[]] w fun e w' => e = .returned (.bool (eqv (ts.map (·.text)) (us.map (·.text)))) ∧ w' = w := by
 have HT := Lib.hid ht
 have HU := Lib.hid hu
 by_cases hl : n = m
 ·have b0 : ((n : Int) != (m : Int)) = false := by simp; omega
  subst hl
  have HN := Lib.hid hn
  clear ht hu hn
  go_enter Tryz.func46, Tryz.ntmps46
  go_wp2
  go_loopw [17] (fun i wr => wr = w ∧ ∃ k : Nat, k ≤ n ∧ i = .int .i64 k ∧ Hid ((ts.take k).map (·.text) = (us.take k).map (·.text))) (fun i _ => n - (intOf i).toNat)
  case atStart => exact ⟨rfl, 0, Nat.zero_le _, rfl, Lib.hid rfl⟩
  case round =>
   obtain ⟨rfl, k, hk, rfl, HK⟩ := hrel
   rcases Nat.lt_or_ge k n with hlt | hlt
   rotate_left
   ·obtain rfl : k = n := by omega
    have ik : ¬ ((k : Nat) : Int) < k := by omega
    have HF : Hid (eqv (ts.map (·.text)) (us.map (·.text)) = true) := Lib.hid (eqv_true (by
     have h := HK.out
     rw [List.take_of_length_le (by rw [← HT.out.len]; exact Nat.le_refl _), List.take_of_length_le (by rw [← HU.out.len]; exact Nat.le_refl _)] at h
     exact h))
    clear hk hlt
    go_wp2
    go_ret
    exact ⟨by rw [HF.out]; rfl, rfl⟩
   have h1 : k < ts.length := by rw [← HT.out.len]; exact hlt
   have h2 : k < us.length := by rw [← HU.out.len]; exact hlt
   obtain ⟨b1, o1, rfl, _, g1⟩ := HT.out.row (by omega)
   obtain ⟨b2, o2, rfl, _, g2⟩ := HU.out.row (by omega)
   have c1 := g1 k ts[k] (List.getElem?_eq_getElem h1)
   have c2 := g2 k us[k] (List.getElem?_eq_getElem h2)
   obtain ⟨r1, y1⟩ := HT.out.rd ts[k] (List.getElem_mem h1)
   obtain ⟨r2, y2⟩ := HU.out.rd us[k] (List.getElem_mem h2)
   have CE := beqB_any _ _ _ _ wr r1 r2 y1 y2
   have HS := Lib.hid (fun e => map_take_next h1 h2 HK.out e)
   have HNE := Lib.hid (show ts[k].text ≠ us[k].text → eqv (ts.map (·.text)) (us.map (·.text)) = false from fun hne => eqv_false fun e => hne (by
    have h3 := congrArg (fun l => l[k]?) e
    simpa [List.getElem?_eq_getElem h1, List.getElem?_eq_getElem h2] using h3))
   generalize ts[k] = t at c1 r1 y1 CE HS HNE
   generalize us[k] = u at c2 r2 y2 CE HS HNE
   obtain ⟨A1, e1, hv1, _, _⟩ := r1
   obtain ⟨A2, e2, hv2, _, _⟩ := r2
   rw [hv1] at c1 CE
   rw [hv2] at c2 CE
   have i0 : ((k : Nat) : Int) < n := by omega
   have i1 : (0 : Int) ≤ ((k : Nat) : Int) := by omega
   have i2 : ((n : Nat) : Int) ≤ 100000 := by have := HN.out; omega
   have HLT := Lib.hid hlt
   have eg := eg_beq
   clear g1 g2 y1 y2 hv1 hv2 h1 h2 hk hlt
   go_wp2_with (go_at_call 47; refine pause ?_)
   unfold Paused
   refine CE.mono ?_
   rintro e w9 ⟨rfl, rfl⟩
   clear CE
   rcases Classical.em (t.text = u.text) with e | e
   ·have HKN := Lib.hid (HS.out e)
    rw [eqv_true e]
    clear e HS HNE
    go_wp2
    go_roundw
    case rel => exact ⟨trivial, k + 1, HLT.out, by go_num, HKN⟩
    case measure => have := HLT.out; simp [intOf]; omega
   ·have HF := Lib.hid (HNE.out e)
    rw [eqv_false e]
    clear e HS HNE
    go_wp2
    go_ret
    exact ⟨by rw [HF.out]; rfl, rfl⟩
 ·have b0 : ((n : Int) != (m : Int)) = true := by simp; omega
  have HN := Lib.hid (show eqv (ts.map (·.text)) (us.map (·.text)) = false from eqv_false fun e => hl (by
   have := congrArg List.length e
   rw [List.length_map, List.length_map, ← HT.out.len, ← HU.out.len] at this
   exact this))
  clear ht hu hl hn
  go_enter Tryz.func46, Tryz.ntmps46
  go_wp2
  go_ret
  exact ⟨by rw [HN.out]; rfl, rfl⟩
end Go.Proofs.YtgcgomdhdgjpdaaGreatDoor
/- Entries of a journal compared (entry.Same). -/
namespace Go.Proofs.YtgcgomdhdgjpdaaGreatDoor
open Go Go.RowKit
namespace En
structure E where
 client : Int
 number : Int
 answer : Int
 ups : List Up
 objs : List (List Nat)
end En
structure EnC (w : World) (e : En.E) (cs : Array Value) (U : Option Addr) (cu : Nat) (O : Option Addr) (co : Nat) (ts : List En.Bt) : Prop where
 cells : cs = #[.int .i64 e.client, .int .i64 e.number, .int .i64 e.answer, .slice U e.ups.length cu, .slice O e.objs.length co]
 ups : RdK w (.slice U e.ups.length cu) e.ups.length (cellsU e.ups)
 fit : ∀ u ∈ e.ups, u.Fit
 objs : BtT w O e.objs.length ts
 txt : ts.map (·.text) = e.objs
theorem EnC.below {w w' : World} {e : En.E} {cs : Array Value} {U O : Option Addr} {cu co : Nat} {ts : List En.Bt} (h : EnC w e cs U cu O co ts) (hb : Below w.heap.size w w') : EnC w' e cs U cu O co ts :=
 ⟨h.cells, h.ups.below hb (Nat.le_refl _), h.fit, h.objs.below hb, h.txt⟩
set_option maxRecDepth 100000 in
set_option maxHeartbeats 2000000 in
theorem esame_any (a b : En.E) (ca cb : Array Value) (U1 O1 U2 O2 : Option Addr) (cu1 co1 cu2 co2 : Nat) (ts us : List En.Bt) (w : World) (ha : EnC w a ca U1 cu1 O1 co1 ts) (hb : EnC w b cb U2 cu2 O2 co2 us) (lu : a.ups.length ≤ 1000) (lo : a.objs.length ≤ 100000) :
  Calls Tryz.prog 28 #[.agg ca, .agg cb] w fun e w' => e = .returned (.bool (eqv a b)) ∧ Below w.heap.size w w' := by
 obtain ⟨w2, hw2⟩ : ∃ w2, w2 = (w.alloc (.cells ca 32)).alloc (.cells cb 32) := ⟨_, rfl⟩
 have b2 : Below w.heap.size w w2 := hw2 ▸ boxed ca cb _
 have B1 : Blk w2 w.heap.size 32 ca := hw2 ▸ (Blk.new w _ _).alloc _
 have B2 : Blk w2 (w.heap.size + 1) 32 cb := hw2 ▸ boxed2 ca cb _
 have HA := Lib.hid (ha.below b2)
 have HB := Lib.hid (hb.below b2)
 have HB2 := Lib.hid b2
 have HE : Hid (eqv a b = (eqv a.client b.client && (eqv a.number b.number && (eqv a.answer b.answer && (eqv a.ups b.ups && eqv (ts.map (·.text)) (us.map (·.text))))))) := Lib.hid (by
  rw [ha.txt, hb.txt]
  obtain ⟨a1, a2, a3, a4, a5⟩ := a
  obtain ⟨b1, b2, b3, b4, b5⟩ := b
  rw [Bool.eq_iff_iff]
  simp only [Bool.and_eq_true, eqv_iff, En.E.mk.injEq])
 have CU : ∀ n, Calls Tryz.prog 45 #[.slice U1 a.ups.length cu1, .slice U2 b.ups.length cu2] (w2.drewN n) _ := fun n => eqU_any U1 U2 cu1 cu2 a.ups b.ups (w2.drewN n) (HA.out.ups.below (below_drewN (Below.refl _ _) n) (Nat.le_refl _)) (HB.out.ups.below (below_drewN (Below.refl _ _) n) (Nat.le_refl _)) HA.out.fit HB.out.fit lu
 have CO : ∀ n, Calls Tryz.prog 46 #[.slice O1 a.objs.length co1, .slice O2 b.objs.length co2, .func (.func 47) #[] #[]] (w2.drewN n) _ := fun n => eqT_any O1 O2 _ _ co1 co2 ts us (w2.drewN n) (HA.out.objs.below (below_drewN (Below.refl _ _) n)) (HB.out.objs.below (below_drewN (Below.refl _ _) n)) lo
 have p0 : w2.cell? ⟨w.heap.size, 0, none⟩ = some (.int .i64 a.client) := (B1.cell 0).trans (by rw [ha.cells]; rfl)
 have p1 : w2.cell? ⟨w.heap.size, 1, none⟩ = some (.int .i64 a.number) := (B1.cell 1).trans (by rw [ha.cells]; rfl)
 have p2 : w2.cell? ⟨w.heap.size, 2, none⟩ = some (.int .i64 a.answer) := (B1.cell 2).trans (by rw [ha.cells]; rfl)
 have p3 : w2.cell? ⟨w.heap.size, 3, none⟩ = some (.slice U1 a.ups.length cu1) := (B1.cell 3).trans (by rw [ha.cells]; rfl)
 have p4 : w2.cell? ⟨w.heap.size, 4, none⟩ = some (.slice O1 a.objs.length co1) := (B1.cell 4).trans (by rw [ha.cells]; rfl)
 have q0 : w2.cell? ⟨w.heap.size + 1, 0, none⟩ = some (.int .i64 b.client) := (B2.cell 0).trans (by rw [hb.cells]; rfl)
 have q1 : w2.cell? ⟨w.heap.size + 1, 1, none⟩ = some (.int .i64 b.number) := (B2.cell 1).trans (by rw [hb.cells]; rfl)
 have q2 : w2.cell? ⟨w.heap.size + 1, 2, none⟩ = some (.int .i64 b.answer) := (B2.cell 2).trans (by rw [hb.cells]; rfl)
 have q3 : w2.cell? ⟨w.heap.size + 1, 3, none⟩ = some (.slice U2 b.ups.length cu2) := (B2.cell 3).trans (by rw [hb.cells]; rfl)
 have q4 : w2.cell? ⟨w.heap.size + 1, 4, none⟩ = some (.slice O2 b.objs.length co2) := (B2.cell 4).trans (by rw [hb.cells]; rfl)
 have e1 : (a.client == b.client) = eqv a.client b.client := by rw [Bool.eq_iff_iff, beq_iff_eq, eqv_iff]
 have e2 : (a.number == b.number) = eqv a.number b.number := by rw [Bool.eq_iff_iff, beq_iff_eq, eqv_iff]
 have e3 : (a.answer == b.answer) = eqv a.answer b.answer := by rw [Bool.eq_iff_iff, beq_iff_eq, eqv_iff]
 have ew := hw2.symm
 generalize eqv a b = R at HE ⊢
 generalize eqv a.client b.client = r1 at HE e1
 generalize eqv a.number b.number = r2 at HE e2
 generalize eqv a.answer b.answer = r3 at HE e3
 generalize eqv a.ups b.ups = r4 at HE CU
 generalize eqv (ts.map (·.text)) (us.map (·.text)) = r5 at HE CO
 generalize a.client = x1 at p0 e1
 generalize a.number = x2 at p1 e2
 generalize a.answer = x3 at p2 e3
 generalize b.client = y1 at q0 e1
 generalize b.number = y2 at q1 e2
 generalize b.answer = y3 at q2 e3
 generalize a.ups.length = n1 at p3 CU
 generalize b.ups.length = n2 at q3 CU
 generalize a.objs.length = m1 at p4 CO
 generalize b.objs.length = m2 at q4 CO
 clear ha hb b2 B1 B2 hw2 lu lo HA HB
 go_enter Tryz.func28, Tryz.ntmps28
 cases r1 <;> cases r2 <;> cases r3
 all_goals
  go_wp2_with (first
   | (go_at_call 45; refine (CU 0).mono ?_; rintro e w3 ⟨rfl, m, rfl⟩; cases r4)
   | (go_at_call 46; refine (CO _).mono ?_; rintro e w4 ⟨rfl, rfl⟩))
 all_goals
  go_ret
  first
   | exact ⟨by rw [HE.out]; rfl, HB2.out⟩
   | exact ⟨by rw [HE.out]; rfl, below_drewN HB2.out _⟩
   | exact ⟨by rw [HE.out]; simp, below_drewN HB2.out _⟩
end Go.Proofs.YtgcgomdhdgjpdaaGreatDoor
