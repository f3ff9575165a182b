/- Two objects compared (object.Same). -/
import Derived.Test.YtenodghocenjaaaDoorOb4
namespace Go.Proofs.YtenodghocenjaaaDoor
open Go Go.RowKit
/-- A load in the middle of a block, in a region that keeps its order, whatever its guard, if it is carried out. -/
theorem wpList_mid_w {P : Program} {ops : Array Oper} {rest : List Oper} {op : Oper} {a : Act} {w : World} {Q : Exit → Act → World → Prop} (hw : Region.wanted op (yielded ops a.tmps) = true) (ty : TypeId) (x : Operand) (ho : op.op = .load ty x)
    (b o : Nat) (hx : a.eval x = .pointer (some ⟨b, o, none⟩)) (cs : List Value) (d : TypeDesc) (hc : w.rangeAt b o cs)
    (hu : P.underlying ty = some d) (hd : d.isRow = true) (hi : (P.info? ty).map (·.size) = some cs.length)
    (h : wpList P ops Q rest (a.put op.dst (.agg cs.toArray)) w) : wpList P ops Q (op :: rest) a w :=
  wpList_step fun K hK => by
    simp only [hw, if_true]
    exact wp_load_mid ty x ho b o hx cs d hc hu hd hi (hK _ _ h)
theorem textOf_eqv {xs ys : List Nat} (hx : Sha.Byte xs) (hy : Sha.Byte ys) : ((textOf xs).toList == (textOf ys).toList) = eqv xs ys := by
  rw [← beq_eqv, ← ofNat_inj xs ys hx hy, ByteArray.toList_eq, ByteArray.toList_eq]
  rfl
theorem beqB_any (u v : Value) (xs ys : List Nat) (w : World) (hu : Rd w u xs) (hv : Rd w v ys) (hx : Sha.Byte xs) (hy : Sha.Byte ys) :
    Calls Tryd.prog 26 #[u, v] w fun e w' => e = .returned (.bool (eqv xs ys)) ∧ w = w' := by
  have q1 := conv_rd hu
  have q2 := conv_rd hv
  have q3 := Lib.hid (textOf_eqv hx hy)
  clear hu hv hx hy
  go_enter Tryd.func26, Tryd.ntmps26
  go_wp2
  go_ret
  refine ⟨?_, rfl⟩
  rw [← q3.out]; rfl
theorem boxed {w : World} (c1 c2 : Array Value) (t : TypeId) : Below w.heap.size w ((w.alloc (.cells c1 t)).alloc (.cells c2 t)) :=
  ((Below.refl _ _).alloc (Nat.le_refl _) _).alloc (((Below.refl _ _).alloc (Nat.le_refl _) _).size) _
theorem boxed2 {w : World} (c1 c2 : Array Value) (t : TypeId) : Blk ((w.alloc (.cells c1 t)).alloc (.cells c2 t)) (w.heap.size + 1) t c2 := by
  have h := Blk.new (w.alloc (.cells c1 t)) t c2
  rwa [show (w.alloc (.cells c1 t)).heap.size = w.heap.size + 1 by simp] at h
set_option maxRecDepth 100000 in
set_option maxHeartbeats 2000000 in
theorem osame_any (a b : Ob) (ca cb : Array Value) (Ta Ea Pa Tb Eb Pb : Option Addr) (ta ea pa tb eb pb : Nat) (w : World) (ha : ObC w a ca Ta ta Ea ea Pa pa) (hb : ObC w b cb Tb tb Eb eb Pb pb) (fa : a.Fit) (fb : b.Fit) (l1 : a.ents.length ≤ 1000) (l2 : a.pars.length ≤ 1000) :
    Calls Tryd.prog 15 #[.agg ca, .agg cb] w fun e w' => e = .returned (.bool (eqv a b)) ∧ Below w.heap.size w w' := by
  obtain ⟨w2, hw2⟩ : ∃ w2, w2 = (w.alloc (.cells ca 30)).alloc (.cells cb 30) := ⟨_, rfl⟩
  have hB : Below w.heap.size w w2 := hw2 ▸ boxed ca cb _
  have B1 : Blk w2 w.heap.size 30 ca := hw2 ▸ (Blk.new w _ ca).alloc _
  have B2 : Blk w2 (w.heap.size + 1) 30 cb := hw2 ▸ boxed2 ca cb _
  have HBE : ∀ n, Hid (Below w.heap.size w (w2.drewN n)) := fun n => Lib.hid (below_drewN hB n)
  have a0 : w2.cell? ⟨w.heap.size, 0, none⟩ = some (.int .i64 a.kind) := (B1.cell 0).trans ha.c0
  have a1 : w2.cell? ⟨w.heap.size, 1, none⟩ = some (.slice Ta a.text.length ta) := (B1.cell 1).trans ha.c1
  have a2 : w2.cell? ⟨w.heap.size, 2, none⟩ = some (.slice Ea a.ents.length ea) := (B1.cell 2).trans ha.c2
  have a3 : w2.cell? ⟨w.heap.size, 35, none⟩ = some (.slice Pa a.pars.length pa) := (B1.cell 35).trans (ha.c35 fa)
  have b0 : w2.cell? ⟨w.heap.size + 1, 0, none⟩ = some (.int .i64 b.kind) := (B2.cell 0).trans hb.c0
  have b1 : w2.cell? ⟨w.heap.size + 1, 1, none⟩ = some (.slice Tb b.text.length tb) := (B2.cell 1).trans hb.c1
  have b2 : w2.cell? ⟨w.heap.size + 1, 2, none⟩ = some (.slice Eb b.ents.length eb) := (B2.cell 2).trans hb.c2
  have b3 : w2.cell? ⟨w.heap.size + 1, 35, none⟩ = some (.slice Pb b.pars.length pb) := (B2.cell 35).trans (hb.c35 fb)
  have M1 : ∀ n, Hid ((w2.drewN n).rangeAt w.heap.size 3 (cellsB a.target)) := fun n => Lib.hid (ha.mid (B1.drewN n))
  have M2 : ∀ n, Hid ((w2.drewN n).rangeAt (w.heap.size + 1) 3 (cellsB b.target)) := fun n => Lib.hid (hb.mid (B2.drewN n))
  have CB : ∀ n, Calls Tryd.prog 26 #[.slice Ta a.text.length ta, .slice Tb b.text.length tb] (w2.drewN n) _ := fun n => beqB_any _ _ a.text b.text (w2.drewN n) (ha.text.below (HBE n).out (Nat.le_refl _)) (hb.text.below (HBE n).out (Nat.le_refl _)) fa.text fb.text
  have CE : ∀ n, Calls Tryd.prog 27 #[.slice Ea a.ents.length ea, .slice Eb b.ents.length eb] (w2.drewN n) _ := fun n => eqE_any Ea Eb ea eb a.ents b.ents (w2.drewN n) (ha.ents.below (HBE n).out (Nat.le_refl _)) (hb.ents.below (HBE n).out (Nat.le_refl _)) fa.ents fb.ents l1
  have CP : ∀ n, Calls Tryd.prog 28 #[.slice Pa a.pars.length pa, .slice Pb b.pars.length pb] (w2.drewN n) _ := fun n => eqP_any Pa Pb pa pb a.pars b.pars (w2.drewN n) (ha.pars.below (HBE n).out (Nat.le_refl _)) (hb.pars.below (HBE n).out (Nat.le_refl _)) fa.pars fb.pars l2
  have q0 : ∀ n, (Op.equalIn 10000 27 (.agg (cellsB a.target).toArray) (.agg (cellsB b.target).toArray)).run Tryd.prog (w2.drewN n) = .ok (eqv a.target b.target) (w2.drewN n) := fun n => id_eq _ _ _ fa.target fb.target
  have hk : (a.kind == b.kind) = eqv a.kind b.kind := beq_eqv _ _
  have n1 : (Tryd.prog.info? 27).map (·.size) = some (cellsB a.target).length := by rw [cellsP1_len fa.target]; kernel_rfl
  have n2 : (Tryd.prog.info? 27).map (·.size) = some (cellsB b.target).length := by rw [cellsP1_len fb.target]; kernel_rfl
  have N1 := Lib.hid n1
  have N2 := Lib.hid n2
  have HR : Hid ((eqv a.kind b.kind && (eqv a.text b.text && (eqv a.ents b.ents && (eqv a.target b.target && eqv a.pars b.pars)))) = eqv a b) := Lib.hid (by
    rw [Bool.eq_iff_iff]
    simp only [Bool.and_eq_true, eqv_iff]
    obtain ⟨x1, x2, x3, x4, x5⟩ := a
    obtain ⟨y1, y2, y3, y4, y5⟩ := b
    simp)
  have hw3 := hw2.symm
  clear ha hb fa fb hB B1 B2 n1 n2 l1 l2 hw2
  generalize eqv a b = r at HR ⊢
  generalize eqv a.kind b.kind = r1 at hk HR
  generalize eqv a.text b.text = r2 at CB HR
  generalize eqv a.ents b.ents = r3 at CE HR
  generalize eqv a.target b.target = r4 at q0 HR
  generalize eqv a.pars b.pars = r5 at CP HR
  generalize a.kind = ak at *
  generalize b.kind = bk at *
  generalize a.text.length = al at *
  generalize b.text.length = bl at *
  generalize a.ents.length = ael at *
  generalize b.ents.length = bel at *
  generalize a.pars.length = apl at *
  generalize b.pars.length = bpl at *
  generalize cellsB a.target = cta at *
  generalize cellsB b.target = ctb at *
  go_enter Tryd.func15, Tryd.ntmps15
  cases r1
  · obtain rfl := HR.out
    go_wp2
    go_ret
    exact ⟨rfl, (HBE 0).out⟩
  cases r2
  · obtain rfl := HR.out
    go_wp2_with (go_at_call 26; refine (CB 0).mono ?_; rintro e w' ⟨rfl, rfl⟩)
    go_ret
    exact ⟨rfl, (HBE 0).out⟩
  cases r3
  · obtain rfl := HR.out
    go_wp2_with (first
      | (go_at_call 26; refine (CB 0).mono ?_; rintro e w' ⟨rfl, rfl⟩)
      | (go_at_call 27; refine (CE 0).mono ?_; rintro e w' ⟨rfl, m, rfl⟩))
    go_ret
    exact ⟨rfl, (HBE m).out⟩
  cases r4
  · obtain rfl := HR.out
    go_wp2_with (first
      | (go_at_call 26; refine (CB 0).mono ?_; rintro e w' ⟨rfl, rfl⟩)
      | (go_at_call 27; refine (CE 0).mono ?_; rintro e w' ⟨rfl, m, rfl⟩)
      | (refine wpList_mid_w (by rfl) 27 (.tmp 25) rfl w.heap.size 3 rfl _ _ (M1 _).out Tryd.underlying27 rfl N1.out ?_)
      | (refine wpList_mid_w (by rfl) 27 (.tmp 27) rfl (w.heap.size + 1) 3 rfl _ _ (M2 _).out Tryd.underlying27 rfl N2.out ?_))
    go_ret
    exact ⟨rfl, (HBE _).out⟩
  cases r5
  · obtain rfl := HR.out
    go_wp2_with (first
      | (go_at_call 26; refine (CB 0).mono ?_; rintro e w' ⟨rfl, rfl⟩)
      | (go_at_call 27; refine (CE 0).mono ?_; rintro e w' ⟨rfl, m, rfl⟩)
      | (refine wpList_mid_w (by rfl) 27 (.tmp 25) rfl w.heap.size 3 rfl _ _ (M1 _).out Tryd.underlying27 rfl N1.out ?_)
      | (refine wpList_mid_w (by rfl) 27 (.tmp 27) rfl (w.heap.size + 1) 3 rfl _ _ (M2 _).out Tryd.underlying27 rfl N2.out ?_)
      | (go_at_call 28; refine (CP _).mono ?_; rintro e w' ⟨rfl, m2, rfl⟩))
    go_ret
    exact ⟨rfl, (HBE _).out⟩
  · obtain rfl := HR.out
    go_wp2_with (first
      | (go_at_call 26; refine (CB 0).mono ?_; rintro e w' ⟨rfl, rfl⟩)
      | (go_at_call 27; refine (CE 0).mono ?_; rintro e w' ⟨rfl, m, rfl⟩)
      | (refine wpList_mid_w (by rfl) 27 (.tmp 25) rfl w.heap.size 3 rfl _ _ (M1 _).out Tryd.underlying27 rfl N1.out ?_)
      | (refine wpList_mid_w (by rfl) 27 (.tmp 27) rfl (w.heap.size + 1) 3 rfl _ _ (M2 _).out Tryd.underlying27 rfl N2.out ?_)
      | (go_at_call 28; refine (CP _).mono ?_; rintro e w' ⟨rfl, m2, rfl⟩))
    go_ret
    exact ⟨rfl, (HBE _).out⟩
end Go.Proofs.YtenodghocenjaaaDoor
