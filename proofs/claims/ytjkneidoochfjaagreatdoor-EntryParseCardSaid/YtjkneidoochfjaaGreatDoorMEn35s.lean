/- Is an entry right by the document's own words: cartageref10.Right. -/
import Derived.Test.YtjkneidoochfjaaGreatDoorMEn34
import Derived.Test.YtjkneidoochfjaaGreatDoorMEn18s
import Derived.Test.YtjkneidoochfjaaGreatDoorMShaMsgMaths
import Derived.Laws.AppendOwn
import Derived.Deep.MidRow
namespace Go.Proofs.YtjkneidoochfjaaGreatDoor
open Go Go.RowKit
set_option maxRecDepth 100000 in
set_option maxHeartbeats 2000000 in
theorem rright_any (e : En.E) (ca : Array Value) (U O : Option Addr) (cu co : Nat) (ts : List En.Bt) (w : World) (h : EnC w e ca U cu O co ts) (hs : ∀ u ∈ e.ups, u.ref.size ≤ 3000) (hn : e.ups.length ≤ 1000) (ho : e.objs.length ≤ 1000) (hco : e.objs.length ≤ co) :
    Calls Tryz.prog 9 #[.agg ca] w fun r w' => r = .returned (.bool (En.right e)) ∧ Below w.heap.size w w' := by
  obtain ⟨w1, hw1⟩ : ∃ w1, w1 = w.alloc (.cells ca 29) := ⟨_, rfl⟩
  have hb : EnR w w1 e ca U cu O co ts := hw1 ▸ EnR.of h
  have HB := Lib.hid hb
  have H0 := Lib.hid h
  have CS := rsound_any e ca U O cu co ts w1 hb.ent hs hn ho hco
  have e1 := hw1.symm
  clear h hb hw1 hs hn ho hco
  obtain ⟨fm, hfm⟩ : ∃ b, b = En.formed e := ⟨_, rfl⟩
  rw [← hfm] at CS
  have HFM := Lib.hid hfm
  clear hfm
  go_enter Tryz.func9, Tryz.ntmps9
  go_wp2_with (with_reducible (show wpList _ _ _ (Oper.mk _ (Op.load 29 _) _ _ _ _ :: _) _ _); refine pause ?_)
  unfold Paused
  refine wpList_row_w (by rfl) 29 (.tmp 1) (by rfl) w.heap.size (by rfl) 29 ca _ HB.out.box (by first | exact Tryz.underlying29 | kernel_rfl) (by rfl) (rent5_load H0.out.size) ?_
  go_wp2_with (go_at_call 12; refine pause ?_)
  unfold Paused
  refine CS.mono ?_
  rintro r w2 ⟨rfl, hb2⟩
  have HB2 := Lib.hid (HB.out.below hb2)
  clear hb2 CS HB e1
  clear w1
  cases fm
  · have HR : Hid (En.right e = false) := Lib.hid (by unfold En.right; rw [← HFM.out]; rfl)
    go_wp2
    go_ret
    exact ⟨by rw [HR.out]; rfl, HB2.out.bel⟩
  go_wp2_with (with_reducible (show wpList _ _ _ (Oper.mk _ (Op.load 29 _) _ _ _ _ :: _) _ _); refine pause ?_)
  unfold Paused
  refine wpList_row_w (by rfl) 29 (.tmp 1) (by rfl) w.heap.size (by rfl) 29 ca _ HB2.out.box (by first | exact Tryz.underlying29 | kernel_rfl) (by rfl) (rent5_load H0.out.size) ?_
  go_wp2_with (go_at_call 15; refine pause ?_)
  unfold Paused
  refine (relaid_any e ca U O cu co ts w2 HB2.out.ent (En.formed_frm HFM.out.symm)).mono ?_
  rintro r w3 ⟨v, rfl, hp⟩
  obtain ⟨Av, cv, hvv⟩ := own_slice hp.own
  subst hvv
  have HB3 := Lib.hid (below_next HB2.out.bel hp.bel)
  clear hp HB2
  clear w2
  by_cases hl : (En.laid e).length ≤ 2800
  · have HR : Hid (En.right e = true) := Lib.hid (by unfold En.right; rw [← HFM.out, decide_eq_true hl]; rfl)
    have i1 : ((En.laid e).length : Int) ≤ 2800 := by omega
    clear hl
    generalize (En.laid e).length = nl at i1 ⊢
    go_wp2
    go_ret
    exact ⟨by rw [HR.out]; rfl, HB3.out⟩
  · have HR : Hid (En.right e = false) := Lib.hid (by unfold En.right; rw [decide_eq_false hl, Bool.and_false])
    have i1 : ¬ ((En.laid e).length : Int) ≤ 2800 := by omega
    clear hl
    generalize (En.laid e).length = nl at i1 ⊢
    go_wp2
    go_ret
    exact ⟨by rw [HR.out]; show Ending.returned (.bool (decide _)) = _; rw [decide_eq_false (show ¬ ((nl : Int) ≤ 2800) by omega)], HB3.out⟩
end Go.Proofs.YtjkneidoochfjaaGreatDoor
/- A copy that is written over: what stands. -/
namespace Go.Proofs.YtjkneidoochfjaaGreatDoor
open Go Go.RowKit
theorem En.few_iff {e : En.E} (h : En.few e = true) : e.ups.length ≤ 20 ∧ e.objs.length ≤ 70 ∧ (∀ x ∈ e.objs, x.length ≤ 400) ∧ ∀ u ∈ e.ups, u.ref.size ≤ 100 := by
  unfold En.few at h
  simp only [Bool.and_eq_true, decide_eq_true_iff, Bool.not_eq_true', List.all_eq_true] at h
  obtain ⟨h1, h2, h3⟩ := h
  unfold En.long at h2
  simp only [Bool.or_eq_false_iff, decide_eq_false_iff_not, List.any_eq_false, decide_eq_true_iff] at h2
  exact ⟨h1, by omega, fun x hx => by have := h2.2.1 x hx; omega, h3⟩
/-- a text of a copy: so many bytes -/
structure MuT (B : Nat) (w : World) (t : En.Bt) : Prop where
  sl : ∃ A c, t.val = .slice A t.text.length c
  off : 0 < t.text.length → ∃ g cs c, t.val = .slice (some ⟨g, 0, none⟩) t.text.length c ∧ B ≤ g ∧ Blk w g 5 cs ∧ ∀ j, j < t.text.length → ∃ x : Nat, x < 256 ∧ cs[j]? = some (.int .u8 (x : Int))
/-- a copy, written over -/
structure Mu (w5 wr : World) (g9 : Nat) (cc : Array Value) (v1 v2 : Value) (nu no : Nat) (ts : List En.Bt) : Prop where
  bel : Below w5.heap.size w5 wr
  box : Blk wr g9 25 cc
  old : w5.heap.size ≤ g9
  ups : ∃ us, wr.ownsRow w5.heap.size 56 65 v1 nu us
  objs : wr.ownsRow w5.heap.size 32 1 v2 no (ts.map (·.val))
  txt : ∀ t ∈ ts, MuT w5.heap.size wr t
section
variable {w5 wr w' : World} {g9 nu no : Nat} {cc : Array Value} {v1 v2 : Value} {ts : List En.Bt}
theorem MuT.kept {B g : Nat} {t : En.Bt} {T : Nat} {cs : Array Value} (h : MuT B wr t) (hg : wr.grownBy w' (some g)) (hb : Blk wr g T cs) (hT : T ≠ 5) : MuT B w' t :=
  ⟨h.sl, fun h0 => by
    obtain ⟨g', cs', c, h1, h2, h3, h4⟩ := h.off h0
    exact ⟨g', cs', c, h1, h2, h3.grown hg (fun e => by injection e with e; exact blk_ne h3 hb (fun x => hT x.symm) e), h4⟩⟩
theorem own_off {B z n g T : Nat} {t : TypeId} {v : Value} {xs : List Value} {cs : Array Value} (h : wr.ownsRow B t z v n xs) (hg : wr.grownBy w' (some g)) (hb : Blk wr g T cs) (hT : t ≠ T) : w'.ownsRow B t z v n xs :=
  h.kept hg (by
    cases hv : v.ownBlock with
    | none => exact Or.inl rfl
    | some g' =>
      obtain ⟨cs', hg'⟩ := own_blk h hv
      exact Or.inr (fun e => by injection e with e; exact blk_ne hg' hb hT e))
theorem below_in {g : Nat} (h : Below w5.heap.size w5 wr) (hg : wr.grownBy w' (some g)) (hB : w5.heap.size ≤ g) : Below w5.heap.size w5 w' := below_of_only h hg hB
/-- a ref is written over -/
theorem Mu.ref {g cap k : Nat} (h : Mu w5 wr g9 cc (.slice (some ⟨g, 0, none⟩) nu cap) v2 nu no ts) (u : Value) : Mu w5 (wr.setCell ⟨g, k, none⟩ u) g9 cc (.slice (some ⟨g, 0, none⟩) nu cap) v2 nu no ts := by
  obtain ⟨us, hu⟩ := h.ups
  have hs := hu.stored k u
  obtain ⟨cs, hg⟩ := own_blk hu (g := g) rfl
  have hB := (hu.lt g rfl).1
  exact ⟨below_in h.bel hs.2 hB, h.box.grown hs.2 (fun e => by injection e with e; exact blk_ne h.box hg (by decide) e), h.old, ⟨_, hs.1⟩, own_off h.objs hs.2 hg (by decide), fun t ht => (h.txt t ht).kept hs.2 hg (by decide)⟩
/-- a byte is written over -/
theorem Mu.byte {g c j : Nat} (h : Mu w5 wr g9 cc v1 v2 nu no ts) {t : En.Bt} (ht : t ∈ ts) (hj : j < t.text.length) (hv : t.val = .slice (some ⟨g, 0, none⟩) t.text.length c) (x : Nat) (hx : x < 256) : Mu w5 (wr.setCell ⟨g, j, none⟩ (.int .u8 (x : Int))) g9 cc v1 v2 nu no ts := by
  obtain ⟨g', cs, c', h1, h2, h3, h4⟩ := (h.txt t ht).off (by omega)
  rw [hv] at h1
  injection h1 with e1 _ _
  injection e1 with e1
  injection e1 with e1 _ _
  subst e1
  have hg : wr.grownBy (wr.setCell ⟨g, j, none⟩ (.int .u8 (x : Int))) (some g) := only_setCell (World.grownBy.refl wr _) (Or.inl rfl) _
  obtain ⟨us, hu⟩ := h.ups
  refine ⟨below_in h.bel hg h2, h.box.grown hg (fun e => by injection e with e; exact blk_ne h.box h3 (by decide) e), h.old, ⟨us, own_off hu hg h3 (by decide)⟩, own_off h.objs hg h3 (by decide), fun t' ht' => ⟨(h.txt t' ht').sl, fun h0 => ?_⟩⟩
  obtain ⟨g', cs', c', k1, k2, k3, k4⟩ := (h.txt t' ht').off h0
  by_cases he : g' = g
  · subst he
    refine ⟨g', _, c', k1, k2, k3.set_ j _, fun i hi => ?_⟩
    obtain ⟨y, hy, hyc⟩ := k4 i hi
    by_cases hij : i = j
    · subst hij
      refine ⟨x, hx, ?_⟩
      rw [Array.getElem?_setIfInBounds_self_of_lt (Array.getElem?_eq_some_iff.1 hyc).1]
    · exact ⟨y, hy, by rw [Array.getElem?_setIfInBounds_ne (fun e => hij e.symm)]; exact hyc⟩
  · exact ⟨g', cs', c', k1, k2, k3.far (by show g' ≠ g; exact he) _, k4⟩
end
theorem Mu.of {w5 w6 : World} {e : En.E} {cc : Array Value} {U O : Option Addr} {cu co : Nat} {ts : List En.Bt} (h : CpE w5 w6 e cc U cu O co ts) (g9 : Nat) (hb : Blk w6 g9 25 cc) (ho : w5.heap.size ≤ g9) : Mu w5 w6 g9 cc (.slice U e.ups.length cu) (.slice O e.objs.length co) e.ups.length e.objs.length ts :=
  ⟨h.bel, hb, ho, ⟨_, h.ups⟩, h.objs, fun t ht => by
    have hc := h.txt t ht
    have hy := (h.ent.objs.rd t ht).2
    obtain ⟨A, c, hv, hcc, hA⟩ := hc.rd
    refine ⟨⟨A, c, hv⟩, fun h0 => ?_⟩
    obtain ⟨g, cs, c', h1, h2, h3⟩ := hc.off h0
    refine ⟨g, cs, c', h1, h2, h3, fun j hj => ?_⟩
    obtain ⟨b, o, ha, _, hx⟩ := hA h0
    rw [hv] at h1
    injection h1 with e1 _ _
    rw [ha] at e1
    injection e1 with e1
    injection e1 with e1 e2 _
    subst e1 e2
    have h4 := hx j hj
    rw [Nat.zero_add, h3.cell j] at h4
    exact ⟨_, hy j, h4⟩⟩
theorem CpE.below {w5 w6 w7 : World} {e : En.E} {cc : Array Value} {U O : Option Addr} {cu co : Nat} {ts : List En.Bt} (h : CpE w5 w6 e cc U cu O co ts) (hb : Below w6.heap.size w6 w7) : CpE w5 w7 e cc U cu O co ts :=
  ⟨h.ent.below hb, below_next h.bel hb, h.ups.kept (only_of_below hb none) (by cases hv : (Value.slice U e.ups.length cu).ownBlock with | none => exact Or.inl rfl | some g => exact Or.inr (by simp)), h.objs.kept (only_of_below hb none) (by cases hv : (Value.slice O e.objs.length co).ownBlock with | none => exact Or.inl rfl | some g => exact Or.inr (by simp)), fun t ht => (h.txt t ht).below hb⟩
end Go.Proofs.YtjkneidoochfjaaGreatDoor
/- The law EntrySame. -/
namespace Go.Proofs.YtjkneidoochfjaaGreatDoor
open Go Go.RowKit
theorem rnt_load {cs : Array Value} (h : cs.size = 5) : (Tryz.prog.info? 29).map (·.size) = some cs.size := rent5_load h
theorem ecs1 (e : En.E) (U O : Option Addr) (cu co n : Nat) : (ecs e (.slice U n cu) O co).all (·.oneCell') = true := by simp [ecs, Value.oneCell']
/-- a row stored in a box of its own -/
theorem boxed_in {w : World} {T : TypeId} {zs cs : Array Value} : Below w.heap.size w ((w.alloc (.cells zs T)).setRow w.heap.size cs) ∧ Blk ((w.alloc (.cells zs T)).setRow w.heap.size cs) w.heap.size T cs :=
  ⟨below_row ((Below.refl _ _).alloc (Nat.le_refl _) _) (Nat.le_refl _) _, (Blk.new w _ _).row _⟩
theorem Blk.up {w w' : World} {g T : Nat} {cs : Array Value} (h : Blk w g T cs) (hb : Below w.heap.size w w') : Blk w' g T cs := h.below hb h.lt
theorem eqv_refl {α : Type} (a : α) : eqv a a = true := eqv_true rfl
/-- what stands before the copy is written over -/
structure LwS (w wr : World) (a b : En.E) (ca cb cx cy : Array Value) (U1 O1 U2 O2 Ux Uy : Option Addr) (cu1 co1 cu2 co2 cux cuy : Nat) (ts us : List En.Bt) (gx gy : Nat) : Prop where
  bel : Below w.heap.size w wr
  ba : Blk wr w.heap.size 25 ca
  bb : Blk wr (w.heap.size + 1) 25 cb
  bx : Blk wr gx 29 cx
  bY : Blk wr gy 29 cy
  ea : EnC wr a ca U1 cu1 O1 co1 ts
  eb : EnC wr b cb U2 cu2 O2 co2 us
  ex : EnC wr a cx Ux cux O1 co1 ts
  ey : EnC wr b cy Uy cuy O2 co2 us
theorem LwS.up {w wr w' : World} {a b : En.E} {ca cb cx cy : Array Value} {U1 O1 U2 O2 Ux Uy : Option Addr} {cu1 co1 cu2 co2 cux cuy : Nat} {ts us : List En.Bt} {gx gy : Nat} (h : LwS w wr a b ca cb cx cy U1 O1 U2 O2 Ux Uy cu1 co1 cu2 co2 cux cuy ts us gx gy) (hb : Below wr.heap.size wr w') : LwS w w' a b ca cb cx cy U1 O1 U2 O2 Ux Uy cu1 co1 cu2 co2 cux cuy ts us gx gy :=
  ⟨below_next h.bel hb, h.ba.up hb, h.bb.up hb, h.bx.up hb, h.bY.up hb, h.ea.below hb, h.eb.below hb, h.ex.below hb, h.ey.below hb⟩
end Go.Proofs.YtjkneidoochfjaaGreatDoor
/- The walks of cartagenum.Bytes and Kept: a copy with marked room behind, and whether list and room stand as they stood. -/
namespace Go.Proofs.YtjkneidoochfjaaGreatDoor
open Go Go.RowKit
def marks : List Nat := [201, 202, 203, 204, 205, 206]
/-- A list of bytes with marked room behind. -/
def Marked (w : World) (v : Value) (xs : List Nat) : Prop :=
  ∃ b c, v = .slice (some ⟨b, 0, none⟩) xs.length c ∧ xs.length + 6 ≤ c ∧ c ≤ 9223372036854775807 ∧ b < w.heap.size ∧ ∀ i, i < xs.length + 6 → w.cell? ⟨b, i, none⟩ = some (.int .u8 (((xs ++ marks).getD i 0 : Nat) : Int))
set_option maxRecDepth 100000 in
theorem bytes_any (v : Value) (xs : List Nat) (w : World) (hv : Rd w v xs) (_hb : Sha.Byte xs) (hz : xs.length ≤ 1099511627776) :
    Calls Tryz.prog 17 #[v] w fun e w' => ∃ v', e = .returned v' ∧ Marked w' v' xs ∧ Below w.heap.size w w' := by
  have HV := Lib.hid hv
  obtain ⟨A, c, rfl, hc, hA⟩ := hv
  clear hA
  obtain ⟨n, hn⟩ : ∃ n, n = xs.length := ⟨_, rfl⟩
  rw [← hn] at hz hc HV ⊢
  have HN := Lib.hid hn
  clear hn
  obtain ⟨i0, hi0, hiz, his, hib⟩ := info_parts byte_info
  have hmk : ∀ w' : World, (Instr.makeSlice 32 (.int .i64 0) (.int .i64 ((n : Int) + 6))).run Tryz.prog w' = .ok (.slice (some ⟨w'.heap.size, 0, none⟩) 0 (n + 6)) (w'.alloc (.cells (madeCells #[.int .u8 0] (n + 6)) 5)) := fun w' => by
    have h := run_make (P := Tryz.prog) w' 32 5 i0 _ Tryz.underlying32 hi0 hiz .i64 .i64 0 ((n : Int) + 6) (by omega) (by omega) (by rw [hib]; omega) (by omega)
    rw [his, show ((n : Int) + 6).toNat = n + 6 by omega, Nat.mul_one] at h
    exact h
  obtain ⟨made, hmade⟩ : ∃ made, made = madeCells #[Value.int .u8 0] (n + 6) := ⟨_, rfl⟩
  rw [← hmade] at hmk
  have hms : made.size = (n + 6) * 1 := by rw [hmade, size_madeCells, Nat.mul_one]
  clear hmade hi0 hiz his hib
  have HOWN : Hid ((w.alloc (.cells made 5)).ownsRow w.heap.size 5 1 (.slice (some ⟨w.heap.size, 0, none⟩) 0 (n + 6)) ([] : List Nat).length (cellsB [])) := Lib.hid (World.ownsRow_made w made (n + 6) (Nat.le_refl _) (by unfold maxLen; omega) hms)
  have HB1 : Hid (Below w.heap.size w (w.alloc (.cells made 5))) := Lib.hid ((Below.refl _ _).alloc (Nat.le_refl _) _)
  have HR1 := Lib.hid (rd_alloc HV.out (.cells made 5))
  have HZ := Lib.hid (show ([] : List Nat).length + xs.length ≤ 70368744177664 by rw [← HN.out]; simp; omega)
  have HZ2 := Lib.hid (show xs.length + marks.length ≤ 70368744177664 by rw [← HN.out]; simp [marks]; omega)
  clear hms
  go_enter Tryz.func17, Tryz.ntmps17
  go_wp2_with (first | (refine wpList_appendB rfl (.tmp 7) (.tmp 8) rfl w.heap.size _ [] rfl HOWN.out HB1.out.size _ rfl xs HR1.out HZ.out ?_; intro v1 w1 ho1 hg1; rw [List.nil_append] at ho1; have HO1 := Lib.hid ho1; have HB2 := Lib.hid (below_own HB1.out HOWN.out (Nat.le_refl _) hg1); have HOA := Lib.hid (ownsRow_alloc ho1 (.cells (u8s marks) 5)); have HB3 := Lib.hid (HB2.out.alloc HB2.out.size (.cells (u8s marks) 5)); have HRM := Lib.hid (rd_of_lit w1 marks 5 (by decide)); clear ho1 hg1) | (refine wpList_appendB rfl (.tmp 9) (.tmp 10) rfl w.heap.size _ xs rfl HOA.out HB3.out.size _ rfl marks HRM.out HZ2.out ?_; intro v2 w2 ho2 hg2; have HO2 := Lib.hid ho2; have HB4 := Lib.hid (below_own HB3.out HOA.out (Nat.le_refl _) hg2); clear ho2 hg2; obtain ⟨g, cap, cur, rfl, hgb, hgg, hnc, hcm, hcs, htk⟩ := HO2.out.2.resolve_left (fun h => by have h2 := h.2; simp [marks] at h2); have HNC := Lib.hid hnc; have hncap : n ≤ cap := (by rw [List.length_append, ← HN.out] at hnc; omega); have HGG := Lib.hid hgg; have HTK := Lib.hid htk; have HCM := Lib.hid hcm; have HCS := Lib.hid hcs; clear hnc hgg htk hcm hcs hgb))
  go_ret
  have hlen : (xs ++ marks).length = n + 6 := by rw [List.length_append, ← HN.out]; rfl
  refine ⟨_, rfl, ⟨g, cap, by rw [HN.out]; rfl, by rw [← HN.out, ← hlen]; exact HNC.out, HCM.out, (Array.getElem?_eq_some_iff.1 HGG.out).1, fun i hi => ?_⟩, HB4.out⟩
  rw [← HN.out, ← hlen] at hi
  rw [cell_of_row _ _ _ _ _ _ HGG.out]
  have h := cellsB_get hi
  rw [← HTK.out, List.getElem?_take, if_pos (by omega)] at h
  simpa using h
set_option maxRecDepth 100000 in
theorem kept_any (a v : Value) (xs : List Nat) (w : World) (ha : Marked w a xs) (hv : Rd w v xs) (hz : xs.length ≤ 1099511627776) :
    Calls Tryz.prog 19 #[a, v] w fun e w' => e = .returned (.bool true) ∧ ∃ m, w' = w.drewN m := by
  obtain ⟨b, c, rfl, hbc, hc63, hbl, hcell⟩ := ha
  have HV := Lib.hid hv
  obtain ⟨A, cv, rfl, hcv, hA⟩ := hv
  clear hA
  obtain ⟨n, hn⟩ : ∃ n, n = xs.length := ⟨_, rfl⟩
  rw [← hn] at hz hbc hcv HV hcell ⊢
  have HN := Lib.hid hn
  have HC := Lib.hid hcell
  clear hn hcell
  have hrd : Rd w (.slice (some ⟨b, 0, none⟩) n c) xs := ⟨some ⟨b, 0, none⟩, c, by rw [HN.out], by rw [← HN.out]; omega, fun h0 => ⟨b, 0, rfl, hbl, fun i hi => by
    rw [Nat.zero_add, HC.out i (by rw [HN.out]; omega)]
    simp [List.getD, List.getElem?_append_left hi]⟩⟩
  have hc1 : ∀ m, (convert 32 9 (.slice (some ⟨b, 0, none⟩) n c)).run Tryz.prog (w.drewN m) = .ok (.string (textOf xs)) (w.drewN m) := fun m => conv_rd (w := w.drewN m) hrd
  have hc2 : ∀ m, (convert 32 9 (.slice A n cv)).run Tryz.prog (w.drewN m) = .ok (.string (textOf xs)) (w.drewN m) := fun m => conv_rd (w := w.drewN m) HV.out
  have HC1 := Lib.hid hc1
  have HC2 := Lib.hid hc2
  clear hc1 hc2 hrd
  have hnc : n ≤ c := by omega
  have W6 : IntKind.i64.wrap ((n : Int) + 6) = (n : Int) + 6 := IntWalk.i64_in _ (by omega)
  have hlt : decide ((c : Int) < (n : Int) + 6) = false := by rw [decide_eq_false_iff_not]; omega
  go_enter Tryz.func19, Tryz.ntmps19
  go_wp2_with fail
  refine wp_region_held (S := (fun w' => ∃ m, w' = w.drewN m)) (by kernel_rfl) ?_
  change wpAnyH _ _ _ _ _ _ _ _ w.drew
  refine wpAnyH_take (i := 0) (v := ?_) rfl (by kernel_rfl) (by kernel_rfl) (by kernel_rfl) (fun _ _ _ h => h) (Or.inl ⟨by rfl, ?_⟩) (⟨1, rfl⟩) ?_
  rotate_left
  · intro w _; go_simp; with_reducible rfl
  try simp only [Act.put, List.getElem_toArray, List.getElem_cons_zero, List.setIfInBounds_toArray, List.set_cons_zero, List.set_cons_succ]
  refine wpAnyH_take (i := 1) (v := ?_) rfl (by kernel_rfl) (by kernel_rfl) (by kernel_rfl) (fun _ _ _ h => h) (Or.inl ⟨by rfl, ?_⟩) (⟨1, rfl⟩) ?_
  rotate_left
  · intro w _; go_simp; with_reducible rfl
  try simp only [Act.put, List.getElem_toArray, List.getElem_cons_zero, List.getElem_cons_succ, List.setIfInBounds_toArray, List.set_cons_zero, List.set_cons_succ]
  refine wpAnyH_take (i := 2) (v := ?_) rfl (by kernel_rfl) (by kernel_rfl) (by kernel_rfl) (fun _ _ _ h => h) (Or.inl ⟨by rfl, ?_⟩) (⟨1, rfl⟩) ?_
  rotate_left
  · intro w _; go_simp; with_reducible rfl
  try simp only [Act.put, List.getElem_toArray, List.getElem_cons_zero, List.getElem_cons_succ, List.setIfInBounds_toArray, List.set_cons_zero, List.set_cons_succ]
  refine wpAnyH_take (i := 3) (v := ?_) rfl (by kernel_rfl) (by kernel_rfl) (by kernel_rfl) (fun _ _ _ h => h) (Or.inl ⟨by rfl, ?_⟩) (⟨1, rfl⟩) ?_
  rotate_left
  · intro w _; go_simp; with_reducible rfl
  try simp only [Act.put, List.getElem_toArray, List.getElem_cons_zero, List.getElem_cons_succ, List.setIfInBounds_toArray, List.set_cons_zero, List.set_cons_succ]
  refine wpAnyH_take (i := 4) (v := ?_) rfl (by kernel_rfl) (by kernel_rfl) (by kernel_rfl) (fun _ _ _ h => h) (Or.inl ⟨by rfl, ?_⟩) (⟨1, rfl⟩) ?_
  rotate_left
  · intro w _; go_simp; with_reducible rfl
  try simp only [Act.put, List.getElem_toArray, List.getElem_cons_zero, List.getElem_cons_succ, List.setIfInBounds_toArray, List.set_cons_zero, List.set_cons_succ]
  refine wpAnyH_take (i := 5) (v := ?_) rfl (by kernel_rfl) (by kernel_rfl) (by kernel_rfl) (fun _ _ _ h => h) (Or.inl ⟨by rfl, ?_⟩) (⟨1, rfl⟩) ?_
  rotate_left
  · intro w _; go_simp; with_reducible rfl
  try simp only [Act.put, List.getElem_toArray, List.getElem_cons_zero, List.getElem_cons_succ, List.setIfInBounds_toArray, List.set_cons_zero, List.set_cons_succ]
  refine wpAnyH_take (i := 6) (v := ?_) rfl (by kernel_rfl) (by kernel_rfl) (by kernel_rfl) (fun _ _ _ h => h) (Or.inl ⟨by rfl, ?_⟩) (⟨1, rfl⟩) ?_
  rotate_left
  · intro w _; go_simp; with_reducible rfl
  try simp only [Act.put, List.getElem_toArray, List.getElem_cons_zero, List.getElem_cons_succ, List.setIfInBounds_toArray, List.set_cons_zero, List.set_cons_succ]
  refine wpAnyH_take (i := 7) (v := ?_) rfl (by kernel_rfl) (by kernel_rfl) (by kernel_rfl) (fun _ _ _ h => h) (Or.inl ⟨by rfl, ?_⟩) (⟨1, rfl⟩) ?_
  rotate_left
  · intro w _; go_simp; with_reducible rfl
  try simp only [Act.put, List.getElem_toArray, List.getElem_cons_zero, List.getElem_cons_succ, List.setIfInBounds_toArray, List.set_cons_zero, List.set_cons_succ]
  refine wpAnyH_take (i := 8) (v := ?_) rfl (by kernel_rfl) (by kernel_rfl) (by kernel_rfl) (fun _ _ _ h => h) (Or.inl ⟨by rfl, ?_⟩) (⟨1, rfl⟩) ?_
  rotate_left
  · intro w _; go_simp; with_reducible rfl
  try simp only [Act.put, List.getElem_toArray, List.getElem_cons_zero, List.getElem_cons_succ, List.setIfInBounds_toArray, List.set_cons_zero, List.set_cons_succ]
  refine wpAnyH_take (i := 9) (v := ?_) rfl (by kernel_rfl) (by kernel_rfl) (by kernel_rfl) (fun _ _ _ h => h) (Or.inl ⟨by rfl, ?_⟩) (⟨1, rfl⟩) ?_
  rotate_left
  · intro w _; go_simp; with_reducible rfl
  try simp only [Act.put, List.getElem_toArray, List.getElem_cons_zero, List.getElem_cons_succ, List.setIfInBounds_toArray, List.set_cons_zero, List.set_cons_succ]
  refine wpAnyH_take (i := 10) (v := ?_) rfl (by kernel_rfl) (by kernel_rfl) (by kernel_rfl) (fun _ _ _ h => h) (Or.inl ⟨by rfl, ?_⟩) (⟨1, rfl⟩) ?_
  rotate_left
  · intro w _; go_simp; with_reducible rfl
  try simp only [Act.put, List.getElem_toArray, List.getElem_cons_zero, List.getElem_cons_succ, List.setIfInBounds_toArray, List.set_cons_zero, List.set_cons_succ]
  refine wpAnyH_take (i := 11) rfl (by kernel_rfl) (by kernel_rfl) (by kernel_rfl) (fun _ _ _ h => h) (takes_conv 32 9 (.tmp 21) rfl (by rfl) _ (.string (textOf xs)) rfl (by rintro w' ⟨m, rfl⟩; exact HC1.out m)) (⟨1, rfl⟩) ?_
  try simp only [Act.put, List.getElem_toArray, List.getElem_cons_zero, List.getElem_cons_succ, List.setIfInBounds_toArray, List.set_cons_zero, List.set_cons_succ]
  refine wpAnyH_take (i := 12) (v := ?_) rfl (by kernel_rfl) (by kernel_rfl) (by kernel_rfl) (fun _ _ _ h => h) (Or.inl ⟨by rfl, ?_⟩) (⟨1, rfl⟩) ?_
  rotate_left
  · intro w _; go_simp; with_reducible rfl
  try simp only [Act.put, List.getElem_toArray, List.getElem_cons_zero, List.getElem_cons_succ, List.setIfInBounds_toArray, List.set_cons_zero, List.set_cons_succ]
  refine wpAnyH_take (i := 13) rfl (by kernel_rfl) (by kernel_rfl) (by kernel_rfl) (fun _ _ _ h => h) (takes_conv 32 9 (.tmp 23) rfl (by rfl) _ (.string (textOf xs)) rfl (by rintro w' ⟨m, rfl⟩; exact HC2.out m)) (⟨1, rfl⟩) ?_
  try simp only [Act.put, List.getElem_toArray, List.getElem_cons_zero, List.getElem_cons_succ, List.setIfInBounds_toArray, List.set_cons_zero, List.set_cons_succ]
  refine wpAnyH_take (i := 14) (v := ?_) rfl (by kernel_rfl) (by kernel_rfl) (by kernel_rfl) (fun _ _ _ h => h) (Or.inl ⟨by rfl, ?_⟩) (⟨1, rfl⟩) ?_
  rotate_left
  · intro w _; go_simp; with_reducible rfl
  try simp only [Act.put, List.getElem_toArray, List.getElem_cons_zero, List.getElem_cons_succ, List.setIfInBounds_toArray, List.set_cons_zero, List.set_cons_succ]
  refine wpAnyH_take (i := 15) (v := ?_) rfl (by kernel_rfl) (by kernel_rfl) (by kernel_rfl) (fun _ _ _ h => h) (Or.inl ⟨by rfl, ?_⟩) (⟨1, rfl⟩) ?_
  rotate_left
  · intro w _; go_simp; with_reducible rfl
  try simp only [Act.put, List.getElem_toArray, List.getElem_cons_zero, List.getElem_cons_succ, List.setIfInBounds_toArray, List.set_cons_zero, List.set_cons_succ]
  refine wpAnyH_done (by kernel_rfl) ?_ _
  clear W6 hlt
  go_wp2_with fail
  go_loop [6] (fun i => ∃ k : Nat, k ≤ 6 ∧ i = .int .i64 k) (fun i => 6 - (intOf i).toNat)
  case atStart => exact ⟨0, by omega, rfl⟩
  case round =>
    obtain ⟨k, hk, rfl⟩ := hrel
    by_cases hlt : k < 6
    · have hm : (xs ++ marks).getD (n + k) 0 = 201 + k := by
        have h : ∀ k : Fin 6, marks.getD k.val 0 = 201 + k.val := by decide
        rw [List.getD, List.getElem?_append_right (by rw [← HN.out]; omega), ← HN.out, Nat.add_sub_cancel_left]
        exact h ⟨k, hlt⟩
      have hcell := HC.out (n + k) (by omega)
      rw [hm] at hcell
      clear hm
      have i0 : (0 : Int) ≤ ((n : Nat) : Int) + ((k : Nat) : Int) := by omega
      have i1 : ((n : Nat) : Int) + ((k : Nat) : Int) < c := by omega
      have i2 : (((n : Nat) : Int) + ((k : Nat) : Int)).toNat = n + k := by omega
      go_wp2_with fail
      go_round
      case rel => exact ⟨k + 1, by omega, by go_num⟩
      case measure => simp [intOf]; omega
    · obtain rfl : k = 6 := by omega
      go_wp2_with fail
      go_ret
      exact ⟨rfl, _, rfl⟩
end Go.Proofs.YtjkneidoochfjaaGreatDoor
