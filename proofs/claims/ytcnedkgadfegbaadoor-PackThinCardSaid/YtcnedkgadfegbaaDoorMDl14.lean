/- delta.putFresh: fresh bytes as steps of at most 127. -/
import Derived.Test.YtcnedkgadfegbaaDoorMDl12s
namespace Go.Proofs.YtcnedkgadfegbaaDoor
open Go Go.RowKit Go.Shelf
attribute [local go_sem] Oper.semAt_some
def Dl.frs (text : List Nat) (l : List (Nat × Nat)) : List Nat := l.flatMap fun x => x.2 :: (text.drop x.1).take x.2
def Dl.fr (text : List Nat) : List Nat := Dl.frs text (Dl.chk text.length 0)
theorem Dl.frs_snoc (text : List Nat) (l : List (Nat × Nat)) (x : Nat × Nat) : Dl.frs text (l ++ [x]) = (Dl.frs text l ++ [x.2]) ++ (text.drop x.1).take x.2 := by simp [Dl.frs]
theorem Dl.frs_len (text : List Nat) : ∀ (l : List (Nat × Nat)), (∀ x ∈ l, 0 < x.2 ∧ x.2 ≤ 127 ∧ x.1 + x.2 ≤ text.length) → (Dl.frs text l).length ≤ 128 * l.length
  | [], _ => Nat.zero_le _
  | x :: l, h => by
    have h1 := Dl.frs_len text l (fun y hy => h y (by simp [hy]))
    have h2 := h x (by simp)
    have h3 : ((text.drop x.1).take x.2).length ≤ 127 := by rw [List.length_take]; omega
    unfold Dl.frs at h1 ⊢
    simp only [List.flatMap_cons, List.length_append, List.length_cons]
    omega
theorem Dl.chk_len (n p : Nat) : (Dl.chk n p).length ≤ n - p := by
  unfold Dl.chk
  generalize n - p = f
  induction f generalizing p with
  | zero => exact Nat.le_refl _
  | succ f ih =>
    rw [Dl.chF_succ]
    split
    · have := ih (p + 127); simp only [List.length_cons]; omega
    · simp
theorem Dl.Oth.from (B0 : Nat) (w : World) {β : Type} (hB : w.heap.size ≤ B0) : OwnFrom B0 (fun (_ : β) W => Dl.Oth w W) := fun _ X Y row hs hg hr => ⟨fun p cs T z hT e => by
  have h1 := hs.1 p cs T z hT e
  rw [hg.block p (Array.getElem?_eq_some_iff.1 h1).1 (fun er => by obtain ⟨_, o, ho, hc⟩ := hr p er.symm; rw [h1] at ho; cases ho; cases hc)]
  exact h1, ⟨Nat.le_trans hs.2.size hg.size, fun k o hk hc => by
  have h1 := hs.2.same k o hk hc
  rw [hg.block k (Array.getElem?_eq_some_iff.1 h1).1 (fun er => by have h2 := (hr k er.symm).1; have h3 := (Array.getElem?_eq_some_iff.1 hk).1; omega)]
  exact h1⟩⟩
theorem Dl.Oth.put {w W : World} (h : Dl.Oth w W) (D : Nat) (o o' : Obj) (hD : w.heap.size ≤ D) (hK : W.heap[D]? = some o) (hc : o.isCells = false) : Dl.Oth w (W.putObj D o') :=
  ⟨fun p cs T z hT e => by
    have h1 := h.1 p cs T z hT e
    exact (World.putObj_heap_other (fun ek => by subst ek; rw [h1] at hK; cases hK; cases hc)).trans h1,
   ⟨Nat.le_trans h.2.size (grownBy_putObj' W D o').size, fun k o2 hk hc2 => (World.putObj_heap_other (by have := (Array.getElem?_eq_some_iff.1 hk).1; omega)).trans (h.2.same k o2 hk hc2)⟩⟩
theorem KpC.put {n₀ bB bT B0 : Nat} (h1 : n₀ ≤ B0) (h2 : bB < B0) (h3 : bT < B0) (W : World) (l : Nat) (o o' : Obj) (hl : B0 ≤ l) (ho : W.heap[l]? = some o) (hc : o.isCells = false) : KpC n₀ bB bT W (W.putObj l o') :=
  ⟨⟨rfl, rfl, rfl, (grownBy_putObj' W l o').size, fun i hi => World.putObj_heap_other (by omega)⟩, fun k hk => World.putObj_heap_other (by omega), fun k cs z e => (World.putObj_heap_other (fun ek => by subst ek; rw [e] at ho; cases ho; cases hc)).trans e⟩
/-- what isn't a row of bytes stands, but for one box -/
def Near (Bb : Nat) (W W' : World) : Prop := ∀ (p : Nat) (cs : Array Value) (T : TypeId) (z : Nat × Nat), T ≠ 5 → p ≠ Bb → W.heap[p]? = some (Obj.cells cs T z) → W'.heap[p]? = some (Obj.cells cs T z)
theorem Near.trans {Bb : Nat} {a b c : World} (h : Near Bb a b) (k : Near Bb b c) : Near Bb a c := fun p cs T z n m e => k p cs T z n m (h p cs T z n m e)
/-- bytes appended to what a box holds, and stored back -/
theorem put_box {B Bb n m : Nat} {W W1 w1 : World} {v v' : Value} {ys ys2 : List Value} (h1 : Below W.heap.size W W1) (hs : B ≤ W.heap.size) (hBb : B ≤ Bb) (bV : Boxed W Bb 22 v) (hown : W.ownsRow B 5 1 v n ys)
    (hown' : w1.ownsRow B 5 1 v' m ys2) (hg : W1.grownBy w1 v.ownBlock) :
    Boxed w1 Bb 22 v ∧ Boxed (w1.setCell ⟨Bb, 0, none⟩ v') Bb 22 v' ∧ (w1.setCell ⟨Bb, 0, none⟩ v').ownsRow B 5 1 v' m ys2 ∧ KeepsOthers W (w1.setCell ⟨Bb, 0, none⟩ v') ∧ Below B W (w1.setCell ⟨Bb, 0, none⟩ v') ∧ Near Bb W (w1.setCell ⟨Bb, 0, none⟩ v') := by
  have hown1 : W1.ownsRow B 5 1 v n ys := by
    refine hown.kept (only_of_below h1 none) ?_
    rcases hown.2 with ⟨rfl, _⟩ | ⟨g, cap, cur, rfl, _⟩
    · exact .inl rfl
    · exact .inr (by simp [Value.ownBlock])
  have hv1 : Boxed w1 Bb 22 v := Boxed.kept (bxStands bV h1) hg (Boxed.not_row (bxStands bV h1) (by decide) hown1)
  refine ⟨hv1, hv1.set _, hown'.kept (grownBy_setCell' w1 Bb v') (.inr (hv1.not_row (by decide) hown').symm), ((keepsOthers_of_below h1).trans (KeepsOthers.of_grownBy hg fun j o ej hj => ?_)).trans (KeepsOthers.setCell _ _ _), ((h1.mono hs).grown hg (Nat.le_trans hs h1.size) (fun j ej => (hown.lt j ej).1)).setCell (p := ⟨Bb, 0, none⟩) hBb _, fun p cs T z hT hp e => ?_⟩
  · rcases hown1.2 with ⟨rfl, _⟩ | ⟨g, cap, cur, rfl, _, hgb, _⟩
    · simp [Value.ownBlock] at ej
    · obtain rfl : g = j := by simpa [Value.ownBlock] using ej
      rw [hgb] at hj; cases hj; rfl
  · have e1 : W1.heap[p]? = some (Obj.cells cs T z) := (h1.block p (Array.getElem?_eq_some_iff.1 e).1).trans e
    have e2 : w1.heap[p]? = some (Obj.cells cs T z) := (hg.block p (Array.getElem?_eq_some_iff.1 e1).1 (fun er => by
      rcases hown1.2 with ⟨rfl, _⟩ | ⟨g, cap, cur, rfl, _, hgb, _⟩
      · simp [Value.ownBlock] at er
      · obtain rfl : p = g := by simpa [Value.ownBlock] using er
        rw [e1] at hgb; cases hgb; exact hT rfl)).trans e1
    exact (Below.heap_setCell w1 ⟨Bb, 0, none⟩ v' p hp).trans e2
/-- between two parts -/
def FrI (text ys0 : List Nat) (B Bb : Nat) (tv : Value) (wb w : World) (pre : List (Nat × Nat)) (W : World) : Prop :=
  (((∃ v, Boxed W Bb 22 v ∧ W.ownsRow B 5 1 v (ys0 ++ Dl.frs text pre).length (cellsB (ys0 ++ Dl.frs text pre)) ∧ True) ∧ (Boxed W (Bb + 1) 22 tv ∧ Boxed W (Bb + 1 + 1) 3 (.int .i64 127))) ∧ Below B wb W) ∧ Dl.Oth w W
theorem FrI.own (text ys0 : List Nat) (B Bb B0 : Nat) (tv : Value) (wb w : World) (h1 : B ≤ wb.heap.size) (h2 : B ≤ B0) (h3 : w.heap.size ≤ B0) : OwnFrom B0 (FrI text ys0 B Bb tv wb w) :=
  OwnFrom.and (OwnFrom.and (OwnFrom.and (Own.from (holdsRow_own B Bb 22 5 1 (fun pre : List (Nat × Nat) => (ys0 ++ Dl.frs text pre).length) (fun pre : List (Nat × Nat) => cellsB (ys0 ++ Dl.frs text pre)) (fun _ _ => True)) B0) (OwnFrom.and (boxed_from B0 _ _ _) (boxed_from B0 _ _ _))) (ownFrom_below h1 h2)) (Dl.Oth.from B0 w h3)
set_option maxRecDepth 100000 in
set_option maxHeartbeats 2000000 in
theorem putFresh_any (v0 tv : Value) (ys0 text : List Nat) (B : Nat) (wb w : World) (hB : wb.heap.size = B) (hP : Pad B wb v0 ys0 w) (hT : Rd wb tv text) (hl : text.length ≤ 1000) (hz : ys0.length ≤ 549755813888) :
    Calls Tryd.prog 52 #[v0, tv] w fun e w' => ∃ v', e = .returned v' ∧ Pad B wb v' (ys0 ++ Dl.fr text) w' ∧ Dl.Oth w w' := by
  obtain ⟨A, c, rfl, hc, hA⟩ := hT
  have CC := fun w' => chunk_any (.slice A text.length c) w' ⟨_, _, _, rfl⟩
  have HP := Lib.hid hP
  obtain ⟨A0, c0, rfl⟩ := hP.len
  have HB := Lib.hid hB
  have HA := Lib.hid hA
  clear hP hB hA
  refine (callsIn_wide (n := 4)).1 ?_
  refine callsIn_of_wp_marks Tryd.func52 rfl trivial ?_ rfl
  simp only [Tryd.ntmps52, List.size_toArray, List.length_cons, List.length_nil, Nat.reduceAdd, Nat.reduceSub, Array.replicate_succ, Array.replicate_zero, List.push_toArray, List.append_toArray, List.nil_append, List.cons_append]
  gi_wp2_with (refine ⟨trivial, ?_⟩; gi_at_call 67; refine (callsIn_wide.2 (CC _)).mono ?_; rintro e w' ⟨rfl, rfl⟩)
  have n0 := Boxed.new w 22 (.slice A0 ys0.length c0)
  have n1 := Boxed.new (w.alloc (.cells #[.slice A0 ys0.length c0] 22)) 22 (.slice A text.length c)
  have n2 := Boxed.new ((w.alloc (.cells #[.slice A0 ys0.length c0] 22)).alloc (.cells #[.slice A text.length c] 22)) 3 (.int .i64 127)
  simp only [World.size_alloc] at n1 n2
  have m0 := (n0.alloc (.cells #[.slice A text.length c] 22)).alloc (.cells #[.int .i64 127] 3)
  have m1 := n1.alloc (.cells #[.int .i64 127] 3)
  have hsz : (((w.alloc (.cells #[.slice A0 ys0.length c0] 22)).alloc (.cells #[.slice A text.length c] 22)).alloc (.cells #[.int .i64 127] 3)).heap.size = w.heap.size + 3 := by simp
  have hbw : B ≤ w.heap.size := by rw [← HB.out]; rw [← HB.out] at HP; exact HP.out.bel.size
  have hbl : Below B wb (((w.alloc (.cells #[.slice A0 ys0.length c0] 22)).alloc (.cells #[.slice A text.length c] 22)).alloc (.cells #[.int .i64 127] 3)) := ((HP.out.bel.alloc hbw _).alloc (by simp; omega) _).alloc (by simp; omega) _
  have hot : Dl.Oth w (((w.alloc (.cells #[.slice A0 ys0.length c0] 22)).alloc (.cells #[.slice A text.length c] 22)).alloc (.cells #[.int .i64 127] 3)) := (((Dl.Oth.refl w).alloc _).alloc _).alloc _
  have how : (((w.alloc (.cells #[.slice A0 ys0.length c0] 22)).alloc (.cells #[.slice A text.length c] 22)).alloc (.cells #[.int .i64 127] 3)).ownsRow B 5 1 (.slice A0 ys0.length c0) ys0.length (cellsB ys0) := ownsRow_alloc (ownsRow_alloc (ownsRow_alloc HP.out.own _) _) _
  generalize ((w.alloc (.cells #[.slice A0 ys0.length c0] 22)).alloc (.cells #[.slice A text.length c] 22)).alloc (.cells #[.int .i64 127] 3) = W0 at *
  clear n0 n1 CC
  obtain ⟨b, o, hbo⟩ : ∃ b o, 0 < text.length → A = some ⟨b, o, none⟩ ∧ b < wb.heap.size ∧ ∀ i, i < text.length → wb.cell? ⟨b, o + i, none⟩ = some (.int .u8 ((text.getD i 0 : Nat) : Int)) := by
    by_cases h0 : 0 < text.length
    · obtain ⟨b, o, h1, h2, h3⟩ := HA.out h0
      exact ⟨b, o, fun _ => ⟨h1, h2, h3⟩⟩
    · exact ⟨0, 0, fun h => absurd h h0⟩
  have HBO := Lib.hid hbo
  have HLX := Lib.hid (show text.length ≤ 1000 ∧ ys0.length ≤ 549755813888 from ⟨hl, hz⟩)
  have RUN := chunk1_runs 3 (w.heap.size + 1) (w.heap.size + 1 + 1) B b o c text.length A W0 m1 n2 (fun h => (HBO.out h).1) hc (by omega) (by omega)
  clear hbo
  refine range_runs (Kp := KpC B (w.heap.size + 1) (w.heap.size + 1 + 1)) (lb := #[.pointer (some ⟨w.heap.size + 1, 0, none⟩), .pointer (some ⟨w.heap.size + 1 + 1, 0, none⟩)]) rfl (enters_of Tryd.func75 (by kernel_rfl) rfl) RUN (Below.refl _ _) (fun h k => h.trans k)
    (KpC.put (by omega) (by omega) (by omega)) (fun _ => rfl)
    (FrI text ys0 B w.heap.size (.slice A text.length c) wb w) (FrI.own _ _ _ _ _ _ _ _ (by rw [HB.out]; exact Nat.le_refl _) (by omega) (by omega))
    ⟨⟨⟨⟨_, m0, by simpa [Dl.frs] using how, trivial⟩, m1, n2⟩, hbl⟩, hot⟩
    (fun x a' _ => a' = { tmps := #[.slice A0 ys0.length c0, .slice A text.length c, .pointer (some ⟨w.heap.size, 0, none⟩), undef, .slice none 0 0, .slice (some ⟨b, o + x.1, none⟩) x.2 x.2, .slice A text.length c, .func (.func 75) #[] #[.pointer (some ⟨w.heap.size + 1, 0, none⟩), .pointer (some ⟨w.heap.size + 1 + 1, 0, none⟩)], .slice (some ⟨b, o + x.1, none⟩) x.2 x.2, undef, undef, undef, undef, undef, undef, undef, undef, undef, undef], defers := [] })
    (fun x a' _ X Y row hs hg hr => hs)
    ?assign ?body ?done
  case assign =>
    intro l pre x rest W K hx hi hK
    dsimp only [chV]
    gi_wp2
    exact hK _ _ (KeepsFrom.refl _ _) (KpC.refl _ _ _ _) hi rfl
  case body =>
    rintro l pre x rest a' W hx hI rfl
    have hin := Dl.chF_in _ _ x (show x ∈ Dl.chF text.length _ 0 from (show x ∈ Dl.chk text.length 0 by rw [hx]; simp))
    obtain ⟨⟨⟨⟨v, bV, hown, _⟩, bS, bN⟩, hBW⟩, hO⟩ := hI
    obtain ⟨q, e⟩ := x
    simp only at hin ⊢
    obtain ⟨e0, e1, eq⟩ := hin
    obtain ⟨hAe, hbb, hcel⟩ := HBO.out (by omega)
    obtain ⟨Av, cv, rfl⟩ := Pad.len (⟨hown, hBW⟩ : Pad B wb v (ys0 ++ Dl.frs text pre) W)
    obtain ⟨ys, hys⟩ : ∃ ys, ys = ys0 ++ Dl.frs text pre := ⟨_, rfl⟩
    have HSNOC := Lib.hid (show ys0 ++ Dl.frs text (pre ++ [(q, e)]) = (ys ++ [e]) ++ (text.drop q).take e by rw [Dl.frs_snoc, hys]; simp)
    have HYL : Hid (ys.length ≤ 600000000000) := Lib.hid (by
      have h := HLX.out
      have h2 := Dl.frs_len text pre (fun x hx' => Dl.chF_in _ _ x (show x ∈ Dl.chF text.length _ 0 from (show x ∈ Dl.chk text.length 0 by rw [hx]; simp [hx'])))
      have h3 : (pre ++ (q, e) :: rest).length ≤ 1000 := by rw [← hx]; exact Nat.le_trans (Dl.chk_len _ _) (by omega)
      rw [List.length_append] at h3
      rw [hys, List.length_append]
      omega)
    rw [← hys] at hown bV
    have cV := bV.cell
    obtain ⟨ny, hny⟩ : ∃ ny, ny = ys.length := ⟨_, rfl⟩
    rw [← hny] at cV
    have HBV : Hid (Boxed W w.heap.size 22 (.slice Av ny cv)) := Lib.hid (by rw [hny]; exact bV)
    have HOWN : Hid (W.ownsRow B 5 1 (.slice Av ny cv) ys.length (cellsB ys)) := Lib.hid (by rw [hny]; exact hown)
    have HOA : Hid ((W.alloc (.cells (u8s [e]) 5)).ownsRow B 5 1 (.slice Av ny cv) ys.length (cellsB ys)) := Lib.hid (ownsRow_alloc HOWN.out _)
    have HRM := Lib.hid (rd_of_lit W [e] 5 (by simp))
    have hsW : B ≤ W.heap.size := by have h := hBW.size; have h2 := HB.out; omega
    have HSW := Lib.hid hsW
    have HSA := Lib.hid (show B ≤ (W.alloc (.cells (u8s [e]) 5)).heap.size by simp; omega)
    have HBEL := Lib.hid ((Below.refl W.heap.size W).alloc (Nat.le_refl _) (.cells (u8s [e]) 5))
    have HLB := Lib.hid hbw
    have HZ1 := Lib.hid (show ys.length + [e].length ≤ 70368744177664 by have := HYL.out; simp; omega)
    have HZ2 := Lib.hid (show (ys ++ [e]).length + ((text.drop q).take e).length ≤ 70368744177664 by have := HYL.out; rw [List.length_append, List.length_take]; simp; omega)
    have hl2 : ((text.drop q).take e).length = e := by rw [List.length_take, List.length_drop]; omega
    have HL2 := Lib.hid hl2
    have HR2 : Hid (∀ W', Below B wb W' → Rd W' (.slice (some ⟨b, o + q, none⟩) e e) ((text.drop q).take e)) := Lib.hid fun W' h => by
      refine ⟨_, e, by rw [hl2], by rw [hl2]; exact Nat.le_refl _, fun _ => ⟨b, o + q, rfl, by have := h.size; omega, fun i hi => ?_⟩⟩
      rw [hl2] at hi
      rw [Sha.getD_take hi, Sha.getD_drop, Nat.add_assoc]
      exact (h.cell (p := ⟨b, o + (q + i), none⟩) (by show b < B; rw [← HB.out]; exact hbb)).trans (hcel (q + i) (by omega))
    have HBW := Lib.hid hBW
    have HO := Lib.hid hO
    have HBS := Lib.hid bS
    have HBN := Lib.hid bN
    have e3 : (e : Int) < 256 := by omega
    have e4 : 0 < e := e0
    clear hown bV hny hys hx hAe hcel hl2 hBW hO bS bN RUN n2 m0 m1 hot how hbl
    gi_wp2_with (first
      | (gi_at_builtin; refine listIn_round (by rfl) (by intro c; simp) (Dl.appendB (.tmp 9) (.tmp 13) (by rfl) B _ ys (by rfl) HOA.out HSA.out _ (by rfl) [e] HRM.out (by simp) HZ1.out ?_); intro v1 w1 ho1 hg1; obtain ⟨g1, k1, rfl⟩ := ownsRow_some ho1 (by simp); have PB := put_box HBEL.out HSW.out HLB.out HBV.out HOWN.out ho1 hg1; have c1 := PB.1.cell; have f1 := PB.1.frozen; have HPB := Lib.hid PB; obtain ⟨ny1, hny1⟩ : ∃ ny1, ny1 = (ys ++ [e]).length := ⟨_, rfl⟩; rw [← hny1] at HPB ⊢; have HN1 := Lib.hid hny1; have c2 : (w1.setCell ⟨w.heap.size, 0, none⟩ (.slice (some ⟨g1, 0, none⟩) ny1 k1)).cell? ⟨w.heap.size, 0, none⟩ = _ := HPB.out.2.1.cell; have HOWN2 : Hid ((w1.setCell ⟨w.heap.size, 0, none⟩ (.slice (some ⟨g1, 0, none⟩) ny1 k1)).ownsRow B 5 1 (.slice (some ⟨g1, 0, none⟩) ny1 k1) (ys ++ [e]).length (cellsB (ys ++ [e]))) := Lib.hid (by rw [← HN1.out]; exact HPB.out.2.2.1); clear PB ho1 hg1 hny1)
      | (gi_at_builtin; refine listIn_round (by rfl) (by intro c; simp) (Dl.appendB (.tmp 15) (.tmp 16) (by rfl) B _ (ys ++ [e]) (by rfl) HOWN2.out (Nat.le_trans HSW.out HPB.out.2.2.2.2.1.size) _ (by rfl) ((text.drop q).take e) (HR2.out _ (HBW.out.trans HPB.out.2.2.2.2.1)) (by rw [HL2.out]; exact e4) HZ2.out ?_); intro v2 w2 ho2 hg2; obtain ⟨g2, k2, rfl⟩ := ownsRow_some ho2 (by simp; omega); have PB := put_box (Below.refl _ _) (Nat.le_trans HSW.out HPB.out.2.2.2.2.1.size) HLB.out HPB.out.2.1 HOWN2.out ho2 hg2; have c3 := PB.1.cell; have f3 := PB.1.frozen; have HPB2 := Lib.hid PB; obtain ⟨ny2, hny2⟩ : ∃ ny2, ny2 = ((ys ++ [e]) ++ (text.drop q).take e).length := ⟨_, rfl⟩; rw [← hny2] at HPB2 ⊢; have HN2 := Lib.hid hny2; clear PB ho2 hg2 hny2))
    have near := HPB.out.2.2.2.2.2.trans HPB2.out.2.2.2.2.2
    have bel := HPB.out.2.2.2.2.1.trans HPB2.out.2.2.2.2.1
    have bS2 := near (w.heap.size + 1) _ _ _ (by decide) (by omega) HBS.out
    have bN2 := near (w.heap.size + 1 + 1) _ _ _ (by decide) (by omega) HBN.out
    refine ⟨rfl, (HPB.out.2.2.2.1.trans HPB2.out.2.2.2.1).from _, ⟨bel, fun k hk => ?_, fun k cs z hk => ?_⟩, ⟨⟨⟨⟨_, HPB2.out.2.1, ?_, trivial⟩, bS2, bN2⟩, HBW.out.trans bel⟩, ⟨fun p cs T z hT hp => ?_, HO.out.2.trans (HPB.out.2.2.2.1.trans HPB2.out.2.2.2.1)⟩⟩⟩
    · rcases hk with rfl | rfl
      · exact bS2.trans HBS.out.symm
      · exact bN2.trans HBN.out.symm
    · exact near k cs _ z (by decide) (fun ek => by subst ek; rw [show W.heap[w.heap.size]? = _ from HBV.out] at hk; injection hk with hk; injection hk with _ hk; revert hk; decide) hk
    · rw [HSNOC.out, ← HN2.out]; exact HPB2.out.2.2.1
    · exact near p cs T z hT (fun ep => by have := (Array.getElem?_eq_some_iff.1 hp).1; omega) (HO.out.1 p cs T z hT hp)
  case done =>
    rintro D W hD ⟨⟨⟨⟨v, bV, hown, _⟩, bS, bN⟩, hBW⟩, hO⟩ hK
    have cV := bV.cell
    gi_wp2
    refine ⟨by simp, .inl ⟨_, _, rfl, run_takeDeferred hK, ?_⟩⟩
    refine ⟨_, results_tmp rfl _ _ _, v, rfl, ⟨ownsRow_putObj hown _ hK rfl, hBW.trans (belowK_b (w := W0) (by omega) W D _ _ hD hK rfl rfl)⟩, hO.put D _ _ (by omega) hK rfl⟩
end Go.Proofs.YtcnedkgadfegbaaDoor
