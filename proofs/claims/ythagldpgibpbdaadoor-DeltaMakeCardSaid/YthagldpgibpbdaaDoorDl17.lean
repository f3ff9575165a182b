/- delta.Steps: how many copies and fresh steps. -/
import Derived.Test.YthagldpgibpbdaaDoorDl6
namespace Go.Proofs.YthagldpgibpbdaaDoor
open Go Go.RowKit Go.Shelf
attribute [local go_sem] Oper.semAt_some
namespace Dl
/-- copies, fresh steps; an error's number -/
def cnt : List Ev → Nat → Nat → Nat × Nat × Option Nat
  | [], a, b => (a, b, none)
  | .bad s :: _, _, _ => (0, 0, some (if s then 1 else 3))
  | .copy _ _ :: r, a, b => cnt r (a + 1) b
  | .fresh _ _ :: r, a, b => cnt r a (b + 1)
theorem cnt_count : ∀ (l : List Ev) (a b : Nat) (r : Nat × Nat), count l a b = some r → cnt l a b = (r.1, r.2, none)
  | [], a, b, r, h => by injection h with h; subst h; rfl
  | .bad _ :: _, _, _, _, h => by cases h
  | .copy _ _ :: r, a, b, x, h => cnt_count r (a + 1) b x h
  | .fresh _ _ :: r, a, b, x, h => cnt_count r a (b + 1) x h
def isC : Ev → Nat
  | .copy _ _ => 1
  | _ => 0
def isF : Ev → Nat
  | .fresh _ _ => 1
  | _ => 0
def nC (l : List Ev) : Nat := (l.map isC).sum
def nF (l : List Ev) : Nat := (l.map isF).sum
theorem nC_snoc (l : List Ev) (e : Ev) : nC (l ++ [e]) = nC l + isC e := by simp [nC]
theorem nF_snoc (l : List Ev) (e : Ev) : nF (l ++ [e]) = nF l + isF e := by simp [nF]
theorem nCF_le : ∀ (l : List Ev), nC l ≤ l.length ∧ nF l ≤ l.length
  | [] => ⟨Nat.le_refl _, Nat.le_refl _⟩
  | e :: l => by
    have h := nCF_le l
    unfold nC nF at *
    simp only [List.map_cons, List.sum_cons, List.length_cons]
    have : isC e ≤ 1 ∧ isF e ≤ 1 := by cases e <;> simp [isC, isF]
    omega
def stepsP (d : List Nat) : Nat × Nat × Option Nat := if d.length < 4 then (0, 0, some 1) else cnt (evs d 4) 0 0
def CGoes (pre : List Ev) : Prop := ∀ rest, cnt (pre ++ rest) 0 0 = cnt rest (nC pre) (nF pre)
def CEnds (pre : List Ev) (k : Nat) : Prop := ∀ rest, cnt (pre ++ rest) 0 0 = (0, 0, some k)
theorem CGoes.nil : CGoes [] := fun _ => rfl
theorem CGoes.step {pre : List Ev} {e : Ev} (h : CGoes pre) (he : ∀ rest, cnt (e :: rest) (nC pre) (nF pre) = cnt rest (nC pre + isC e) (nF pre + isF e)) : CGoes (pre ++ [e]) := fun rest => by
  rw [List.append_assoc, nC_snoc, nF_snoc]; exact (h _).trans (he rest)
theorem CGoes.stop {pre : List Ev} {k : Nat} {e : Ev} (h : CGoes pre) (he : ∀ rest, cnt (e :: rest) (nC pre) (nF pre) = (0, 0, some k)) : CEnds (pre ++ [e]) k := fun rest => by
  rw [List.append_assoc]; exact (h _).trans (he rest)
end Dl
/-- how Steps ends -/
def StepsPost (r : Nat × Nat × Option Nat) (ea : Nat → Addr) (w : World) (e : Ending) (w' : World) : Prop :=
  e = .returned (.tuple #[.int .i64 (r.1 : Int), .int .i64 (r.2.1 : Int), match r.2.2 with | none => .nilIface | some k => ev (ea k)]) ∧ Below w.heap.size w w'
def StI (d : List Nat) (B : Nat) (w : World) (pre : List Dl.Ev) (W : World) : Prop :=
  ((Boxed W B 3 (.int .i64 0) ∧ Boxed W (B + 1) 3 (.int .i64 0) ∧ Boxed W (B + 2) 26 .nilIface) ∧ Boxed W (B + 3) 3 (.int .i64 ((Dl.nC (pre.map (Dl.norm d)) : Nat) : Int)) ∧ Boxed W (B + 4) 3 (.int .i64 ((Dl.nF (pre.map (Dl.norm d)) : Nat) : Int))) ∧ Below B w W ∧ Dl.CGoes (pre.map (Dl.norm d))
def StX (d : List Nat) (B : Nat) (ea : Nat → Addr) (w : World) (c : Code) (pre : List Dl.Ev) (W : World) : Prop :=
  (c = .ret ∧ ∃ k, Dl.CEnds (pre.map (Dl.norm d)) k ∧ Boxed W B 3 (.int .i64 0) ∧ Boxed W (B + 1) 3 (.int .i64 0) ∧ Boxed W (B + 2) 26 (ev (ea k))) ∧ Below B w W
theorem box_from {β : Type} (B0 B : Nat) (t : TypeId) (f : β → Value) : OwnFrom B0 (fun (x : β) W => Boxed W B t (f x)) :=
  fun _ _X _Y _row hs hg hr => Blk.keptFrom (cs := #[_]) hs hg (fun r e => (hr r e).2)
theorem StI.own (d : List Nat) (B B0 : Nat) (w : World) (h1 : B ≤ w.heap.size) (h2 : B ≤ B0) : OwnFrom B0 (StI d B w) :=
  OwnFrom.and (OwnFrom.and (OwnFrom.and (boxed_from B0 _ _ _) (OwnFrom.and (boxed_from B0 _ _ _) (boxed_from B0 _ _ _))) (OwnFrom.and (box_from B0 _ _ _) (box_from B0 _ _ _))) (OwnFrom.and (ownFrom_below h1 h2) (fun _ _X _Y _row hs _ _ => hs))
theorem StX.own (d : List Nat) (B B0 : Nat) (ea : Nat → Addr) (w : World) (c : Code) (h1 : B ≤ w.heap.size) (h2 : B ≤ B0) : OwnFrom B0 (StX d B ea w c) :=
  OwnFrom.and (fun _ X Y row ⟨hc, k, hk, a1, a2, a3⟩ hg hr => ⟨hc, k, hk, boxed_from (β := Unit) B0 _ _ _ () X Y row a1 hg hr, boxed_from (β := Unit) B0 _ _ _ () X Y row a2 hg hr, boxed_from (β := Unit) B0 _ _ _ () X Y row a3 hg hr⟩) (ownFrom_below h1 h2)
set_option maxRecDepth 100000 in
theorem st_leave {tmps : Array Value} {W2 : World} {D : Nat} {v u e : Value} {b1 b2 b3 : Nat} {R : Ending → World → Prop} (h2 : tmps.getD 2 undef = .pointer (some ⟨b1, 0, none⟩)) (h3 : tmps.getD 3 undef = .pointer (some ⟨b2, 0, none⟩)) (h4 : tmps.getD 4 undef = .pointer (some ⟨b3, 0, none⟩))
    (B1 : Boxed W2 b1 3 v) (B2 : Boxed W2 b2 3 u) (B3 : Boxed W2 b3 26 e) (hK : W2.heap[D]? = some (.deferred (some []))) (hR : R (.returned (.tuple #[v, u, e])) (W2.putObj D (.deferred none))) :
    bodyPostM Fence.wide 4 Tryd.prog Tryd.f13 R .ret { tmps := tmps, defers := [{ target := .collected D, args := #[] }] } W2 := by
  refine ⟨by simp, .inl ⟨_, _, rfl, run_takeDeferred hK, _, ?_, hR⟩⟩
  have c1 := (bxPut B1 hK).cell
  have c2 := (bxPut B2 hK).cell
  have c3 := (bxPut B3 hK).cell
  generalize W2.putObj D (.deferred none) = W3 at *
  simp only [Array.getD_eq_getD_getElem?] at h2 h3 h4
  simp [results, Tryd.results13, go_sem, h2, h3, h4, c1, c2, c3]
set_option maxRecDepth 100000 in
set_option maxHeartbeats 1000000 in
theorem steps_short (A : Option Addr) (c : Nat) (d : List Nat) (ea : Nat → Addr) (w : World) (hS : SSents w ea) (h4 : d.length < 4) :
    Calls Tryd.prog 13 #[.slice A d.length c] w (StepsPost (Dl.stepsP d) ea w) := by
  have SZ : ∀ w', Below w.heap.size w w' → Calls Tryd.prog 15 #[.slice A d.length c] w' fun e w'' => e = .returned (.tuple #[.int .i64 0, .int .i64 0, ev (ea 1)]) ∧ ∃ m, w'' = w'.drewN m := fun w' hw =>
    sizes_short A c d (ea 1) w' h4 ((hS 1 (by omega)).below hw (Nat.le_refl _)).var
  have HE : Dl.stepsP d = (0, 0, some 1) := by unfold Dl.stepsP; rw [if_pos h4]
  rw [HE]
  clear h4 hS HE
  refine (callsIn_wide (n := 4)).1 ?_
  refine callsIn_of_wp Tryd.func13 rfl trivial ?_ rfl
  simp only [Tryd.ntmps13, List.size_toArray, List.length_cons, List.length_nil, Nat.reduceAdd, Nat.reduceSub, Array.replicate_succ, Array.replicate_zero, List.push_toArray, List.append_toArray, List.nil_append, List.cons_append]
  gi_wp2_with (refine ⟨trivial, ?_⟩; gi_at_call 15; refine (callsIn_wide.2 (SZ _ ?_)).mono ?_; exact ((((Below.refl _ w).alloc (Nat.le_refl _) _).alloc (by simp) _).alloc (by simp; omega) _); rintro e w' ⟨rfl, m, rfl⟩)
  have k0 : Boxed ((((w.alloc (.cells #[.int .i64 0] 3)).alloc (.cells #[.int .i64 0] 3)).alloc (.cells #[.nilIface] 26)).drewN m) w.heap.size 3 (.int .i64 0) := ((Boxed.new w 3 (.int .i64 0)).alloc _).alloc _
  have k1 : Boxed ((((w.alloc (.cells #[.int .i64 0] 3)).alloc (.cells #[.int .i64 0] 3)).alloc (.cells #[.nilIface] 26)).drewN m) (w.heap.size + 1) 3 (.int .i64 0) := by
    have h := (Boxed.new (w.alloc (.cells #[.int .i64 0] 3)) 3 (.int .i64 0)).alloc (.cells #[.nilIface] 26)
    simp only [World.size_alloc] at h
    exact h
  have k2 : Boxed ((((w.alloc (.cells #[.int .i64 0] 3)).alloc (.cells #[.int .i64 0] 3)).alloc (.cells #[.nilIface] 26)).drewN m) (w.heap.size + 1 + 1) 26 .nilIface := by
    have h := Boxed.new ((w.alloc (.cells #[.int .i64 0] 3)).alloc (.cells #[.int .i64 0] 3)) 26 .nilIface
    simp only [World.size_alloc] at h
    exact h
  have bl := (((below_drewN ((((Below.refl _ w).alloc (Nat.le_refl _) (.cells #[.int .i64 0] 3)).alloc (by simp) (.cells #[.int .i64 0] 3)).alloc (by simp; omega) (.cells #[.nilIface] 26)) m).setCell (p := ⟨w.heap.size, 0, none⟩) (Nat.le_refl _) (.int .i64 0)).setCell (p := ⟨w.heap.size + 1, 0, none⟩) (Nat.le_add_right _ _) (.int .i64 0)).setCell (p := ⟨w.heap.size + 1 + 1, 0, none⟩) (by show w.heap.size ≤ w.heap.size + 1 + 1; omega) (ev (ea 1))
  have j0 := (bxPast (bxPast (Boxed.set (.int .i64 0) k0) (B' := w.heap.size + 1) (by omega) (.int .i64 0)) (B' := w.heap.size + 1 + 1) (by omega) (ev (ea 1))).cell
  have j1 := (bxPast (Boxed.set (.int .i64 0) (bxPast k1 (B' := w.heap.size) (by omega) (.int .i64 0))) (B' := w.heap.size + 1 + 1) (by omega) (ev (ea 1))).cell
  have j2 := (Boxed.set (ev (ea 1)) (bxPast (bxPast k2 (B' := w.heap.size) (by omega) (.int .i64 0)) (B' := w.heap.size + 1) (by omega) (.int .i64 0))).cell
  generalize ((((((w.alloc (.cells #[.int .i64 0] 3)).alloc (.cells #[.int .i64 0] 3)).alloc (.cells #[.nilIface] 26)).drewN m).setCell ⟨w.heap.size, 0, none⟩ (.int .i64 0)).setCell ⟨w.heap.size + 1, 0, none⟩ (.int .i64 0)).setCell ⟨w.heap.size + 1 + 1, 0, none⟩ (ev (ea 1)) = W9 at *
  refine bodyPost_ret (v := .tuple #[.int .i64 0, .int .i64 0, ev (ea 1)]) (by simp [results, Tryd.results13, go_sem, j0, j1, j2]) rfl ⟨rfl, bl⟩
theorem st_stop {d : List Nat} {B B0 : Nat} {ea : Nat → Addr} {w W : World} {pre : List Dl.Ev} {x : Dl.Ev} {k : Nat} {a : Act} (hI : StI d B w pre W)
    (hE : Dl.CEnds (pre.map (Dl.norm d) ++ [Dl.norm d x]) k) (_hB : B ≤ w.heap.size) :
    ownPostG B0 (Below B) (StI d B w) (StX d B ea w) (pre ++ [x]) W .ret a (((W.setCell ⟨B, 0, none⟩ (.int .i64 0)).setCell ⟨B + 1, 0, none⟩ (.int .i64 0)).setCell ⟨B + 1 + 1, 0, none⟩ (ev (ea k))) := by
  obtain ⟨⟨⟨b0, b1, b2⟩, _, _⟩, hBW, _⟩ := hI
  refine ⟨((KeepsOthers.setCell _ _ _).trans ((KeepsOthers.setCell _ _ _).trans (KeepsOthers.setCell _ _ _))).from _, ⟨rfl, k, by simpa using hE, ?_, ?_, ?_⟩, ?_⟩
  · exact bxPast (bxPast (Boxed.set _ b0) (by omega) _) (by omega) _
  · exact bxPast (Boxed.set _ (bxPast b1 (by omega) _)) (by omega) _
  · exact Boxed.set _ (bxPast (bxPast b2 (by omega) _) (by omega) _)
  · exact hBW.trans ((((Below.refl B W).setCell (p := ⟨B, 0, none⟩) (Nat.le_refl _) _).setCell (p := ⟨B + 1, 0, none⟩) (by show B ≤ B + 1; omega) _).setCell (p := ⟨B + 1 + 1, 0, none⟩) (by show B ≤ B + 1 + 1; omega) _)
theorem st_copy {d : List Nat} {B B0 : Nat} {ea : Nat → Addr} {w W : World} {pre : List Dl.Ev} {x : Dl.Ev} {n f : Nat} {a : Act} {q : Int} (hI : StI d B w pre W) (hx : Dl.norm d x = .copy n f) (_hB : B ≤ w.heap.size) (hq : q = ((Dl.nC (pre.map (Dl.norm d)) : Nat) : Int) + 1) :
    ownPostG B0 (Below B) (StI d B w) (StX d B ea w) (pre ++ [x]) W .normal a (W.setCell ⟨B + 3, 0, none⟩ (.int .i64 q)) := by
  obtain ⟨⟨⟨b0, b1, b2⟩, b3, b4⟩, hBW, hG⟩ := hI
  have hb := (Below.refl B W).setCell (p := ⟨B + 3, 0, none⟩) (by show B ≤ B + 3; omega) (.int .i64 q)
  subst hq
  refine ⟨(KeepsOthers.setCell _ _ _).from _, hb, ⟨⟨bxPast b0 (by omega) _, bxPast b1 (by omega) _, bxPast b2 (by omega) _⟩, ?_, ?_⟩, hBW.trans hb, ?_⟩
  · rw [List.map_append, List.map_cons, List.map_nil, Dl.nC_snoc, hx]
    exact Boxed.set _ b3
  · rw [List.map_append, List.map_cons, List.map_nil, Dl.nF_snoc, hx]
    exact bxPast b4 (by omega) _
  · rw [List.map_append, List.map_cons, List.map_nil, hx]
    exact hG.step fun rest => rfl
theorem st_fresh {d : List Nat} {B B0 : Nat} {ea : Nat → Addr} {w W : World} {pre : List Dl.Ev} {x : Dl.Ev} {n f : Nat} {a : Act} {q : Int} (hI : StI d B w pre W) (hx : Dl.norm d x = .fresh n f) (_hB : B ≤ w.heap.size) (hq : q = ((Dl.nF (pre.map (Dl.norm d)) : Nat) : Int) + 1) :
    ownPostG B0 (Below B) (StI d B w) (StX d B ea w) (pre ++ [x]) W .normal a (W.setCell ⟨B + 4, 0, none⟩ (.int .i64 q)) := by
  obtain ⟨⟨⟨b0, b1, b2⟩, b3, b4⟩, hBW, hG⟩ := hI
  have hb := (Below.refl B W).setCell (p := ⟨B + 4, 0, none⟩) (by show B ≤ B + 4; omega) (.int .i64 q)
  subst hq
  refine ⟨(KeepsOthers.setCell _ _ _).from _, hb, ⟨⟨bxPast b0 (by omega) _, bxPast b1 (by omega) _, bxPast b2 (by omega) _⟩, ?_, ?_⟩, hBW.trans hb, ?_⟩
  · rw [List.map_append, List.map_cons, List.map_nil, Dl.nC_snoc, hx]
    exact bxPast b3 (by omega) _
  · rw [List.map_append, List.map_cons, List.map_nil, Dl.nF_snoc, hx]
    exact Boxed.set _ b4
  · rw [List.map_append, List.map_cons, List.map_nil, hx]
    exact hG.step fun rest => rfl
set_option maxRecDepth 100000 in
set_option maxHeartbeats 2000000 in
theorem steps_count (A : Option Addr) (n c : Nat) (d : List Nat) (ea : Nat → Addr) (w : World) (hD : Rd w (.slice A n c) d) (hb : Sha.Byte d) (hS : SSents w ea) (h4 : 4 ≤ d.length) (hl : d.length ≤ 1000000) :
    Calls Tryd.prog 13 #[.slice A n c] w (StepsPost (Dl.stepsP d) ea w) := by
  rw [show Dl.stepsP d = Dl.cnt (Dl.evs d 4) 0 0 by unfold Dl.stepsP; rw [if_neg (by omega)]]
  refine (callsIn_wide (n := 4)).1 ?_
  have SZ : ∀ w', Below w.heap.size w w' → Calls Tryd.prog 15 #[.slice A n c] w' fun e w'' => e = .returned (.tuple #[.int .i64 (Dl.two d 0 : Nat), .int .i64 (Dl.two d 2 : Nat), .nilIface]) ∧ ∃ m, w'' = w'.drewN m := fun w' hw => sizes_any A n c d w' (hD.below hw (Nat.le_refl _)) hb h4
  obtain ⟨hnd, hcd, b, o, rfl, hbw, hcl⟩ := hD.blk (by omega)
  subst hnd
  have hDI : DIn w d b o c (ea 1) (ea 3) := ⟨hcd, hb, hbw, hcl, (hS 1 (by omega)).var, (hS 3 (by omega)).var⟩
  have ST := fun w' => steps_any (.slice (some ⟨b, o, none⟩) d.length c) w' ⟨_, _, _, rfl⟩
  obtain ⟨p0, hp0⟩ : ∃ x, x = Dl.two d 0 := ⟨_, rfl⟩
  obtain ⟨p2, hp2⟩ : ∃ x, x = Dl.two d 2 := ⟨_, rfl⟩
  rw [← hp0, ← hp2] at SZ
  clear hp0 hp2
  refine callsIn_of_wp_marks Tryd.func13 rfl trivial ?_ rfl
  simp only [Tryd.ntmps13, List.size_toArray, List.length_cons, List.length_nil, Nat.reduceAdd, Nat.reduceSub, Array.replicate_succ, Array.replicate_zero, List.push_toArray, List.append_toArray, List.nil_append, List.cons_append]
  gi_wp2_with (first | (refine ⟨trivial, ?_⟩; gi_at_call 15; refine (callsIn_wide.2 (SZ _ ?_)).mono ?_; exact ((((Below.refl _ w).alloc (Nat.le_refl _) _).alloc (by simp) _).alloc (by simp; omega) _); rintro e w' ⟨rfl, m, rfl⟩) | (refine ⟨trivial, ?_⟩; gi_at_call 18; refine (callsIn_wide.2 (ST _)).mono ?_; rintro e w' ⟨rfl, rfl⟩))
  clear SZ ST
  have ez : ((((w.alloc (.cells #[.int .i64 0] 3)).alloc (.cells #[.int .i64 0] 3)).alloc (.cells #[.nilIface] 26)).drewN m).heap.size = w.heap.size + 3 := by simp
  have n0 : Boxed (((((((w.alloc (.cells #[.int .i64 0] 3)).alloc (.cells #[.int .i64 0] 3)).alloc (.cells #[.nilIface] 26)).drewN m).alloc (.cells #[.int .i64 0] 3)).alloc (.cells #[.int .i64 0] 3)).alloc (.cells #[.slice (some ⟨b, o, none⟩) d.length c] 22)) w.heap.size 3 (.int .i64 0) := (((((Boxed.new w 3 (.int .i64 0)).alloc _).alloc _).alloc _).alloc _).alloc _
  have n1 : Boxed (((((((w.alloc (.cells #[.int .i64 0] 3)).alloc (.cells #[.int .i64 0] 3)).alloc (.cells #[.nilIface] 26)).drewN m).alloc (.cells #[.int .i64 0] 3)).alloc (.cells #[.int .i64 0] 3)).alloc (.cells #[.slice (some ⟨b, o, none⟩) d.length c] 22)) (w.heap.size + 1) 3 (.int .i64 0) := by
    have h := ((((Boxed.new (w.alloc (.cells #[.int .i64 0] 3)) 3 (.int .i64 0)).alloc (.cells #[.nilIface] 26)).alloc (.cells #[.int .i64 0] 3)).alloc (.cells #[.int .i64 0] 3)).alloc (.cells #[.slice (some ⟨b, o, none⟩) d.length c] 22)
    simp only [World.size_alloc] at h
    exact h
  have n2 : Boxed (((((((w.alloc (.cells #[.int .i64 0] 3)).alloc (.cells #[.int .i64 0] 3)).alloc (.cells #[.nilIface] 26)).drewN m).alloc (.cells #[.int .i64 0] 3)).alloc (.cells #[.int .i64 0] 3)).alloc (.cells #[.slice (some ⟨b, o, none⟩) d.length c] 22)) (w.heap.size + 2) 26 .nilIface := by
    have h := (((Boxed.new ((w.alloc (.cells #[.int .i64 0] 3)).alloc (.cells #[.int .i64 0] 3)) 26 .nilIface).alloc (.cells #[.int .i64 0] 3)).alloc (.cells #[.int .i64 0] 3)).alloc (.cells #[.slice (some ⟨b, o, none⟩) d.length c] 22)
    simp only [World.size_alloc] at h
    exact h
  have n3 : Boxed (((((((w.alloc (.cells #[.int .i64 0] 3)).alloc (.cells #[.int .i64 0] 3)).alloc (.cells #[.nilIface] 26)).drewN m).alloc (.cells #[.int .i64 0] 3)).alloc (.cells #[.int .i64 0] 3)).alloc (.cells #[.slice (some ⟨b, o, none⟩) d.length c] 22)) (w.heap.size + 3) 3 (.int .i64 0) := by
    have h := ((Boxed.new ((((w.alloc (.cells #[.int .i64 0] 3)).alloc (.cells #[.int .i64 0] 3)).alloc (.cells #[.nilIface] 26)).drewN m) 3 (.int .i64 0)).alloc (.cells #[.int .i64 0] 3)).alloc (.cells #[.slice (some ⟨b, o, none⟩) d.length c] 22)
    simp only [ez] at h
    exact h
  have n4 : Boxed (((((((w.alloc (.cells #[.int .i64 0] 3)).alloc (.cells #[.int .i64 0] 3)).alloc (.cells #[.nilIface] 26)).drewN m).alloc (.cells #[.int .i64 0] 3)).alloc (.cells #[.int .i64 0] 3)).alloc (.cells #[.slice (some ⟨b, o, none⟩) d.length c] 22)) (w.heap.size + 4) 3 (.int .i64 0) := by
    have h := (Boxed.new (((((w.alloc (.cells #[.int .i64 0] 3)).alloc (.cells #[.int .i64 0] 3)).alloc (.cells #[.nilIface] 26)).drewN m).alloc (.cells #[.int .i64 0] 3)) 3 (.int .i64 0)).alloc (.cells #[.slice (some ⟨b, o, none⟩) d.length c] 22)
    simp only [World.size_alloc, ez] at h
    exact h
  have n5 : Boxed (((((((w.alloc (.cells #[.int .i64 0] 3)).alloc (.cells #[.int .i64 0] 3)).alloc (.cells #[.nilIface] 26)).drewN m).alloc (.cells #[.int .i64 0] 3)).alloc (.cells #[.int .i64 0] 3)).alloc (.cells #[.slice (some ⟨b, o, none⟩) d.length c] 22)) (w.heap.size + 5) 22 (.slice (some ⟨b, o, none⟩) d.length c) := by
    have h := Boxed.new ((((((w.alloc (.cells #[.int .i64 0] 3)).alloc (.cells #[.int .i64 0] 3)).alloc (.cells #[.nilIface] 26)).drewN m).alloc (.cells #[.int .i64 0] 3)).alloc (.cells #[.int .i64 0] 3)) 22 (.slice (some ⟨b, o, none⟩) d.length c)
    simp only [World.size_alloc, ez] at h
    exact h
  have hBel2 : Below w.heap.size w (((((((w.alloc (.cells #[.int .i64 0] 3)).alloc (.cells #[.int .i64 0] 3)).alloc (.cells #[.nilIface] 26)).drewN m).alloc (.cells #[.int .i64 0] 3)).alloc (.cells #[.int .i64 0] 3)).alloc (.cells #[.slice (some ⟨b, o, none⟩) d.length c] 22)) := (((below_drewN ((((Below.refl _ w).alloc (Nat.le_refl _) _).alloc (by simp) _).alloc (by simp; omega) _) m).alloc (by simp; omega) _).alloc (by simp; omega) _).alloc (by simp; omega) _
  have hz6 : (((((((w.alloc (.cells #[.int .i64 0] 3)).alloc (.cells #[.int .i64 0] 3)).alloc (.cells #[.nilIface] 26)).drewN m).alloc (.cells #[.int .i64 0] 3)).alloc (.cells #[.int .i64 0] 3)).alloc (.cells #[.slice (some ⟨b, o, none⟩) d.length c] 22)).heap.size = w.heap.size + 6 := by simp
  generalize (((((((w.alloc (.cells #[.int .i64 0] 3)).alloc (.cells #[.int .i64 0] 3)).alloc (.cells #[.nilIface] 26)).drewN m).alloc (.cells #[.int .i64 0] 3)).alloc (.cells #[.int .i64 0] 3)).alloc (.cells #[.slice (some ⟨b, o, none⟩) d.length c] 22)) = W0 at *
  have hB6 : w.heap.size ≤ W0.heap.size := by omega
  have hOI := StI.own d w.heap.size W0.heap.size w (Nat.le_refl _) hB6
  refine wpIn_rangeFunc_ownH rfl (by omega) (gf := 26) (lb := #[.pointer (some ⟨w.heap.size + 1 + 1 + 1 + 1 + 1, 0, none⟩)]) rfl trivial (enters_of Tryd.func26 (by kernel_rfl) rfl)
    (steps_stops 3 (by omega) (w.heap.size + 1 + 1 + 1 + 1 + 1) w.heap.size d b o c (ea 1) (ea 3) W0 ⟨hbw, block_lt_of_cell hDI.short, block_lt_of_cell hDI.form⟩ hB6 h4 n5.cell (hDI.below hBel2 (Nat.le_refl _))) belowK_t (belowK_b hB6) (Below.refl _ _) (fun _ => rfl)
    (StI d w.heap.size w) (StX d w.heap.size ea w) hOI (fun k => StX.own d _ _ ea w k (Nat.le_refl _) hB6)
    ⟨⟨⟨n0, n1, n2⟩, n3, n4⟩, hBel2, Dl.CGoes.nil⟩
    (fun x a' W => ∃ Bx, w.heap.size + 4 < Bx ∧ Blk W Bx 44 (stepC b o c (Dl.norm d x)) ∧ a' = { tmps := #[.slice (some ⟨b, o, none⟩) d.length c, undef, .pointer (some ⟨w.heap.size, 0, none⟩), .pointer (some ⟨w.heap.size + 1, 0, none⟩), .pointer (some ⟨w.heap.size + 1 + 1, 0, none⟩), .int .i64 (p0 : Int), .int .i64 (p2 : Int), .nilIface, .pointer (some ⟨w.heap.size + 1 + 1 + 1, 0, none⟩), .pointer (some ⟨w.heap.size + 1 + 1 + 1 + 1, 0, none⟩), .pointer (some ⟨Bx, 0, none⟩), errV (ea 1) (ea 3) (Dl.norm d x), .tuple #[.int .i64 (p0 : Int), .int .i64 (p2 : Int), .nilIface], .slice (some ⟨b, o, none⟩) d.length c, .tuple #[.int .i64 (p0 : Int), .int .i64 (p2 : Int), .nilIface], .int .i64 (p0 : Int), .int .i64 (p2 : Int), .nilIface, .nilIface, .bool false, undef, .slice (some ⟨b, o, none⟩) d.length c, .func (.func 26) #[] #[.pointer (some ⟨w.heap.size + 1 + 1 + 1 + 1 + 1, 0, none⟩)], stepV b o c (Dl.norm d x), errV (ea 1) (ea 3) (Dl.norm d x), undef, undef, undef, undef, undef, undef, undef, undef, undef, undef, undef, undef, undef, undef], defers := [] })
    (fun x a' _ X Y row hs hg hr => by obtain ⟨Bx, h1, h2, h3⟩ := hs; exact ⟨Bx, h1, h2.keptFrom hg (fun r e => (hr r e).2), h3⟩)
    ?assign ?body ?done ?stop
  case assign =>
    intro l pre x W K hi hK
    have hsW := hi.2.1.size
    have hlt := hi.1.2.2.lt
    generalize Dl.norm d x = y at hK ⊢
    cases y with
    | bad s =>
      cases s
      all_goals
        simp only [stepV, errV] at hK ⊢
        gi_wp2
        exact hK _ _ ((KeepsOthers.alloc _ _).from _) ((Below.refl _ W).alloc hsW _) (hOI pre W _ none hi (World.grownBy_alloc W _ none) (fun r e => by cases e)) ⟨W.heap.size, hlt, Blk.new _ _ _, rfl⟩
    | copy m f =>
      simp only [stepV, errV] at hK ⊢
      gi_wp2
      exact hK _ _ ((KeepsOthers.alloc _ _).from _) ((Below.refl _ W).alloc hsW _) (hOI pre W _ none hi (World.grownBy_alloc W _ none) (fun r e => by cases e)) ⟨W.heap.size, hlt, Blk.new _ _ _, rfl⟩
    | fresh m q =>
      simp only [stepV, errV] at hK ⊢
      gi_wp2
      exact hK _ _ ((KeepsOthers.alloc _ _).from _) ((Below.refl _ W).alloc hsW _) (hOI pre W _ none hi (World.grownBy_alloc W _ none) (fun r e => by cases e)) ⟨W.heap.size, hlt, Blk.new _ _ _, rfl⟩
  case body =>
    rintro l pre x a' W hl2 ⟨r, hr⟩ hI ⟨Bx, hBx, bX, rfl⟩ hlt
    have HI := Lib.hid hI
    obtain ⟨⟨⟨b0, b1, b2⟩, b3, b4⟩, hBW, hG⟩ := hI
    have c0 := b0.cell
    have f0 := b0.frozen
    have c1 := b1.cell
    have f1 := b1.frozen
    have c2 := b2.cell
    have f2 := b2.frozen
    have c3 := b3.cell
    have f3 := b3.frozen
    have c4 := b4.cell
    have f4 := b4.frozen
    have hle : pre.length < d.length := Nat.lt_of_lt_of_le hlt (Nat.le_trans (Dl.evs_len d 4) (Nat.sub_le _ _))
    have hcf := Dl.nCF_le (pre.map (Dl.norm d))
    rw [List.length_map] at hcf
    obtain ⟨qa, hqa⟩ : ∃ x, x = Dl.nC (pre.map (Dl.norm d)) := ⟨_, rfl⟩
    obtain ⟨qb, hqb⟩ : ∃ x, x = Dl.nF (pre.map (Dl.norm d)) := ⟨_, rfl⟩
    rw [← hqa] at c3 hcf
    rw [← hqb] at c4 hcf
    have HQA := Lib.hid hqa
    have HQB := Lib.hid hqb
    have w1 : wrap64 ((qa : Int) + 1) = (qa : Int) + 1 := IntWalk.wrap64_in _ (by omega)
    have w2 : wrap64 ((qb : Int) + 1) = (qb : Int) + 1 := IntWalk.wrap64_in _ (by omega)
    have HG := Lib.hid hG
    obtain ⟨y, hy⟩ : ∃ y, y = Dl.norm d x := ⟨_, rfl⟩
    have HY := Lib.hid hy
    rw [← hy] at bX ⊢
    clear hqa hqb hG hBW b0 b1 b2 b3 b4 hy
    cases y with
    | bad s =>
      cases s
      all_goals
        simp only [stepV, errV]
        gi_wp2
        exact st_stop HI.out (by rw [← HY.out]; exact HG.out.stop fun rest => rfl) (Nat.le_refl _)
    | copy m f =>
      have x1 : W.cell? ⟨Bx, 1, none⟩ = some (.slice none 0 0) := bX.cell 1
      have qT : ∀ (w : World) (a : Option Addr) (n c n' c' : Nat), (binOp .eql 22 (.slice a n c) (.slice none n' c')).run Tryd.prog w = .ok (.bool a.isNone) w := fun w a n c n' c' => Lib.run_eql_slice_nil w _ _ a n c n' c' Tryd.underlying22
      simp only [stepV, errV]
      clear c0 f0 c1 f1 c2 f2 c4 f4 hle hcf hlt hr r w2 hS hl hb hcl hcd n0 n1 n2 n3 n4 n5 hDI ez hz6 hBel2
      gi_wp2
      exact st_copy HI.out HY.out.symm (Nat.le_refl _) (by rw [← HQA.out])
    | fresh m q =>
      have x1 : W.cell? ⟨Bx, 1, none⟩ = some (.slice (some ⟨b, o + q, none⟩) m (c - q)) := bX.cell 1
      have qT : ∀ (w : World) (a : Option Addr) (n c n' c' : Nat), (binOp .eql 22 (.slice a n c) (.slice none n' c')).run Tryd.prog w = .ok (.bool a.isNone) w := fun w a n c n' c' => Lib.run_eql_slice_nil w _ _ a n c n' c' Tryd.underlying22
      simp only [stepV, errV]
      clear c0 f0 c1 f1 c2 f2 c3 f3 hle hcf hlt hr r w1 hS hl hb hcl hcd n0 n1 n2 n3 n4 n5 hDI ez hz6 hBel2
      gi_wp2
      exact st_fresh HI.out HY.out.symm (Nat.le_refl _) (by rw [← HQB.out])
  case done =>
    rintro D ys W hD rfl ⟨⟨⟨b0, b1, b2⟩, b3, b4⟩, hBW, hG⟩ hK
    rw [Dl.evs_norm hb] at b3 b4 hG
    have HE := Lib.hid (show Dl.cnt (Dl.evs d 4) 0 0 = (Dl.nC (Dl.evs d 4), Dl.nF (Dl.evs d 4), none) by have h := hG []; rwa [List.append_nil] at h)
    obtain ⟨qa, hqa⟩ : ∃ x, x = Dl.nC (Dl.evs d 4) := ⟨_, rfl⟩
    obtain ⟨qb, hqb⟩ : ∃ x, x = Dl.nF (Dl.evs d 4) := ⟨_, rfl⟩
    rw [← hqa] at b3
    rw [← hqb] at b4
    have HE2 : Hid (Dl.cnt (Dl.evs d 4) 0 0 = (qa, qb, none)) := Lib.hid (by rw [HE.out, ← hqa, ← hqb])
    clear hqa hqb HE hG
    have c0 := b0.cell
    have f0 := b0.frozen
    have c1 := b1.cell
    have f1 := b1.frozen
    have c2 := b2.cell
    have f2 := b2.frozen
    have c3 := b3.cell
    have c4 := b4.cell
    have hm : Tryd.prog.follows .mixedOrders = true := by kernel_rfl
    gi_wp2
    gi_region_with_o (fail)
    all_goals gi_wp2
    all_goals
      have hk2 : ∀ u v x, ((((W.setCell ⟨w.heap.size, 0, none⟩ u).setCell ⟨w.heap.size + 1, 0, none⟩ v).setCell ⟨w.heap.size + 1 + 1, 0, none⟩ x)).heap[D]? = some (.deferred (some [])) := fun u v x => (((KeepsOthers.setCell W ⟨w.heap.size, 0, none⟩ u).trans (KeepsOthers.setCell _ ⟨w.heap.size + 1, 0, none⟩ v)).trans (KeepsOthers.setCell _ ⟨w.heap.size + 1 + 1, 0, none⟩ x)).same D _ hK rfl
      have hk3 := hk2 (.int .i64 (qa : Int)) (.int .i64 (qb : Int)) .nilIface
      refine st_leave (v := .int .i64 (qa : Int)) (u := .int .i64 (qb : Int)) (e := .nilIface) (b1 := w.heap.size) (b2 := w.heap.size + 1) (b3 := w.heap.size + 1 + 1) (by rfl) (by rfl) (by rfl) ?_ ?_ ?_ hk3 ⟨by rw [HE2.out], ?_⟩
      · exact bxPast (bxPast (Boxed.set _ b0) (by omega) _) (by omega) _
      · exact bxPast (Boxed.set _ (bxPast b1 (by omega) _)) (by omega) _
      · exact Boxed.set _ (bxPast (bxPast b2 (by omega) _) (by omega) _)
      · exact (below_drewN (((hBW.setCell (p := ⟨w.heap.size, 0, none⟩) (Nat.le_refl _) _).setCell (p := ⟨w.heap.size + 1, 0, none⟩) (Nat.le_add_right _ _) _).setCell (p := ⟨w.heap.size + 1 + 1, 0, none⟩) (by show w.heap.size ≤ w.heap.size + 1 + 1; omega) _) 1).trans (belowK_b (w := w) (Nat.le_refl _) _ D _ _ (by omega) hk3 rfl rfl)
  case stop =>
    rintro D k pre W hD hpre ⟨⟨rfl, kk, hE, b0, b1, b2⟩, hBW⟩ hK
    have HE := Lib.hid (show Dl.cnt (Dl.evs d 4) 0 0 = (0, 0, some kk) by
      obtain ⟨rest, hr⟩ := hpre
      have h := hE (rest.map (Dl.norm d))
      rwa [← List.map_append, hr, Dl.evs_norm hb] at h)
    gi_wp2
    rw [HE.out]
    exact st_leave (v := .int .i64 0) (u := .int .i64 0) (e := ev (ea kk)) (b1 := w.heap.size) (b2 := w.heap.size + 1) (b3 := w.heap.size + 1 + 1) (by rfl) (by rfl) (by rfl) b0 b1 b2 hK ⟨rfl, hBW.trans (belowK_b (w := w) (Nat.le_refl _) W D _ _ (by omega) hK rfl rfl)⟩
end Go.Proofs.YthagldpgibpbdaaDoor
