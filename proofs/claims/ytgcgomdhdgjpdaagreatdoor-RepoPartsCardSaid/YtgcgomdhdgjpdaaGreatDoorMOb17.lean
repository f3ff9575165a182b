/- All of an object's bytes that are ahead of its text (front), in general. -/
import Derived.Test.YtgcgomdhdgjpdaaGreatDoorMOb11s
import Derived.Lib.AppendStr
namespace Go.Proofs.YtgcgomdhdgjpdaaGreatDoor
open Go Go.RowKit
def strB (s : ByteArray) : List Nat := s.data.toList.map (·.toNat)
theorem strB_len (s : ByteArray) : (strB s).length = s.size := by simp [strB]
theorem strB_cells (s : ByteArray) : Lib.strCells s = cellsB (strB s) := by simp [Lib.strCells, cellsB, strB, Function.comp_def]
def entB (e : Ent) : List Nat := [e.name.size] ++ strB e.name ++ e.id
def letterN (k : Int) : Nat := if k = 1 then 98 else if k = 2 then 116 else if k = 3 then 99 else 103
def Ob.front (o : Ob) : List Nat := ((([letterN o.kind] ++ o.ents.flatMap entB) ++ (if aimsB o.kind then o.target else [])) ++ (if o.kind = 3 then [o.pars.length] else [])) ++ o.pars.flatten
structure Ob.Near (o : Ob) : Prop where
 k1 : 1 ≤ o.kind
 k4 : o.kind ≤ 4
 ents : o.ents.length ≤ 8
 names : ∀ e ∈ o.ents, e.name.size ≤ 12
 pars : o.pars.length ≤ 4
theorem Blk.keepOwn {w w' : World} {g t base n : Nat} {cs : Array Value} {v : Value} {us : List Value} (hb : Blk w g t cs) (ho : w.ownsRow base 5 1 v n us) (hg : w.grownBy w' v.ownBlock) (ht : t ≠ 5) : Blk w' g t cs := by
 refine hb.stands (hg.block g hb.lt fun e => ?_)
 rcases ho.2 with ⟨rfl, _⟩ | ⟨g', cap, cur, rfl, _, hh, _⟩
 ·cases e
 ·injection e with e
  have e : g = g' := e
  subst e
  have h := (show w.heap[g]? = _ from hb).symm.trans hh
  injection h with h
  injection h with _ h2 _
  exact ht h2
theorem rd_mid {w : World} {g t o : Nat} {cs : Array Value} {x : List Nat} (hb : Blk w g t cs) (h : ∀ i, i < x.length → cs[o + i]? = some (.int .u8 ((x.getD i 0 : Nat) : Int))) {n c : Nat} (hn : n = x.length) (hc : n ≤ c) : Rd w (.slice (some ⟨g, o, none⟩) n c) x := by
 subst hn
 exact ⟨_, c, rfl, hc, fun _ => ⟨g, o, rfl, hb.lt, fun i hi => (hb.cell (o + i)).trans (h i hi)⟩⟩
theorem ent_mid (e : Ent) : ∀ i, i < e.id.length → (cellsE1 e).toArray[1 + i]? = some (.int .u8 ((e.id.getD i 0 : Nat) : Int)) := fun i hi => by
 rw [List.getElem?_toArray, cellsE1, Nat.add_comm 1 i, List.getElem?_cons_succ]; exact cellsB_get hi
theorem id_mid (x : List Nat) : ∀ i, i < x.length → (cellsB x).toArray[0 + i]? = some (.int .u8 ((x.getD i 0 : Nat) : Int)) := fun i hi => by
 rw [List.getElem?_toArray, Nat.zero_add]; exact cellsB_get hi
theorem ents_take {es : List Ent} {k : Nat} (h : k < es.length) : (es.take (k + 1)).flatMap entB = (es.take k).flatMap entB ++ entB es[k] := by
 rw [List.take_succ_eq_append_getElem h, List.flatMap_append]; simp
theorem pars_take {ps : List (List Nat)} {k : Nat} (h : k < ps.length) : (ps.take (k + 1)).flatten = (ps.take k).flatten ++ ps[k] := by
 rw [List.take_succ_eq_append_getElem h, List.flatten_append]; simp
theorem Pad.more {B : Nat} {w : World} {s : Value} {ys : List Nat} {wr w' : World} (hB : w.heap.size = B) (h : Pad B w s ys wr) {g : Nat} {t : TypeId} {z cs : Array Value} (hg : g = wr.heap.size) (e : w' = (wr.alloc (.cells z t)).setRow g cs) : Pad B w s ys w' := by
 subst e hg hB
 exact ⟨own_farRow (ownsRow_alloc h.own _) (fun k hk => by have := (h.own.lt k hk).2; omega) cs, below_next h.bel (below_row ((Below.refl _ _).alloc (Nat.le_refl _) _) (Nat.le_refl _) _)⟩
theorem small_u8 (n : Nat) (h : n ≤ 12) : IntKind.u8.wrap (n : Int) = (n : Int) := by
 show (n : Int) % 256 = n
 omega
theorem ents_len : ∀ (l : List Ent), (∀ e ∈ l, e.name.size ≤ 12) → (∀ e ∈ l, Id32 e.id) → (l.flatMap entB).length ≤ 45 * l.length
 | [], _, _ => by simp
 | e :: l, h1, h2 => by
  have ih := ents_len l (fun x hx => h1 x (List.mem_cons_of_mem _ hx)) (fun x hx => h2 x (List.mem_cons_of_mem _ hx))
  have a1 := h1 e (List.mem_cons_self ..)
  have a2 := (h2 e (List.mem_cons_self ..)).1
  rw [List.flatMap_cons, List.length_append, List.length_cons, entB, List.length_append, List.length_append, strB_len, a2]
  simp only [List.length_cons, List.length_nil]
  omega
theorem pars_len : ∀ (l : List (List Nat)), (∀ x ∈ l, Id32 x) → l.flatten.length = 32 * l.length
 | [], _ => rfl
 | x :: l, h => by
  rw [List.flatten_cons, List.length_append, pars_len l (fun y hy => h y (List.mem_cons_of_mem _ hy)), (h x (List.mem_cons_self ..)).1, List.length_cons]; omega
theorem Pad.step1 {B : Nat} {w : World} {s : Value} {ys : List Nat} {wr : World} (hB : w.heap.size = B) (h : Pad B w s ys wr) (o : Obj) : Pad B w s ys (wr.alloc o) := by
 subst hB
 exact ⟨ownsRow_alloc h.own o, h.bel.alloc h.bel.size o⟩
theorem Pad.bel' {B : Nat} {w : World} {s : Value} {ys : List Nat} {wr : World} (h : Pad B w s ys wr) : Below B w wr := h.bel
theorem ob_mid {w : World} {o : Ob} {cs : Array Value} {T E P : Option Addr} {tc ec pc : Nat} (h : ObC w o cs T tc E ec P pc) : ∀ i, i < o.target.length → cs[3 + i]? = some (.int .u8 ((o.target.getD i 0 : Nat) : Int)) := fun i hi => by
 rw [h.cells, List.getElem?_toArray, show 3 + i = i + 1 + 1 + 1 by omega, List.getElem?_cons_succ, List.getElem?_cons_succ, List.getElem?_cons_succ, List.getElem?_append_left (by rw [cellsB_len]; exact hi)]
 exact cellsB_get hi
theorem Pad.low {B : Nat} {w : World} {s : Value} {ys : List Nat} {wr : World} (hB : w.heap.size = B) (h : Pad B w s ys wr) : B ≤ wr.heap.size := hB ▸ h.bel.size
theorem wpList_index {P : Program} {ops : Array Oper} {rest : List Oper} {o : Oper} {a : Act} {w : World} {Q : Exit → Act → World → Prop} (hg : o.guard = none) (t : TypeId) (x y : Operand) (ho : o.op = .index t x y) (u v : Value) (hx : a.eval x = u) (hy : a.eval y = v) (r : Value)
  (h : (Instr.index t u v).run P w = .ok r w) (hk : wpList P ops Q rest (a.put o.dst r) w) : wpList P ops Q (o :: rest) a w :=
 wpList_plain hg fun K hK => by
  unfold Oper.wp execOp
  simp only [ho, hx, hy, Sem.run_bind, h, Result.andThen_ok]
  exact hK _ _ hk
set_option maxRecDepth 100000 in
set_option maxHeartbeats 4000000 in
theorem front_any (o : Ob) (cs : Array Value) (T E P : Option Addr) (tc ec pc : Nat) (w : World) (h : ObC w o cs T tc E ec P pc) (hf : o.Fit) (hN : o.Near) :
  Calls Tryz.prog 183 #[.agg cs] w fun e w' => ∃ A c, e = .returned (.slice A o.front.length c) ∧ Pad (w.heap.size + 1) (w.alloc (.cells cs 183)) (.slice A o.front.length c) o.front w' := by
 obtain ⟨w2, hw2⟩ : ∃ w2, w2 = w.alloc (.cells cs 183) := ⟨_, rfl⟩
 have X1 : Box w w2 w.heap.size 183 cs := hw2 ▸ Box.new w _ cs
 have hsz : w2.heap.size = w.heap.size + 1 := by rw [hw2]; simp
 rw [← hw2, ← hsz]
 obtain ⟨B, hB⟩ : ∃ B, B = w2.heap.size := ⟨_, rfl⟩
 rw [← hB]
 have HBB := Lib.hid hB.symm
 have HC := Lib.hid (h.below X1.bel (Nat.le_refl _))
 have HF := Lib.hid hf
 have HN := Lib.hid hN
 have HX := Lib.hid X1
 have K0 := Lib.hid h.c0
 have K2 := Lib.hid h.c2
 have K3 := Lib.hid (h.c35 hf)
 obtain ⟨L, hL⟩ : ∃ L, L = letterN o.kind := ⟨_, rfl⟩
 have HL := Lib.hid hL
 obtain ⟨w3, hw3⟩ : ∃ w3, w3 = w2.alloc (.cells #[.int .u8 (L : Int)] 5) := ⟨_, rfl⟩
 have HP3 : Hid (Pad B w2 (.slice (some ⟨B, 0, none⟩) 1 1) ([L] ++ (o.ents.take 0).flatMap entB) w3) := Lib.hid (by
  have h1 := World.ownsRow_lit (base := w2.heap.size) (e := 5) (size := 1) w2 #[.int .u8 (L : Int)] 1 (Nat.le_refl _) (by decide) rfl
  rw [← hw3, ← hB] at h1
  exact ⟨h1, by rw [hB, hw3]; exact (Below.refl _ _).alloc (Nat.le_refl _) _⟩)
 have a0 : w2.cell? ⟨w.heap.size, 0, none⟩ = some (.int .i64 o.kind) := (X1.at_.cell 0).trans K0.out
 have a2 : w3.cell? ⟨w.heap.size, 2, none⟩ = some (.slice E o.ents.length ec) := ((X1.at_.below HP3.out.bel (by rw [hB]; exact X1.at_.lt)).cell 2).trans K2.out
 have hidx : ∀ w', (Instr.index 9 (.string ⟨#[98, 116, 99, 103]⟩) (.int .i64 (wrap64 (o.kind - 1)))).run Tryz.prog w' = .ok (.int .u8 (L : Int)) w' := by
  have h1 := hN.k1
  have h4 := hN.k4
  rcases (show o.kind = 1 ∨ o.kind = 2 ∨ o.kind = 3 ∨ o.kind = 4 by omega) with hk | hk | hk | hk
  all_goals (rw [hk] at hL; rw [hk, hL]; intro w'; kernel_rfl)
 have HIX := Lib.hid hidx
 have e2 := hw2.symm
 have e3 := hw3.symm
 clear h hf hN X1 hw2 hw3 hsz hL hidx
 go_enter Tryz.func183, Tryz.ntmps183
 go_wp2_with (with_reducible (show wpList _ _ _ (Oper.mk _ (Op.index _ _ _) _ _ _ _ :: _) _ _); refine pause ?_)
 unfold Paused
 refine wpList_index (by rfl) 9 _ _ (by rfl) _ _ (by rfl) (by rfl) _ (HIX.out _) ?_
 go_wp2
 clear e3 a2
 have HF0 := Lib.hid (fun (wx : World) (hb : Below B w2 wx) => (show Box w wx w.heap.size 183 cs from HX.out.go (by rw [HBB.out]; exact hb)))
 go_loopw [3, 16] (fun v i wr => ∃ k : Nat, k ≤ o.ents.length ∧ i = .int .i64 k ∧ Hid (Pad B w2 v ([L] ++ (o.ents.take k).flatMap entB) wr)) (fun _ i _ => o.ents.length - (intOf i).toNat)
 case atStart => exact ⟨0, Nat.zero_le _, rfl, by rw [← HBB.out] at *; exact HP3⟩
 case round =>
  obtain ⟨k, hk, rfl, HP⟩ := hrel
  by_cases hlt : k < o.ents.length
  ·obtain ⟨sb, so, rfl, _, hsr⟩ := (HC.out.ents.below HP.out.bel (by rw [HBB.out]; exact Nat.le_refl _)).ent rfl HF.out.ents hlt
   have HSR := Lib.hid hsr
   have HID := Lib.hid (HF.out.ents _ (List.getElem_mem hlt))
   have HNM := Lib.hid (HN.out.names _ (List.getElem_mem hlt))
   have HTK := Lib.hid (ents_take hlt)
   have HK8 := Lib.hid (show o.ents.length ≤ 8 from HN.out.ents)
   clear hsr
   obtain ⟨en, hen⟩ : ∃ en, en = o.ents[k] := ⟨_, rfl⟩
   rw [← hen] at HSR HID HNM HTK
   clear hen
   have i1 : ((k : Nat) : Int) < o.ents.length := by omega
   have i2 : (0 : Int) ≤ ((k : Nat) : Int) := by omega
   have hk8 : ((k : Nat) : Int) < 8 := by have := HK8.out; omega
   go_wp2_with (with_reducible (show wpList _ _ _ (Oper.mk _ (Op.load 245 _) _ _ _ _ :: _) _ _); refine pause ?_)
   unfold Paused
   refine wpList_mid_w (by rfl) 245 (.tmp 18) (by rfl) sb (so + k * 33) (by rfl) _ _ HSR.out Tryz.underlying245 (by rfl) (by rw [cellsE1_len HID.out]; kernel_rfl) ?_
   go_wp2_with (with_reducible (show wpList _ _ _ (Oper.mk _ (Op.store 245 _ _) _ _ _ _ :: _) _ _); refine pause ?_)
   unfold Paused
   change wpList _ _ _ _ _ (wr.alloc (.cells (cellsE1 ⟨⟨#[]⟩, List.replicate 32 0⟩).toArray 245))
   refine wpList_store_row (by rfl) 245 (.tmp 5) (.tmp 19) (by rfl) wr.heap.size (cellsE1 en).toArray (by rfl) (by rfl) 245 (cellsE1 ⟨⟨#[]⟩, List.replicate 32 0⟩).toArray (Blk.new wr _ _) (by rw [List.size_toArray, cellsE1_len HID.out]; kernel_rfl) (by rw [List.size_toArray, List.size_toArray, cellsE1_len HID.out]; rfl) (arr_one (cellsE1_one en)) ?_
   have HPa := Lib.hid (HP.out.more HBB.out (g := wr.heap.size) (t := 245) (z := (cellsE1 ⟨⟨#[]⟩, List.replicate 32 0⟩).toArray) (cs := (cellsE1 en).toArray) rfl rfl)
   have HXa := Lib.hid ((Blk.new wr 245 (cellsE1 ⟨⟨#[]⟩, List.replicate 32 0⟩).toArray).row (cellsE1 en).toArray)
   generalize World.setRow _ wr.heap.size (cellsE1 en).toArray = wa at HPa HXa ⊢
   generalize wr.heap.size = gx at HXa ⊢
   simp only [Act.put]
   have d0 : wa.cell? ⟨gx, 0, none⟩ = some (.string en.name) := HXa.out.cell 0
   have u1 := small_u8 en.name.size HNM.out
   go_wp2_with (with_reducible (show wpList _ _ _ (Oper.mk _ (Op.call (Call.mk (Callee.builtin Builtin.append) _ _)) _ _ _ _ :: _) _ _); refine pause ?_)
   unfold Paused
   have hbb : Below wa.heap.size wa (wa.alloc (.cells (u8s [en.name.size]) 5)) := (Below.refl _ _).alloc (Nat.le_refl _) _
   change wpList _ _ _ _ _ (wa.alloc (.cells (u8s [en.name.size]) 5))
   obtain ⟨wb, hwb⟩ : ∃ wb, wb = wa.alloc (.cells (u8s [en.name.size]) 5) := ⟨_, rfl⟩
   have HPb : Hid (Pad B w2 u3 ([L] ++ (o.ents.take k).flatMap entB) wb) := Lib.hid ⟨by rw [hwb]; exact ownsRow_alloc HPa.out.own _, by rw [hwb]; exact (by have h := below_next (HBB.out ▸ HPa.out.bel) hbb; rw [HBB.out] at h; exact h)⟩
   have HRb : Hid (Rd wb (.slice (some ⟨wa.heap.size, 0, none⟩) 1 1) [en.name.size]) := Lib.hid (hwb ▸ rd_of_lit wa [en.name.size] _ (by simp))
   have HXb := Lib.hid (show Blk wb gx 245 (cellsE1 en).toArray from hwb ▸ HXa.out.alloc _)
   have HYL : Hid (([L] ++ (o.ents.take k).flatMap entB).length ≤ 1000) := Lib.hid (by
    have h1 := ents_len (o.ents.take k) (fun e he => HN.out.names e (List.mem_of_mem_take he)) (fun e he => HF.out.ents e (List.mem_of_mem_take he))
    have h2 := HK8.out
    have h3 : (o.ents.take k).length ≤ o.ents.length := by rw [List.length_take]; omega
    rw [List.length_append]
    simp only [List.length_cons, List.length_nil]
    omega)
   have HYE : Hid ([L] ++ (o.ents.take (k + 1)).flatMap entB = (([L] ++ (o.ents.take k).flatMap entB) ++ [en.name.size]) ++ strB en.name ++ en.id) := Lib.hid (by rw [HTK.out, entB]; simp only [List.append_assoc])
   rw [← hwb]
   clear hbb hwb d0
   generalize [L] ++ (o.ents.take k).flatMap entB = ys at HPb HYL HYE
   refine wpList_appendB (by rfl) (.tmp 20) (.tmp 25) (by rfl) B _ ys (by rfl) HPb.out.own (by have h := HPb.out.bel.size; rw [HBB.out] at h; exact h) _ (by rfl) [en.name.size] HRb.out (by have := HYL.out; simp; omega) ?_
   intro v1 w1 ho1 hg1
   have HP1 : Hid (Pad B w2 v1 (ys ++ [en.name.size]) w1) := Lib.hid ⟨ho1, below_ownB HBB.out HPb.out.bel HPb.out.own hg1⟩
   have HX1 := Lib.hid (HXb.out.keepOwn HPb.out.own hg1 (by decide))
   clear ho1 hg1
   have d1 : w1.cell? ⟨gx, 0, none⟩ = some (.string en.name) := HX1.out.cell 0
   go_wp2_with (with_reducible (show wpList _ _ _ (Oper.mk _ (Op.call (Call.mk (Callee.builtin Builtin.append) _ _)) _ _ _ _ :: _) _ _); refine pause ?_)
   unfold Paused
   obtain ⟨ib, hib, hbz, hbs, hbb⟩ := info_parts byte_info
   refine Lib.wpList_append_own_string _ (by rfl) (.tmp 27) (.tmp 29) 46 9 (by rfl) B 5 ib Tryz.underlying46 Tryz.underlying9 hib hbz hbs hbb v1 _ _ (by rfl) HP1.out.own en.name (by rfl) (by have h1 := HYL.out; have h2 := HNM.out; unfold maxLen; simp only [List.length_append, List.length_cons, List.length_nil]; omega) (by have h1 := HYL.out; have h2 := HNM.out; simp only [List.length_append, List.length_cons, List.length_nil]; omega) (HP1.out.low HBB.out) ?_
   intro v2 w4 ho2 hg2 _
   have HP2 : Hid (Pad B w2 v2 ((ys ++ [en.name.size]) ++ strB en.name) w4) := Lib.hid ⟨by
    have h := ho2
    rw [strB_cells] at h
    have e1 : cellsB (ys ++ [en.name.size]) ++ cellsB (strB en.name) = cellsB ((ys ++ [en.name.size]) ++ strB en.name) := by simp [cellsB]
    have e2 : (ys ++ [en.name.size]).length + en.name.size = ((ys ++ [en.name.size]) ++ strB en.name).length := by rw [List.length_append (bs := strB en.name), strB_len]
    rw [e1, e2] at h
    exact h, below_ownB HBB.out HP1.out.bel HP1.out.own hg2⟩
   have HX2 := Lib.hid (HX1.out.keepOwn HP1.out.own hg2 (by decide))
   clear ho2 hg2 d1 hib hbz hbs hbb
   go_wp2_with (with_reducible (show wpList _ _ _ (Oper.mk _ (Op.call (Call.mk (Callee.builtin Builtin.append) _ _)) _ _ _ _ :: _) _ _); refine pause ?_)
   unfold Paused
   have HRI : Hid (Rd w4 (.slice (some ⟨gx, 1, none⟩) 32 32) en.id) := Lib.hid (rd_mid HX2.out (ent_mid en) HID.out.1.symm (Nat.le_refl _))
   refine wpList_appendB (by rfl) (.tmp 31) (.tmp 33) (by rfl) B _ ((ys ++ [en.name.size]) ++ strB en.name) (by rfl) HP2.out.own (HP2.out.low HBB.out) _ (by rfl) en.id HRI.out (by have h1 := HYL.out; have h2 := HNM.out; have h3 := HID.out.1; rw [List.length_append, List.length_append, strB_len]; simp only [List.length_cons, List.length_nil]; omega) ?_
   intro v3 w5 ho3 hg3
   have HP5 : Hid (Pad B w2 v3 ([L] ++ (o.ents.take (k + 1)).flatMap entB) w5) := Lib.hid ⟨by rw [HYE.out]; exact ho3, below_ownB HBB.out HP2.out.bel HP2.out.own hg3⟩
   clear ho3 hg3
   go_wp2
   go_roundw
   case rel => exact ⟨k + 1, by omega, by go_num, HP5⟩
   case measure => simp [intOf]; omega
  ·have hke : k = o.ents.length := by omega
   subst hke
   have HPE : Hid (Pad B w2 u3 ([L] ++ o.ents.flatMap entB) wr) := Lib.hid (by have h := HP.out; rwa [List.take_length] at h)
   have HYL : Hid (([L] ++ o.ents.flatMap entB).length ≤ 1000) := Lib.hid (by
    have h1 := ents_len o.ents HN.out.names HF.out.ents
    have h2 := HN.out.ents
    rw [List.length_append]
    simp only [List.length_cons, List.length_nil]
    omega)
   have HTG := Lib.hid HF.out.target
   have HP4 := Lib.hid HN.out.pars
   have c0 : wr.cell? ⟨w.heap.size, 0, none⟩ = some (.int .i64 o.kind) := ((HF0.out _ HPE.out.bel').at_.cell 0).trans K0.out
   have CA := aims_any o.kind wr
   clear HP
   by_cases h3 : o.kind = 3
   ·have haB : aimsB o.kind = true := by rw [h3]; rfl
    have HFR : Hid (((([L] ++ o.ents.flatMap entB) ++ o.target) ++ [o.pars.length]) ++ o.pars.flatten = o.front) := Lib.hid (by unfold Ob.front; rw [← HL.out, haB, if_pos h3, if_pos rfl])
    rw [haB] at CA
    rw [h3] at c0 CA
    have HK3 := Lib.hid h3
    clear h3 haB
    go_wp2_with (first
     | (go_at_call 173; refine CA.mono ?_; rintro e wn ⟨rfl, rfl⟩)
     | (with_reducible (show wpList _ _ _ (Oper.mk _ (Op.call (Call.mk (Callee.builtin Builtin.append) _ _)) _ _ _ _ :: _) _ _); refine pause ?_))
    unfold Paused
    have HRT : Hid (Rd wr (.slice (some ⟨w.heap.size, 3, none⟩) 32 32) o.target) := Lib.hid (rd_mid (HF0.out _ HPE.out.bel').at_ (ob_mid HC.out) HTG.out.1.symm (Nat.le_refl _))
    refine wpList_appendB (by rfl) (.tmp 39) (.tmp 41) (by rfl) B _ ([L] ++ o.ents.flatMap entB) (by rfl) HPE.out.own (HPE.out.low HBB.out) _ (by rfl) o.target HRT.out (by have h1 := HYL.out; have h3 := HTG.out.1; omega) ?_
    intro v6 w6 ho6 hg6
    have HP6 : Hid (Pad B w2 v6 (([L] ++ o.ents.flatMap entB) ++ o.target) w6) := Lib.hid ⟨ho6, below_ownB HBB.out HPE.out.bel HPE.out.own hg6⟩
    clear ho6 hg6
    have c1 : w6.cell? ⟨w.heap.size, 0, none⟩ = some (.int .i64 3) := ((HF0.out _ HP6.out.bel').at_.cell 0).trans (by rw [K0.out, HK3.out])
    have a5 : w6.cell? ⟨w.heap.size, 35, none⟩ = some (.slice P o.pars.length pc) := ((HF0.out _ HP6.out.bel').at_.cell 35).trans K3.out
    have u2 := small_u8 o.pars.length (by have := HP4.out; omega)
    go_wp2_with (with_reducible (show wpList _ _ _ (Oper.mk _ (Op.call (Call.mk (Callee.builtin Builtin.append) _ _)) _ _ _ _ :: _) _ _); refine pause ?_)
    unfold Paused
    obtain ⟨w7, hw7⟩ : ∃ w7, w7 = w6.alloc (.cells (u8s [o.pars.length]) 5) := ⟨_, rfl⟩
    change wpList _ _ _ _ _ (w6.alloc (.cells (u8s [o.pars.length]) 5))
    have HP7 : Hid (Pad B w2 v6 (([L] ++ o.ents.flatMap entB) ++ o.target) w7) := Lib.hid (hw7 ▸ HP6.out.step1 HBB.out _)
    have HRN : Hid (Rd w7 (.slice (some ⟨w6.heap.size, 0, none⟩) 1 1) [o.pars.length]) := Lib.hid (hw7 ▸ rd_of_lit w6 [o.pars.length] _ (by simp))
    rw [← hw7]
    clear hw7 a5 u2 c1
    refine wpList_appendB (by rfl) (.tmp 46) (.tmp 51) (by rfl) B _ (([L] ++ o.ents.flatMap entB) ++ o.target) (by rfl) HP7.out.own (HP7.out.low HBB.out) _ (by rfl) [o.pars.length] HRN.out (by have h1 := HYL.out; have h3 := HTG.out.1; rw [List.length_append, h3]; simp only [List.length_cons, List.length_nil]; omega) ?_
    intro v8 w8 ho8 hg8
    have HP8 : Hid (Pad B w2 v8 ((([L] ++ o.ents.flatMap entB) ++ o.target) ++ [o.pars.length]) w8) := Lib.hid ⟨ho8, below_ownB HBB.out HP7.out.bel HP7.out.own hg8⟩
    clear ho8 hg8
    have a5 : w8.cell? ⟨w.heap.size, 35, none⟩ = some (.slice P o.pars.length pc) := ((HF0.out _ HP8.out.bel').at_.cell 35).trans K3.out
    have HY2 : Hid (((([L] ++ o.ents.flatMap entB) ++ o.target) ++ [o.pars.length]).length ≤ 2000) := Lib.hid (by have h1 := HYL.out; have h3 := HTG.out.1; simp only [List.length_append, List.length_cons, List.length_nil] at h1 ⊢; omega)
    have HP9 : Hid (Pad B w2 v8 (((([L] ++ o.ents.flatMap entB) ++ o.target) ++ [o.pars.length]) ++ (o.pars.take 0).flatten) w8) := Lib.hid (by rw [List.take_zero, List.flatten_nil, List.append_nil]; exact HP8.out)
    go_wp2
    clear a5
    generalize (([L] ++ o.ents.flatMap entB) ++ o.target) ++ [o.pars.length] = yz at HP9 HY2 HFR
    go_loopw [3, 56] (fun v i wr => ∃ k : Nat, k ≤ o.pars.length ∧ i = .int .i64 k ∧ Hid (Pad B w2 v (yz ++ (o.pars.take k).flatten) wr)) (fun _ i _ => o.pars.length - (intOf i).toNat)
    case atStart => exact ⟨0, Nat.zero_le _, rfl, HP9⟩
    case round =>
     obtain ⟨k, hk, rfl, HP⟩ := hrel
     by_cases hlt : k < o.pars.length
     ·obtain ⟨sb, so, rfl, _, hsr⟩ := (HC.out.pars.below HP.out.bel (by rw [HBB.out]; exact Nat.le_refl _)).par rfl HF.out.pars hlt
      have HSR := Lib.hid hsr
      have HID := Lib.hid (HF.out.pars _ (List.getElem_mem hlt))
      have HTK := Lib.hid (pars_take hlt)
      clear hsr
      have HLE : Hid ((yz ++ (o.pars.take k).flatten).length ≤ 2200) := Lib.hid (by
       have h1 := pars_len (o.pars.take k) (fun x hx => HF.out.pars x (List.mem_of_mem_take hx))
       have h2 := HP4.out
       have h3 := HY2.out
       have h4 : (o.pars.take k).length ≤ o.pars.length := by rw [List.length_take]; omega
       rw [List.length_append, h1]; omega)
      obtain ⟨en, hen⟩ : ∃ en, en = o.pars[k] := ⟨_, rfl⟩
      rw [← hen] at HSR HID HTK
      clear hen
      have i1 : ((k : Nat) : Int) < o.pars.length := by omega
      have i2 : (0 : Int) ≤ ((k : Nat) : Int) := by omega
      have hk8 : ((k : Nat) : Int) < 8 := by have := HP4.out; omega
      go_wp2_with (with_reducible (show wpList _ _ _ (Oper.mk _ (Op.load 41 _) _ _ _ _ :: _) _ _); refine pause ?_)
      unfold Paused
      refine wpList_mid_w (by rfl) 41 (.tmp 58) (by rfl) sb (so + k * 32) (by rfl) _ _ HSR.out Tryz.underlying41 (by rfl) (by rw [cellsP1_len HID.out]; kernel_rfl) ?_
      go_wp2_with (with_reducible (show wpList _ _ _ (Oper.mk _ (Op.store 41 _ _) _ _ _ _ :: _) _ _); refine pause ?_)
      unfold Paused
      change wpList _ _ _ _ _ (wr.alloc (.cells (cellsB (List.replicate 32 0)).toArray 41))
      refine wpList_store_row (by rfl) 41 (.tmp 7) (.tmp 59) (by rfl) wr.heap.size (cellsB en).toArray (by rfl) (by rfl) 41 (cellsB (List.replicate 32 0)).toArray (Blk.new wr _ _) (by rw [List.size_toArray, cellsP1_len HID.out]; kernel_rfl) (by rw [List.size_toArray, List.size_toArray, cellsP1_len HID.out]; rfl) (arr_one (cellsB_one en)) ?_
      have HPa := Lib.hid (HP.out.more HBB.out (g := wr.heap.size) (t := 41) (z := (cellsB (List.replicate 32 0)).toArray) (cs := (cellsB en).toArray) rfl rfl)
      have HXa := Lib.hid ((Blk.new wr 41 (cellsB (List.replicate 32 0)).toArray).row (cellsB en).toArray)
      generalize World.setRow _ wr.heap.size (cellsB en).toArray = wa at HPa HXa ⊢
      generalize wr.heap.size = gx at HXa ⊢
      simp only [Act.put]
      go_wp2_with (with_reducible (show wpList _ _ _ (Oper.mk _ (Op.call (Call.mk (Callee.builtin Builtin.append) _ _)) _ _ _ _ :: _) _ _); refine pause ?_)
      unfold Paused
      have HRI : Hid (Rd wa (.slice (some ⟨gx, 0, none⟩) 32 32) en) := Lib.hid (rd_mid HXa.out (id_mid en) HID.out.1.symm (Nat.le_refl _))
      refine wpList_appendB (by rfl) (.tmp 60) (.tmp 61) (by rfl) B _ (yz ++ (o.pars.take k).flatten) (by rfl) HPa.out.own (HPa.out.low HBB.out) _ (by rfl) en HRI.out (by have h1 := HLE.out; have h3 := HID.out.1; omega) ?_
      intro v3 w5 ho3 hg3
      have HP5 : Hid (Pad B w2 v3 (yz ++ (o.pars.take (k + 1)).flatten) w5) := Lib.hid ⟨by rw [HTK.out, ← List.append_assoc]; exact ho3, below_ownB HBB.out HPa.out.bel HPa.out.own hg3⟩
      clear ho3 hg3
      go_wp2
      go_roundw
      case rel => exact ⟨k + 1, by omega, by go_num, HP5⟩
      case measure => simp [intOf]; omega
     ·have hke : k = o.pars.length := by omega
      subst hke
      have HPF : Hid (Pad B w2 u3 o.front wr) := Lib.hid (by have h := HP.out; rwa [List.take_length, HFR.out] at h)
      obtain ⟨A9, c9, rfl⟩ := HPF.out.len
      go_wp2
      go_ret
      exact ⟨A9, c9, rfl, HPF.out⟩
   by_cases h4 : o.kind = 4
   ·have haB : aimsB o.kind = true := by rw [h4]; rfl
    have HFR : Hid ((([L] ++ o.ents.flatMap entB) ++ o.target) ++ o.pars.flatten = o.front) := Lib.hid (by unfold Ob.front; rw [← HL.out, haB, if_neg h3, if_pos rfl, List.append_nil])
    rw [haB] at CA
    rw [h4] at c0 CA
    have HK3 := Lib.hid h4
    clear h3 h4 haB
    go_wp2_with (first
     | (go_at_call 173; refine CA.mono ?_; rintro e wn ⟨rfl, rfl⟩)
     | (with_reducible (show wpList _ _ _ (Oper.mk _ (Op.call (Call.mk (Callee.builtin Builtin.append) _ _)) _ _ _ _ :: _) _ _); refine pause ?_))
    unfold Paused
    have HRT : Hid (Rd wr (.slice (some ⟨w.heap.size, 3, none⟩) 32 32) o.target) := Lib.hid (rd_mid (HF0.out _ HPE.out.bel').at_ (ob_mid HC.out) HTG.out.1.symm (Nat.le_refl _))
    refine wpList_appendB (by rfl) (.tmp 39) (.tmp 41) (by rfl) B _ ([L] ++ o.ents.flatMap entB) (by rfl) HPE.out.own (HPE.out.low HBB.out) _ (by rfl) o.target HRT.out (by have h1 := HYL.out; have h3 := HTG.out.1; omega) ?_
    intro v6 w6 ho6 hg6
    have HP6 : Hid (Pad B w2 v6 (([L] ++ o.ents.flatMap entB) ++ o.target) w6) := Lib.hid ⟨ho6, below_ownB HBB.out HPE.out.bel HPE.out.own hg6⟩
    clear ho6 hg6
    have c1 : w6.cell? ⟨w.heap.size, 0, none⟩ = some (.int .i64 4) := ((HF0.out _ HP6.out.bel').at_.cell 0).trans (by rw [K0.out, HK3.out])
    have a5 : w6.cell? ⟨w.heap.size, 35, none⟩ = some (.slice P o.pars.length pc) := ((HF0.out _ HP6.out.bel').at_.cell 35).trans K3.out
    have HY2 : Hid ((([L] ++ o.ents.flatMap entB) ++ o.target).length ≤ 2000) := Lib.hid (by have h1 := HYL.out; have h3 := HTG.out.1; simp only [List.length_append, List.length_cons, List.length_nil] at h1 ⊢; omega)
    have HP9 : Hid (Pad B w2 v6 ((([L] ++ o.ents.flatMap entB) ++ o.target) ++ (o.pars.take 0).flatten) w6) := Lib.hid (by rw [List.take_zero, List.flatten_nil, List.append_nil]; exact HP6.out)
    go_wp2
    clear a5
    generalize ([L] ++ o.ents.flatMap entB) ++ o.target = yz at HP9 HY2 HFR
    go_loopw [3, 56] (fun v i wr => ∃ k : Nat, k ≤ o.pars.length ∧ i = .int .i64 k ∧ Hid (Pad B w2 v (yz ++ (o.pars.take k).flatten) wr)) (fun _ i _ => o.pars.length - (intOf i).toNat)
    case atStart => exact ⟨0, Nat.zero_le _, rfl, HP9⟩
    case round =>
     obtain ⟨k, hk, rfl, HP⟩ := hrel
     by_cases hlt : k < o.pars.length
     ·obtain ⟨sb, so, rfl, _, hsr⟩ := (HC.out.pars.below HP.out.bel (by rw [HBB.out]; exact Nat.le_refl _)).par rfl HF.out.pars hlt
      have HSR := Lib.hid hsr
      have HID := Lib.hid (HF.out.pars _ (List.getElem_mem hlt))
      have HTK := Lib.hid (pars_take hlt)
      clear hsr
      have HLE : Hid ((yz ++ (o.pars.take k).flatten).length ≤ 2200) := Lib.hid (by
       have h1 := pars_len (o.pars.take k) (fun x hx => HF.out.pars x (List.mem_of_mem_take hx))
       have h2 := HP4.out
       have h3 := HY2.out
       have h4 : (o.pars.take k).length ≤ o.pars.length := by rw [List.length_take]; omega
       rw [List.length_append, h1]; omega)
      obtain ⟨en, hen⟩ : ∃ en, en = o.pars[k] := ⟨_, rfl⟩
      rw [← hen] at HSR HID HTK
      clear hen
      have i1 : ((k : Nat) : Int) < o.pars.length := by omega
      have i2 : (0 : Int) ≤ ((k : Nat) : Int) := by omega
      have hk8 : ((k : Nat) : Int) < 8 := by have := HP4.out; omega
      go_wp2_with (with_reducible (show wpList _ _ _ (Oper.mk _ (Op.load 41 _) _ _ _ _ :: _) _ _); refine pause ?_)
      unfold Paused
      refine wpList_mid_w (by rfl) 41 (.tmp 58) (by rfl) sb (so + k * 32) (by rfl) _ _ HSR.out Tryz.underlying41 (by rfl) (by rw [cellsP1_len HID.out]; kernel_rfl) ?_
      go_wp2_with (with_reducible (show wpList _ _ _ (Oper.mk _ (Op.store 41 _ _) _ _ _ _ :: _) _ _); refine pause ?_)
      unfold Paused
      change wpList _ _ _ _ _ (wr.alloc (.cells (cellsB (List.replicate 32 0)).toArray 41))
      refine wpList_store_row (by rfl) 41 (.tmp 7) (.tmp 59) (by rfl) wr.heap.size (cellsB en).toArray (by rfl) (by rfl) 41 (cellsB (List.replicate 32 0)).toArray (Blk.new wr _ _) (by rw [List.size_toArray, cellsP1_len HID.out]; kernel_rfl) (by rw [List.size_toArray, List.size_toArray, cellsP1_len HID.out]; rfl) (arr_one (cellsB_one en)) ?_
      have HPa := Lib.hid (HP.out.more HBB.out (g := wr.heap.size) (t := 41) (z := (cellsB (List.replicate 32 0)).toArray) (cs := (cellsB en).toArray) rfl rfl)
      have HXa := Lib.hid ((Blk.new wr 41 (cellsB (List.replicate 32 0)).toArray).row (cellsB en).toArray)
      generalize World.setRow _ wr.heap.size (cellsB en).toArray = wa at HPa HXa ⊢
      generalize wr.heap.size = gx at HXa ⊢
      simp only [Act.put]
      go_wp2_with (with_reducible (show wpList _ _ _ (Oper.mk _ (Op.call (Call.mk (Callee.builtin Builtin.append) _ _)) _ _ _ _ :: _) _ _); refine pause ?_)
      unfold Paused
      have HRI : Hid (Rd wa (.slice (some ⟨gx, 0, none⟩) 32 32) en) := Lib.hid (rd_mid HXa.out (id_mid en) HID.out.1.symm (Nat.le_refl _))
      refine wpList_appendB (by rfl) (.tmp 60) (.tmp 61) (by rfl) B _ (yz ++ (o.pars.take k).flatten) (by rfl) HPa.out.own (HPa.out.low HBB.out) _ (by rfl) en HRI.out (by have h1 := HLE.out; have h3 := HID.out.1; omega) ?_
      intro v3 w5 ho3 hg3
      have HP5 : Hid (Pad B w2 v3 (yz ++ (o.pars.take (k + 1)).flatten) w5) := Lib.hid ⟨by rw [HTK.out, ← List.append_assoc]; exact ho3, below_ownB HBB.out HPa.out.bel HPa.out.own hg3⟩
      clear ho3 hg3
      go_wp2
      go_roundw
      case rel => exact ⟨k + 1, by omega, by go_num, HP5⟩
      case measure => simp [intOf]; omega
     ·have hke : k = o.pars.length := by omega
      subst hke
      have HPF : Hid (Pad B w2 u3 o.front wr) := Lib.hid (by have h := HP.out; rwa [List.take_length, HFR.out] at h)
      obtain ⟨A9, c9, rfl⟩ := HPF.out.len
      go_wp2
      go_ret
      exact ⟨A9, c9, rfl, HPF.out⟩
   ·have haB : aimsB o.kind = false := by unfold aimsB; rw [decide_eq_false h3, decide_eq_false h4]; rfl
    have HFR : Hid (([L] ++ o.ents.flatMap entB) ++ o.pars.flatten = o.front) := Lib.hid (by unfold Ob.front; rw [← HL.out, haB, if_neg h3]; simp)
    rw [haB] at CA
    have q3 : (o.kind == 3) = false := by simp [h3]
    clear h3 h4 haB
    go_wp2_with (go_at_call 173; refine CA.mono ?_; rintro e wn ⟨rfl, rfl⟩; refine pause ?_)
    unfold Paused
    have a5 : wr.cell? ⟨w.heap.size, 35, none⟩ = some (.slice P o.pars.length pc) := ((HF0.out _ HPE.out.bel').at_.cell 35).trans K3.out
    have HY2 : Hid (([L] ++ o.ents.flatMap entB).length ≤ 2000) := Lib.hid (by have h1 := HYL.out; have h3 := HTG.out.1; simp only [List.length_append, List.length_cons, List.length_nil] at h1 ⊢; omega)
    have HP9 : Hid (Pad B w2 u3 (([L] ++ o.ents.flatMap entB) ++ (o.pars.take 0).flatten) wr) := Lib.hid (by rw [List.take_zero, List.flatten_nil, List.append_nil]; exact HPE.out)
    go_wp2
    clear a5
    generalize [L] ++ o.ents.flatMap entB = yz at HP9 HY2 HFR
    go_loopw [3, 56] (fun v i wr => ∃ k : Nat, k ≤ o.pars.length ∧ i = .int .i64 k ∧ Hid (Pad B w2 v (yz ++ (o.pars.take k).flatten) wr)) (fun _ i _ => o.pars.length - (intOf i).toNat)
    case atStart => exact ⟨0, Nat.zero_le _, rfl, HP9⟩
    case round =>
     obtain ⟨k, hk, rfl, HP⟩ := hrel
     by_cases hlt : k < o.pars.length
     ·obtain ⟨sb, so, rfl, _, hsr⟩ := (HC.out.pars.below HP.out.bel (by rw [HBB.out]; exact Nat.le_refl _)).par rfl HF.out.pars hlt
      have HSR := Lib.hid hsr
      have HID := Lib.hid (HF.out.pars _ (List.getElem_mem hlt))
      have HTK := Lib.hid (pars_take hlt)
      clear hsr
      have HLE : Hid ((yz ++ (o.pars.take k).flatten).length ≤ 2200) := Lib.hid (by
       have h1 := pars_len (o.pars.take k) (fun x hx => HF.out.pars x (List.mem_of_mem_take hx))
       have h2 := HP4.out
       have h3 := HY2.out
       have h4 : (o.pars.take k).length ≤ o.pars.length := by rw [List.length_take]; omega
       rw [List.length_append, h1]; omega)
      obtain ⟨en, hen⟩ : ∃ en, en = o.pars[k] := ⟨_, rfl⟩
      rw [← hen] at HSR HID HTK
      clear hen
      have i1 : ((k : Nat) : Int) < o.pars.length := by omega
      have i2 : (0 : Int) ≤ ((k : Nat) : Int) := by omega
      have hk8 : ((k : Nat) : Int) < 8 := by have := HP4.out; omega
      go_wp2_with (with_reducible (show wpList _ _ _ (Oper.mk _ (Op.load 41 _) _ _ _ _ :: _) _ _); refine pause ?_)
      unfold Paused
      refine wpList_mid_w (by rfl) 41 (.tmp 58) (by rfl) sb (so + k * 32) (by rfl) _ _ HSR.out Tryz.underlying41 (by rfl) (by rw [cellsP1_len HID.out]; kernel_rfl) ?_
      go_wp2_with (with_reducible (show wpList _ _ _ (Oper.mk _ (Op.store 41 _ _) _ _ _ _ :: _) _ _); refine pause ?_)
      unfold Paused
      change wpList _ _ _ _ _ (wr.alloc (.cells (cellsB (List.replicate 32 0)).toArray 41))
      refine wpList_store_row (by rfl) 41 (.tmp 7) (.tmp 59) (by rfl) wr.heap.size (cellsB en).toArray (by rfl) (by rfl) 41 (cellsB (List.replicate 32 0)).toArray (Blk.new wr _ _) (by rw [List.size_toArray, cellsP1_len HID.out]; kernel_rfl) (by rw [List.size_toArray, List.size_toArray, cellsP1_len HID.out]; rfl) (arr_one (cellsB_one en)) ?_
      have HPa := Lib.hid (HP.out.more HBB.out (g := wr.heap.size) (t := 41) (z := (cellsB (List.replicate 32 0)).toArray) (cs := (cellsB en).toArray) rfl rfl)
      have HXa := Lib.hid ((Blk.new wr 41 (cellsB (List.replicate 32 0)).toArray).row (cellsB en).toArray)
      generalize World.setRow _ wr.heap.size (cellsB en).toArray = wa at HPa HXa ⊢
      generalize wr.heap.size = gx at HXa ⊢
      simp only [Act.put]
      go_wp2_with (with_reducible (show wpList _ _ _ (Oper.mk _ (Op.call (Call.mk (Callee.builtin Builtin.append) _ _)) _ _ _ _ :: _) _ _); refine pause ?_)
      unfold Paused
      have HRI : Hid (Rd wa (.slice (some ⟨gx, 0, none⟩) 32 32) en) := Lib.hid (rd_mid HXa.out (id_mid en) HID.out.1.symm (Nat.le_refl _))
      refine wpList_appendB (by rfl) (.tmp 60) (.tmp 61) (by rfl) B _ (yz ++ (o.pars.take k).flatten) (by rfl) HPa.out.own (HPa.out.low HBB.out) _ (by rfl) en HRI.out (by have h1 := HLE.out; have h3 := HID.out.1; omega) ?_
      intro v3 w5 ho3 hg3
      have HP5 : Hid (Pad B w2 v3 (yz ++ (o.pars.take (k + 1)).flatten) w5) := Lib.hid ⟨by rw [HTK.out, ← List.append_assoc]; exact ho3, below_ownB HBB.out HPa.out.bel HPa.out.own hg3⟩
      clear ho3 hg3
      go_wp2
      go_roundw
      case rel => exact ⟨k + 1, by omega, by go_num, HP5⟩
      case measure => simp [intOf]; omega
     ·have hke : k = o.pars.length := by omega
      subst hke
      have HPF : Hid (Pad B w2 u3 o.front wr) := Lib.hid (by have h := HP.out; rwa [List.take_length, HFR.out] at h)
      obtain ⟨A9, c9, rfl⟩ := HPF.out.len
      go_wp2
      go_ret
      exact ⟨A9, c9, rfl, HPF.out⟩
end Go.Proofs.YtgcgomdhdgjpdaaGreatDoor
