/- An entry comes: what stands while it is put. -/
import Derived.Test.YtgcgomdhdgjpdaaGreatDoorMRp8s
import Derived.Test.YtgcgomdhdgjpdaaGreatDoorMRp4s
import Derived.Deep.CutRange
import Derived.Deep.CutBlock
import Derived.Test.YtgcgomdhdgjpdaaGreatDoorMUpto
import Derived.Test.YtgcgomdhdgjpdaaGreatDoorMEn20s
namespace Go.Proofs.YtgcgomdhdgjpdaaGreatDoor
open Go Go.RowKit Go.Maps
theorem Upto.two {P : Program} {ops : Array Oper} {Q : Exit → Act → World → Prop} {md : Region.Mode} {S : World → Prop} {b i j : Nat} {oi oj : Oper} {n : Nat} {ls : Array Bool} {a : Act} {w : World} (hr : Region.ready md ops ls = [i, j]) (hi : ops[i]? = some oi) (hj : ops[j]? = some oj) (wi : Region.wanted oi (yielded ops a.tmps) = true) (wj : Region.wanted oj (yielded ops a.tmps) = true)
  (h1 : ∀ K : Act → World → Prop, (∀ a' w', (i ≠ b → ls.getD b true = false → S w') → Upto P md ops Q S b n (ls.setIfInBounds i true) a' w' → K a' w') → oi.wp P a w K Q)
  (h2 : ∀ K : Act → World → Prop, (∀ a' w', (j ≠ b → ls.getD b true = false → S w') → Upto P md ops Q S b n (ls.setIfInBounds j true) a' w' → K a' w') → oj.wp P a w K Q) : Upto P md ops Q S b (n + 1) ls a w := by
 refine ⟨fun h0 => by rw [hr] at h0; simp at h0, fun k hk => ?_⟩
 rw [hr] at hk
 rcases List.mem_cons.1 hk with rfl | hk
 ·unfold wpOp
  simp only [hi, wi, if_true]
  exact Or.inl (h1 (fun a' w' => (k ≠ b → ls.getD b true = false → S w') ∧ Upto P md ops Q S b n (ls.setIfInBounds k true) a' w') fun _ _ hs hh => ⟨hs, hh⟩)
 ·obtain rfl := List.mem_singleton.1 hk
  unfold wpOp
  simp only [hj, wj, if_true]
  exact Or.inl (h2 (fun a' w' => (k ≠ b → ls.getD b true = false → S w') ∧ Upto P md ops Q S b n (ls.setIfInBounds k true) a' w') fun _ _ hs hh => ⟨hs, hh⟩)
theorem rngP_below {w w' : World} {b o : Nat} {l : List Value} (h : w.rangeAt b o l) (hb : Below w.heap.size w w') (hl : b < w.heap.size) : w'.rangeAt b o l := fun j v hj => (hb.cell (p := ⟨b, o + j, none⟩) hl).trans (h j v hj)
theorem cellsJ_snoc (js : List Jt) (j : Jt) : cellsJ (js ++ [j]) = cellsJ js ++ j.cs.toList := by
 unfold cellsJ
 rw [List.flatMap_append, List.flatMap_cons, List.flatMap_nil, List.append_nil]
theorem rpC_j {v v' rf ob : Value} {ls : List Nat} : (rpC v ls rf ob).toArray.setIfInBounds 0 v' = (rpC v' ls rf ob).toArray := rfl
theorem rpC_l {v rf ob : Value} {ls : List Nat} {k n : Nat} (hk : k < ls.length) : (rpC v ls rf ob).toArray.setIfInBounds (1 + k) (.int .i64 (n : Int)) = (rpC v (ls.set k n) rf ob).toArray := by
 rw [List.setIfInBounds_toArray]
 congr 1
 unfold rpC
 rw [Nat.add_comm, List.set_cons_succ, List.set_append_left _ _ (by rw [List.length_map]; exact hk), List.map_set]
theorem rpC_n {v rf ob rf' ob' : Value} {ls : List Nat} (h : ls.length = 8) : ((rpC v ls rf ob).toArray.setIfInBounds 9 rf').setIfInBounds 10 ob' = (rpC v ls rf' ob').toArray := by
 match ls, h with
 | [a, b, c, d, e, f, g, i], _ => rfl
structure ApT (w wx : World) (r : Nat) (A : Option Addr) (c : Nat) (rf ob : Value) (N M : Nat) (js : List Jt) (O : List Nat → Option Cl.T) (s : Rp.St) (j : Jt) : Prop where
 rp : RpM wx r (.slice A js.length c) (Rp.lastsOf s.js) rf ob
 own : wx.ownsRow (r + 1) 32 5 (.slice A js.length c) js.length (cellsJ js)
 box : Blk wx w.heap.size 32 j.cs
 jlt : r < w.heap.size ∧ ∀ g, jB A js.length c = some g → g < w.heap.size
 jk : EnK wx j
 ent : ∀ j ∈ js, EnK wx j
 refs : SrcS wx rf N (fun i => ((Rp.put s j.e).refs i).map idV)
 objs : SrcO wx ob M (fun x => (O x).map (·.val))
 txt : ∀ x p, O x = some p → TxK wx p.val p.text
 oeq : ∀ x, (O x).map (·.text) = (Rp.put s j.e).objs x
 lim : N ≤ 8 * (js.length + 1) ∧ M ≤ 64 * (js.length + 1)
 kept : KeptP (tnP r A js.length c) w wx
section
variable {w wx wy : World} {r : Nat} {A : Option Addr} {c : Nat} {rf ob : Value} {N M : Nat} {js : List Jt} {O : List Nat → Option Cl.T} {s : Rp.St} {j : Jt}
theorem ApT.nok (h : ApT w wx r A c rf ob N M js O s j) : NoK wx (tnP r A js.length c) := fun g hg hl => by
 rcases hg with rfl | hg
 ·exact ⟨_, _, _, h.rp.blk, Or.inr rfl⟩
 ·rcases h.own.2 with ⟨h1, _⟩ | ⟨g', cap, cur, h1, _, h2, _⟩
  ·unfold jB at hg
   rw [h1] at hg
   cases hg
  ·unfold jB at hg
   rw [h1] at hg
   injection hg with hg
   subst hg
   exact ⟨_, _, _, h2, Or.inl rfl⟩
theorem ApT.below (h : ApT w wx r A c rf ob N M js O s j) (hb : Below wx.heap.size wx wy) : ApT w wy r A c rf ob N M js O s j :=
 have k := KeptP.of_below hb
 have n : NoK wx (fun _ => False) := fun _ h => h.elim
 ⟨h.rp.below hb h.rp.lt, ownsRow_kept h.own k (fun _ _ h => h), h.box.below hb h.box.lt, h.jlt, h.jk.kept k n, fun j hj => (h.ent j hj).kept k n, h.refs.kept k n, h.objs.kept k n, fun x p hp => (h.txt x p hp).kept k n, h.oeq, h.lim, h.kept.trans k (fun _ _ h => h.elim)⟩
structure ApU (w wx : World) (r : Nat) (A : Option Addr) (c : Nat) (v : Value) (rf ob : Value) (N M : Nat) (js : List Jt) (O : List Nat → Option Cl.T) (s : Rp.St) (j : Jt) : Prop where
 rp : RpM wx r v (Rp.lastsOf s.js) rf ob
 own : wx.ownsRow (r + 1) 32 5 v (js.length + 1) (cellsJ (js ++ [j]))
 box : Blk wx w.heap.size 32 j.cs
 rlt : r < w.heap.size
 jk : EnK wx j
 ent : ∀ j ∈ js, EnK wx j
 refs : SrcS wx rf N (fun i => ((Rp.put s j.e).refs i).map idV)
 objs : SrcO wx ob M (fun x => (O x).map (·.val))
 txt : ∀ x p, O x = some p → TxK wx p.val p.text
 oeq : ∀ x, (O x).map (·.text) = (Rp.put s j.e).objs x
 lim : N ≤ 8 * (js.length + 1) ∧ M ≤ 64 * (js.length + 1)
 kept : KeptP (tnP r A js.length c) w wx
theorem ApT.app (h : ApT w wx r A c rf ob N M js O s j) {v : Value} (ho : wy.ownsRow (r + 1) 32 5 v (js.length + 1) (cellsJ js ++ j.cs.toList)) (hg : wx.grownBy wy (jB A js.length c)) : ApU w (wy.setCell ⟨r, 0, none⟩ v) r A c v rf ob N M js O s j := by
 have k1 : KeptP (tnP r A js.length c) wx wy := (KeptP.of_grown hg).mono (fun k _ hk => Or.inr hk)
 have k2 : KeptP (tnP r A js.length c) wy (wy.setCell ⟨r, 0, none⟩ v) := ⟨rfl, rfl, rfl, by simp [World.setCell], fun k hk hp => Below.heap_setCell wy ⟨r, 0, none⟩ v k (fun e => hp (Or.inl e))⟩
 have k := k1.trans k2 (fun _ _ h => h)
 have hn := h.nok
 have hz : ¬ tnP r A js.length c w.heap.size := fun hp => by
  rcases hp with hp | hp
  ·have := h.jlt.1; omega
  ·have := h.jlt.2 _ hp.symm; omega
 have hr1 : some r ≠ jB A js.length c := fun e => by
  have := (h.own.lt r e.symm).1
  omega
 refine ⟨⟨?_, h.rp.len⟩, ?_, k.blk h.box hz, h.jlt.1, h.jk.kept k hn, fun j hj => (h.ent j hj).kept k hn, h.refs.kept k hn, h.objs.kept k hn, fun x p hp => (h.txt x p hp).kept k hn, h.oeq, h.lim, h.kept.trans k (fun _ _ h => h)⟩
 ·have h1 := (h.rp.blk.grown hg hr1).set_ 0 v
  rwa [rpC_j] at h1
 ·rw [cellsJ_snoc]
  exact ownsRow_far ho (show r < r + 1 by omega) _
theorem ApU.below {v : Value} (h : ApU w wx r A c v rf ob N M js O s j) (hb : Below wx.heap.size wx wy) : ApU w wy r A c v rf ob N M js O s j :=
 have k := KeptP.of_below hb
 have n : NoK wx (fun _ => False) := fun _ h => h.elim
 ⟨h.rp.below hb h.rp.lt, ownsRow_kept h.own k (fun _ _ h => h), h.box.below hb h.box.lt, h.rlt, h.jk.kept k n, fun j hj => (h.ent j hj).kept k n, h.refs.kept k n, h.objs.kept k n, fun x p hp => (h.txt x p hp).kept k n, h.oeq, h.lim, h.kept.trans k (fun _ _ h => h.elim)⟩
theorem ApU.done {k : Nat} {A' : Option Addr} {c' : Nat} (h : ApU w wx r A c (.slice A' (js.length + 1) c') rf ob N M js O s j) (he : js.map (·.e) = s.js) (hg : Rp.Good s) (hs : Rp.step s j.e = 0) (hf : Rp.Fit j.e) (hk : j.e.client = (k : Nat)) (h8 : k < 8) :
  RpX (wx.setCell ⟨r, 1 + k, none⟩ (.int .i64 ((js.length + 1 : Nat) : Int))) r A' c' rf ob N M (js ++ [j]) O (Rp.put s j.e) ∧ KeptP (tnP r A js.length c) w (wx.setCell ⟨r, 1 + k, none⟩ (.int .i64 ((js.length + 1 : Nat) : Int))) := by
 have k1 : KeptP (fun g => g = r) wx (wx.setCell ⟨r, 1 + k, none⟩ (.int .i64 ((js.length + 1 : Nat) : Int))) := ⟨rfl, rfl, rfl, by simp [World.setCell], fun k' hk hp => Below.heap_setCell wx ⟨r, 1 + k, none⟩ _ k' hp⟩
 have hn : NoK wx (fun g => g = r) := fun g hg _ => by subst hg; exact ⟨_, _, _, h.rp.blk, Or.inr rfl⟩
 have e1 : (js ++ [j]).length = js.length + 1 := by simp
 have e2 : js.length = s.js.length := by rw [← he, List.length_map]
 refine ⟨⟨⟨?_, Rp.lastsOf_len _⟩, ?_, ?_, ?_, h.refs.kept k1 hn, h.objs.kept k1 hn, fun x p hp => (h.txt x p hp).kept k1 hn, h.oeq, Rp.good_put hg hs hf, by rw [e1]; exact h.lim⟩, h.kept.trans k1 (fun _ _ h => Or.inl h)⟩
 ·have h1 := h.rp.blk.set_ (1 + k) (.int .i64 ((js.length + 1 : Nat) : Int))
  rw [rpC_l (by rw [Rp.lastsOf_len]; exact h8)] at h1
  rw [e1, Rp.put_js, Rp.lastsOf_snoc hk h8, ← e2]
  exact h1
 ·rw [e1]
  exact ownsRow_far h.own (show r < r + 1 by omega) _
 ·rw [List.map_append, he, Rp.put_js]; rfl
 ·intro d hd
  rcases List.mem_append.1 hd with hd | hd
  ·exact (h.ent d hd).kept k1 hn
  ·rw [List.mem_singleton.1 hd]; exact h.jk.kept k1 hn
end
section
variable {w wx : World} {r : Nat} {A : Option Addr} {c : Nat} {rf ob : Value} {N M : Nat} {js : List Jt} {O : List Nat → Option Cl.T} {s : Rp.St} {j : Jt}
theorem RpX.jlt (h : RpX w r A c rf ob N M js O s) : r < w.heap.size ∧ ∀ g, jB A js.length c = some g → g < w.heap.size :=
 ⟨h.rp.lt, fun g hg => (h.own.lt g hg).2⟩
theorem ApT.of (h : RpX w r A c rf ob N M js O s) (hb : Below w.heap.size w wx) (hx : Blk wx w.heap.size 32 j.cs) (hk : EnK wx j) (h0 : j.e.answer ≠ 0) : ApT w wx r A c rf ob N M js O s j := by
 have h1 := h.below hb
 have e1 : (Rp.put s j.e).refs = s.refs := by unfold Rp.put; rw [if_neg h0]
 have e2 : (Rp.put s j.e).objs = s.objs := by unfold Rp.put; rw [if_neg h0]
 exact ⟨h1.rp, h1.own, hx, h.jlt, hk, h1.ent, by rw [e1]; exact h1.refs, h1.objs, h1.txt, by rw [e2]; exact h1.oeq, by have := h.lim; omega, (KeptP.of_below hb).mono fun _ _ h => h.elim⟩
theorem behindT_ok (h : RpX w r A c rf ob N M js O s) (hk : EnK w j) (hr : En.right j.e = true) (_hf : Rp.Fit j.e) : ∀ x p, behindT O j.ts x = some p → TxK w p.val p.text ∧ Sha.Byte p.text ∧ p.text.length ≤ 300 := fun x p hp => by
 rcases behindT_some j.ts O x p hp with h1 | ⟨t, ht, rfl⟩
 ·have h2 := h.good.objs x p.text (by rw [← h.oeq, h1]; rfl)
  exact ⟨h.txt x p h1, h2.2⟩
 ·refine ⟨hk.txt t ht, (hk.ent.objs.rd t ht).2, ?_⟩
  exact Rp.right_objs hr t.text (by rw [← hk.ent.txt]; exact List.mem_map.2 ⟨t, ht, rfl⟩)
theorem ApT.of0 (h : RpX w r A c rf ob N M js O s) (hb : Below w.heap.size w wx) (hx : Blk wx w.heap.size 32 j.cs) (hk : EnK wx j) (h0 : j.e.answer = 0) (hr : En.right j.e = true) (hf : Rp.Fit j.e) {rf' ob' : Value} {N' M' : Nat}
  (m1 : SrcS wx rf' N' (fun i => (Rp.behindR s.refs j.e.ups i).map idV)) (m2 : SrcO wx ob' M' (fun x => (behindT O j.ts x).map (·.val))) (hN : N' ≤ N + 8) (hM : M' ≤ M + 64) :
  ApT w ((wx.setCell ⟨r, 9, none⟩ rf').setCell ⟨r, 10, none⟩ ob') r A c rf' ob' N' M' js (behindT O j.ts) s j := by
 have h1 := h.below hb
 have e1 : (Rp.put s j.e).refs = Rp.behindR s.refs j.e.ups := by unfold Rp.put; rw [if_pos h0]
 have e2 : (Rp.put s j.e).objs = Rp.behindO s.objs j.e.objs := by unfold Rp.put; rw [if_pos h0]
 have k : KeptP (fun g => g = r) wx ((wx.setCell ⟨r, 9, none⟩ rf').setCell ⟨r, 10, none⟩ ob') := ⟨rfl, rfl, rfl, by simp [World.setCell], fun k' hk hp => (Below.heap_setCell _ ⟨r, 10, none⟩ _ k' hp).trans (Below.heap_setCell _ ⟨r, 9, none⟩ _ k' hp)⟩
 have hn : NoK wx (fun g => g = r) := fun g hg _ => by subst hg; exact ⟨_, _, _, h1.rp.blk, Or.inr rfl⟩
 refine ⟨⟨?_, h1.rp.len⟩, ?_, k.blk hx (fun e => by have := h.rp.lt; omega), h.jlt, hk.kept k hn, fun j hj => (h1.ent j hj).kept k hn, by rw [e1]; exact m1.kept k hn, m2.kept k hn, fun x p hp => ((behindT_ok h1 hk hr hf x p hp).1).kept k hn, fun x => ?_, by have := h.lim; omega, ?_⟩
 ·have h2 := (h1.rp.blk.set_ 9 rf').set_ 10 ob'
  rwa [rpC_n h1.rp.len] at h2
 ·exact ownsRow_kept h1.own k (fun g hg e => by have := (h1.own.lt g hg).1; omega)
 ·rw [behindT_text, hk.ent.txt, e2]
  congr 1
  exact funext h.oeq
 ·exact ((KeptP.of_below hb).mono (R := tnP r A js.length c) fun _ _ h => h.elim).trans k (fun _ _ h => Or.inl h)
end
end Go.Proofs.YtgcgomdhdgjpdaaGreatDoor
/- A copy that is written over: what stands. -/
namespace Go.Proofs.YtgcgomdhdgjpdaaGreatDoor
open Go Go.RowKit
structure MuT (B : Nat) (w : World) (t : En.Bt) : Prop where
 sl : ∃ A c, t.val = .slice A t.text.length c
 off : 0 < t.text.length → ∃ g cs c, t.val = .slice (some ⟨g, 0, none⟩) t.text.length c ∧ B ≤ g ∧ Blk w g 5 cs ∧ ∀ j, j < t.text.length → ∃ x : Nat, x < 256 ∧ cs[j]? = some (.int .u8 (x : Int))
structure Mu (w5 wr : World) (g9 : Nat) (cc : Array Value) (v1 v2 : Value) (nu no : Nat) (ts : List En.Bt) : Prop where
 bel : Below w5.heap.size w5 wr
 box : Blk wr g9 32 cc
 old : w5.heap.size ≤ g9
 ups : ∃ us, wr.ownsRow w5.heap.size 89 65 v1 nu us
 objs : wr.ownsRow w5.heap.size 46 1 v2 no (ts.map (·.val))
 txt : ∀ t ∈ ts, MuT w5.heap.size wr t
section
variable {w5 wr w' : World} {g9 nu no : Nat} {cc : Array Value} {v1 v2 : Value} {ts : List En.Bt}
theorem MuT.kept {B g : Nat} {t : En.Bt} {T : Nat} {cs : Array Value} (h : MuT B wr t) (hg : wr.grownBy w' (some g)) (hb : Blk wr g T cs) (hT : T ≠ 5) : MuT B w' t :=
 ⟨h.sl, fun h0 => by
  obtain ⟨g', cs', c, h1, h2, h3, h4⟩ := h.off h0
  exact ⟨g', cs', c, h1, h2, h3.grown hg (fun e => by injection e with e; exact blk_ne h3 hb (fun x => hT x.symm) e), h4⟩⟩
theorem own_off {B z n g T : Nat} {t : TypeId} {v : Value} {xs : List Value} {cs : Array Value} (h : wr.ownsRow B t z v n xs) (hg : wr.grownBy w' (some g)) (hb : Blk wr g T cs) (hT : t ≠ T) : w'.ownsRow B t z v n xs :=
 h.kept hg (by
  cases hv : v.ownBlock with
  | none => exact Or.inl rfl
  | some g' =>
   obtain ⟨cs', hg'⟩ := own_blk h hv
   exact Or.inr (fun e => by injection e with e; exact blk_ne hg' hb hT e))
theorem below_in {g : Nat} (h : Below w5.heap.size w5 wr) (hg : wr.grownBy w' (some g)) (hB : w5.heap.size ≤ g) : Below w5.heap.size w5 w' := below_of_only h hg hB
theorem Mu.ref {g cap k : Nat} (h : Mu w5 wr g9 cc (.slice (some ⟨g, 0, none⟩) nu cap) v2 nu no ts) (u : Value) : Mu w5 (wr.setCell ⟨g, k, none⟩ u) g9 cc (.slice (some ⟨g, 0, none⟩) nu cap) v2 nu no ts := by
 obtain ⟨us, hu⟩ := h.ups
 have hs := hu.stored k u
 obtain ⟨cs, hg⟩ := own_blk hu (g := g) rfl
 have hB := (hu.lt g rfl).1
 exact ⟨below_in h.bel hs.2 hB, h.box.grown hs.2 (fun e => by injection e with e; exact blk_ne h.box hg (by decide) e), h.old, ⟨_, hs.1⟩, own_off h.objs hs.2 hg (by decide), fun t ht => (h.txt t ht).kept hs.2 hg (by decide)⟩
theorem Mu.byte {g c j : Nat} (h : Mu w5 wr g9 cc v1 v2 nu no ts) {t : En.Bt} (ht : t ∈ ts) (hj : j < t.text.length) (hv : t.val = .slice (some ⟨g, 0, none⟩) t.text.length c) (x : Nat) (hx : x < 256) : Mu w5 (wr.setCell ⟨g, j, none⟩ (.int .u8 (x : Int))) g9 cc v1 v2 nu no ts := by
 obtain ⟨g', cs, c', h1, h2, h3, h4⟩ := (h.txt t ht).off (by omega)
 rw [hv] at h1
 injection h1 with e1 _ _
 injection e1 with e1
 injection e1 with e1 _ _
 subst e1
 have hg : wr.grownBy (wr.setCell ⟨g, j, none⟩ (.int .u8 (x : Int))) (some g) := only_setCell (World.grownBy.refl wr _) (Or.inl rfl) _
 obtain ⟨us, hu⟩ := h.ups
 refine ⟨below_in h.bel hg h2, h.box.grown hg (fun e => by injection e with e; exact blk_ne h.box h3 (by decide) e), h.old, ⟨us, own_off hu hg h3 (by decide)⟩, own_off h.objs hg h3 (by decide), fun t' ht' => ⟨(h.txt t' ht').sl, fun h0 => ?_⟩⟩
 obtain ⟨g', cs', c', k1, k2, k3, k4⟩ := (h.txt t' ht').off h0
 by_cases he : g' = g
 ·subst he
  refine ⟨g', _, c', k1, k2, k3.set_ j _, fun i hi => ?_⟩
  obtain ⟨y, hy, hyc⟩ := k4 i hi
  by_cases hij : i = j
  ·subst hij
   refine ⟨x, hx, ?_⟩
   rw [Array.getElem?_setIfInBounds_self_of_lt (Array.getElem?_eq_some_iff.1 hyc).1]
  ·exact ⟨y, hy, by rw [Array.getElem?_setIfInBounds_ne (fun e => hij e.symm)]; exact hyc⟩
 ·exact ⟨g', cs', c', k1, k2, k3.far (by show g' ≠ g; exact he) _, k4⟩
end
theorem Mu.of {w5 w6 : World} {e : En.E} {cc : Array Value} {U O : Option Addr} {cu co : Nat} {ts : List En.Bt} (h : CpE w5 w6 e cc U cu O co ts) (g9 : Nat) (hb : Blk w6 g9 32 cc) (ho : w5.heap.size ≤ g9) : Mu w5 w6 g9 cc (.slice U e.ups.length cu) (.slice O e.objs.length co) e.ups.length e.objs.length ts :=
 ⟨h.bel, hb, ho, ⟨_, h.ups⟩, h.objs, fun t ht => by
  have hc := h.txt t ht
  have hy := (h.ent.objs.rd t ht).2
  obtain ⟨A, c, hv, hcc, hA⟩ := hc.rd
  refine ⟨⟨A, c, hv⟩, fun h0 => ?_⟩
  obtain ⟨g, cs, c', h1, h2, h3⟩ := hc.off h0
  refine ⟨g, cs, c', h1, h2, h3, fun j hj => ?_⟩
  obtain ⟨b, o, ha, _, hx⟩ := hA h0
  rw [hv] at h1
  injection h1 with e1 _ _
  rw [ha] at e1
  injection e1 with e1
  injection e1 with e1 e2 _
  subst e1 e2
  have h4 := hx j hj
  rw [Nat.zero_add, h3.cell j] at h4
  exact ⟨_, hy j, h4⟩⟩
theorem CpE.below {w5 w6 w7 : World} {e : En.E} {cc : Array Value} {U O : Option Addr} {cu co : Nat} {ts : List En.Bt} (h : CpE w5 w6 e cc U cu O co ts) (hb : Below w6.heap.size w6 w7) : CpE w5 w7 e cc U cu O co ts :=
 ⟨h.ent.below hb, below_next h.bel hb, h.ups.kept (only_of_below hb none) (by cases hv : (Value.slice U e.ups.length cu).ownBlock with | none => exact Or.inl rfl | some g => exact Or.inr (by simp)), h.objs.kept (only_of_below hb none) (by cases hv : (Value.slice O e.objs.length co).ownBlock with | none => exact Or.inl rfl | some g => exact Or.inr (by simp)), fun t ht => (h.txt t ht).below hb⟩
end Go.Proofs.YtgcgomdhdgjpdaaGreatDoor
/- The law EntrySame. -/
namespace Go.Proofs.YtgcgomdhdgjpdaaGreatDoor
open Go Go.RowKit
theorem exec_buildE {P : Program} {o : Oper} {a : Act} {w : World} (t : TypeId) (parts : Array (Nat × Operand)) (ho : o.op = .build t parts) (vals : List (Nat × Value)) (hv : (parts.map fun (i, x) => (i, a.eval x)).toList = vals) (cells : Array Value) (h : P.built t vals = some cells) : (execOp a.eval o).run P w = .ok (.value (.agg cells)) w := by
 unfold execOp
 simp only [ho, Sem.run_bind, run_build w t _ cells (by rw [hv]; exact h), Result.andThen_ok]
 rfl
theorem upd_places : (Tryz.prog.fieldsOf 89).toList.mapM (fun f => (Tryz.prog.info? f.type).map fun i => (f.offset, i.size)) = some [(0, 1), (1, 32), (33, 32)] := by kernel_rfl
theorem upd_zero : ((Tryz.prog.info? 89).bind (·.zero)).map (·.cells) = some (cellsU1 ⟨⟨#[]⟩, List.replicate 32 0, List.replicate 32 0⟩).toArray := by kernel_rfl
theorem upd_under : Tryz.prog.underlying 89 = some (.struct (Tryz.prog.fieldsOf 89)) := by kernel_rfl
theorem upd_built (u : En.Up) (h : u.Fit) : Tryz.prog.built 89 [(0, .string u.ref), (1, .agg (cellsB u.old).toArray), (2, .agg (cellsB u.new).toArray)] = some (cellsU1 u).toArray := by
 rw [built_of upd_under upd_zero upd_places]
 exact rup_fill u h
theorem Blk.up {w w' : World} {g T : Nat} {cs : Array Value} (h : Blk w g T cs) (hb : Below w.heap.size w w') : Blk w' g T cs := h.below hb h.lt
structure LwS (w wr : World) (a b : En.E) (ca cb cx cy : Array Value) (U1 O1 U2 O2 Ux Uy : Option Addr) (cu1 co1 cu2 co2 cux cuy : Nat) (ts us : List En.Bt) (gx gy : Nat) : Prop where
 bel : Below w.heap.size w wr
 ba : Blk wr w.heap.size 32 ca
 bb : Blk wr (w.heap.size + 1) 32 cb
 bx : Blk wr gx 58 cx
 bY : Blk wr gy 58 cy
 ea : EnC wr a ca U1 cu1 O1 co1 ts
 eb : EnC wr b cb U2 cu2 O2 co2 us
 ex : EnC wr a cx Ux cux O1 co1 ts
 ey : EnC wr b cy Uy cuy O2 co2 us
theorem LwS.up {w wr w' : World} {a b : En.E} {ca cb cx cy : Array Value} {U1 O1 U2 O2 Ux Uy : Option Addr} {cu1 co1 cu2 co2 cux cuy : Nat} {ts us : List En.Bt} {gx gy : Nat} (h : LwS w wr a b ca cb cx cy U1 O1 U2 O2 Ux Uy cu1 co1 cu2 co2 cux cuy ts us gx gy) (hb : Below wr.heap.size wr w') : LwS w w' a b ca cb cx cy U1 O1 U2 O2 Ux Uy cu1 co1 cu2 co2 cux cuy ts us gx gy :=
 ⟨below_next h.bel hb, h.ba.up hb, h.bb.up hb, h.bx.up hb, h.bY.up hb, h.ea.below hb, h.eb.below hb, h.ex.below hb, h.ey.below hb⟩
end Go.Proofs.YtgcgomdhdgjpdaaGreatDoor
