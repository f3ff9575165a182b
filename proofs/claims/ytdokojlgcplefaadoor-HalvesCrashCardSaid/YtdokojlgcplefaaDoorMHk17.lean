/- Layer 5: a log is opened on whatever a crash left. -/
import Derived.Test.YtdokojlgcplefaaDoorMHk6s
import Derived.Test.YtdokojlgcplefaaDoorMHk5s
import Derived.Test.YtdokojlgcplefaaDoorMHv17s
import Derived.Test.YtdokojlgcplefaaDoorMHv16
namespace Go.Proofs.YtdokojlgcplefaaDoor
open Go Go.RowKit
namespace Hv
theorem Opn.len {S : Dk.D} {z u n N : Nat} {ls : List (List Nat)} (h : Opn S z u n N ls) (i : Nat) : (ls.getD i []).length ≤ 3000 := by
 rcases Nat.lt_or_ge i ls.length with hi | hi
 ·exact (record_has h.ok (h.recs i hi)).1.l2
 ·rw [List.getD_eq_getElem?_getD, List.getElem?_eq_none hi]; exact Nat.zero_le _
theorem Opn.few {S : Dk.D} {z u n N : Nat} {ls : List (List Nat)} (h : Opn S z u n N ls) : ∀ i, i ≤ ls.length → 1 + i ≤ pos ls i
 | 0, _ => Nat.le_refl _
 | i + 1, hi => by
  have h1 := h.few i (by omega)
  have h2 := (record_has h.ok (h.recs i hi)).1
  have h3 := need_pos h2.l1 h2.l2
  rw [pos_step]
  omega
theorem Opn.pick {S : Dk.D} {z u n N : Nat} {ls : List (List Nat)} (h : Opn S z u n N ls) : Hv.pick (fun i => headM (Dk.seen S (fst z i))) 2 = (u, n) := by
 have hh : headM (Dk.seen S (fst z u)) = (n, 2) := by rw [h.head, headM_of h.n1 (Nat.le_trans h.nN h.top) (Or.inr rfl)]
 have ho := h.other.2
 have hn := h.n1
 have hu := h.u2
 match u, hu with
 | 0, _ =>
  have e1 : Hv.pick (fun i => headM (Dk.seen S (fst z i))) 1 = (0, n) := by
   show (if (headM (Dk.seen S (fst z 0))).2 = 2 ∧ 0 < (headM (Dk.seen S (fst z 0))).1 then _ else _) = _
   rw [hh, if_pos ⟨rfl, by show 0 < n; omega⟩]
   show ((0 : Nat), (headM (Dk.seen S (fst z 0))).1) = (0, n)
   rw [hh]
  show (if (headM (Dk.seen S (fst z 1))).2 = 2 ∧ (Hv.pick (fun i => headM (Dk.seen S (fst z i))) 1).2 < (headM (Dk.seen S (fst z 1))).1 then _ else _) = _
  rw [e1, if_neg]
  rintro ⟨h1, h2⟩
  have := ho h1
  have h2' : n < (headM (Dk.seen S (fst z 1))).1 := h2
  have e : oth z 0 = fst z 1 := rfl
  rw [e] at this
  omega
 | 1, _ =>
  have e1 : (Hv.pick (fun i => headM (Dk.seen S (fst z i))) 1).2 < n := by
   show (if (headM (Dk.seen S (fst z 0))).2 = 2 ∧ 0 < (headM (Dk.seen S (fst z 0))).1 then _ else (0, 0) : Nat × Nat).2 < n
   split
   ·rename_i hc
    exact ho hc.1
   ·exact hn
  show (if (headM (Dk.seen S (fst z 1))).2 = 2 ∧ (Hv.pick (fun i => headM (Dk.seen S (fst z i))) 1).2 < (headM (Dk.seen S (fst z 1))).1 then _ else _) = _
  rw [hh, if_pos ⟨rfl, e1⟩]
  show ((1 : Nat), (headM (Dk.seen S (fst z 1))).1) = (1, n)
  rw [hh]
end Hv
def OpP (B : Nat) (w : World) (d z sz u n N k : Nat) (ls : List (List Nat)) (e : Ending) (w' : World) : Prop :=
 ∃ l S, e = .returned (.tuple #[.pointer (some ⟨l, 0, none⟩), .nilIface]) ∧ LogsAt B w' l d z u n (Hv.pos ls ls.length) false ls S k ∧ Hv.Inv S z u n N ls ∧ S.armed = false ∧ TFr B w w' ∧ w.heap.size ≤ l ∧ S.size = sz
set_option maxRecDepth 100000 in
theorem hopen_any {B d k z u n N : Nat} {S : Dk.D} {ls : List (List Nat)} (a : Nat → Addr) (w0 w : World) (h : Hv.Opn S z u n N ls) (hD : DkX B w d S k) (hE : Env B a w0 w) (hz : z = S.size / 2) (hk : k + 100000 < 1000000) :
  Calls Tryd.prog 7 #[.pointer (some ⟨d, 0, none⟩)] w (OpP B w d z S.size u n N (k + 2 * z + 10) ls) := by
 have hsz := hD.ok.size
 have hz2 := h.z2
 have hfit := h.fit
 have hfew := h.few ls.length (Nat.le_refl _)
 have hps : ∀ i, i ≤ ls.length → Hv.pos ls i ≤ 100000 := fun i hi => by
  have := Hv.pos_mono ls hi
  omega
 have hft : Hv.fst z u + z ≤ S.size := by
  have := (Hv.fst_oth h.z2 h.u2).2.2.2.1
  have := h.size
  omega
 have hr : Reads S (Hv.fst z u) z n ls := reads_of hft (Nat.le_trans h.nN h.top) (by omega) h.recs h.stop
 have hu := h.u2
 have hn1 := h.n1
 have hnt : n ≤ Hv.top := Nat.le_trans h.nN h.top
 have hpk := h.pick
 have hlen := h.len
 have hup := h.up
 have hsi := h.size
 have hop : ∀ l w', LogAt B w' l d z 0 0 (.slice none 0 0) 0 false → DkX B w' d S k → Env B a w0 w' → Calls Tryd.prog 21 #[.pointer (some ⟨l, 0, none⟩)] w' fun e w'' => e = .returned (.tuple #[]) ∧ (∃ v, LogAt B w'' l d z u n v (Hv.pos ls ls.length) false ∧ (∃ us, Recs B w'' v us ls)) ∧ DkX B w'' d (Hv.tailS (Hv.fst z u) (Hv.pos ls ls.length) (z - Hv.pos ls ls.length) S) (k + 2 * z + 10) ∧ LFr B l w' w'' := by
  have hl5 : ls.length ≤ 100000 := by omega
  generalize hm : Hv.pos ls ls.length = m at hfit ⊢
  obtain rfl | rfl : u = 0 ∨ u = 1 := by omega
  ·rw [show Hv.fst z 0 = 0 from rfl] at hr ⊢
   intro l w' hL hD' hE'
   exact open_h0 a w0 w' hL hD' hup hz2 hsi hk hE' (fun i => Hv.headM (Dk.seen S (Hv.fst z i))) rfl rfl n hpk hn1 hnt S rfl ls hl5 hlen hps m hm.symm hfit hr
  ·rw [show Hv.fst z 1 = z from rfl] at hr ⊢
   intro l w' hL hD' hE'
   exact open_h1 a w0 w' hL hD' hup hz2 hsi hk hE' (fun i => Hv.headM (Dk.seen S (Hv.fst z i))) rfl rfl n hpk hn1 hnt S rfl ls hl5 hlen hps m hm.symm hfit hr
 have h4 : 4 ≤ S.size := by omega
 have C := Open_any a w0 w hD hE hz h4 hop
 refine C.mono ?_
 rintro e w' ⟨l, rfl, h1, h2, h3⟩
 exact ⟨l, _, rfl, h1, h.opened h1.2.ok, (h.up.tail _ _ _).1.2, h2, h3, (h.up.tail _ _ _).2⟩
set_option maxRecDepth 100000 in
theorem hopen_fresh {B d z sz : Nat} (a : Nat → Addr) (w0 w : World) (hz : z = sz / 2) (h4 : 4 ≤ sz) (h9 : sz ≤ 4096) (hD : DkX B w d (fresh sz) 0) (hE : Env B a w0 w) :
  Calls Tryd.prog 7 #[.pointer (some ⟨d, 0, none⟩)] w (OpP B w d z sz 0 1 1 (2 * z + 10) []) := by
 refine Calls.mono (Open_any (u := 0) (n := 1) (m := 1) (ls := []) (S' := Hv.fl1 z sz) (k' := 0 + 2 * z + 10) a w0 w hD hE (show z = (fresh sz).size / 2 from hz) h4 (fun l w' hL hD' hE' => fl_open a w0 z sz hz h4 h9 l w' hL hD' hE')) ?_
 rintro e w' ⟨l, rfl, h1, h2, h3⟩
 have hs := Hv.fl1_seen z sz
 have hu := Hv.fl1_up z sz
 rw [Nat.zero_add] at h1
 refine ⟨l, _, rfl, h1, { ok := h1.2.ok, size := by rw [Hv.fl1_size]; omega, z2 := by omega, u2 := by decide, off := hu.1, pend := ?_, n1 := Nat.le_refl _, nN := Nat.le_refl _, top := by decide, head := by show Dk.seen _ 0 = _; rw [hs 0 (by omega), if_pos rfl], other := ?_, recs := fun i hi => absurd hi (by simp), fit := by show 1 ≤ z; omega, rest := fun j j1 j2 => ?_ }, hu.2, h2, h3, Hv.fl1_size z sz⟩
 ·exact Hv.tail_pend (Hv.fl0_up z sz) (Hv.syncs_pend0 ((Hv.Up.begin (f := 0) (z := z) (n := 1) (Hv.up_fresh sz)).2.wrote _ _).done) _ _ _
 ·show (Hv.headM (Dk.seen _ z)).1 ≤ 1 ∧ _
  rw [show Hv.oth z 0 = z from rfl, hs z (by omega), if_neg (by omega), Hv.headM_zs]
  exact ⟨Nat.zero_le _, fun e => by cases e⟩
 ·have j1' : 1 ≤ j := j1
  show Dk.seen _ (0 + j) = _
  rw [hs _ (by omega), if_neg (by omega)]
end Go.Proofs.YtdokojlgcplefaaDoor
