/- Layer 5: a half that is laid anew, and what a crash leaves of that. -/
import Derived.Test.YtdokojlgcplefaaDoorMHk16s
import Derived.Test.YtdokojlgcplefaaDoorMHv20s
import Derived.Test.YtdokojlgcplefaaDoorMHv24s
namespace Go.Proofs.YtdokojlgcplefaaDoor
open Go Go.RowKit
namespace Hv
def putsM (f n : Nat) (L : List (List Nat)) : Nat → M
 | 0 => fun S => (true, S)
 | k + 1 => andM (putsM f n L k) (putM f (pos L k) n k (L.getD k []))
def preM (g z n : Nat) (L : List (List Nat)) : M := andM (beginM g z n) (andM (putsM g n L L.length) syM)
def layM (g z n : Nat) (L : List (List Nat)) : M := andM (preM g z n L) (finishM g n)
theorem andM_false {a b : M} {S : Dk.D} (h : (andM a b S).1 = false) : ((a S).1 = false ∧ andM a b S = (false, (a S).2)) ∨ ((a S).1 = true ∧ (b (a S).2).1 = false ∧ andM a b S = b (a S).2) := by
 unfold andM at h ⊢
 split at h
 ·rename_i h1
  exact Or.inr ⟨h1, h, if_pos h1⟩
 ·rename_i h1
  exact Or.inl ⟨by simpa using h1, if_neg h1⟩
theorem puts_stop {f n : Nat} {L : List (List Nat)} {S : Dk.D} {k : Nat} (h : (putsM f n L k S).1 = false) : ∀ {m : Nat}, k ≤ m → putsM f n L m S = putsM f n L k S
 | 0, h1 => by rw [Nat.le_zero.1 h1]
 | m + 1, h1 => by
  rcases Nat.lt_or_ge k (m + 1) with h2 | h2
  ·have e := puts_stop h (show k ≤ m by omega)
   show andM (putsM f n L m) _ S = _
   rw [andM_no (by rw [e]; exact h), e, ← h]
  ·rw [show k = m + 1 by omega]
def Small (L : List (List Nat)) : Prop := ∀ i, i < L.length → 1 ≤ (L.getD i []).length ∧ (L.getD i []).length ≤ 3000
theorem nums_puts {S : Dk.D} {f n : Nat} {L : List (List Nat)} : ∀ {k : Nat}, Pres (Nums S) (putsM f n L k)
 | 0, _, h => h
 | _ + 1, T, h => Pres.and nums_puts nums_putM T h
theorem nums_wip {S : Dk.D} {f : Nat} : ∀ {n i : Nat}, Pres (Nums S) (wipM f i n)
 | 0, _, _, h => h
 | n + 1, i, T, h => by
  show Nums S (wipeN f i (n + 1) T).2.2
  unfold wipeN
  split
  ·exact nums_wip (f := f) (n := n) (i := i + 1) T h
  ·split
   ·exact nums_wip (f := f) (n := n) (i := i + 1) _ (nums_wr T h)
   ·exact nums_wr (i := f + i) (bs := []) T h
theorem nums_begin {S : Dk.D} {g z n : Nat} : Pres (Nums S) (beginM g z n) := nums_wr.and (nums_sy.and (nums_wip.and nums_sy))
theorem nums_pre {S : Dk.D} {g z n : Nat} {L : List (List Nat)} : Pres (Nums S) (preM g z n L) := nums_begin.and (nums_puts.and nums_sy)
theorem nums_lay {S : Dk.D} {g z n : Nat} {L : List (List Nat)} : Pres (Nums S) (layM g z n L) := nums_pre.and (nums_wr.and nums_sy)
theorem begin_yes {S : Dk.D} {g z n : Nat} (h : (beginM g z n S).1 = true) : (beginM g z n S).2.pend = [] ∧ (beginM g z n S).2.off = false ∧ ∀ j, Dk.seen (beginM g z n S).2 j = if g + 1 ≤ j ∧ j < g + 1 + (z - 1) then zs else if g = j then headB n 1 else Dk.seen S j := by
 obtain ⟨h1, h2, e⟩ := andM_true (a := wrM g (headB n 1)) (b := andM syM (andM (wipM g 1 (z - 1)) syM)) h
 obtain ⟨h3, h4, e2⟩ := andM_true h2
 obtain ⟨h5, h6, e3⟩ := andM_true h4
 have e4 : beginM g z n S = syM (wipM g 1 (z - 1) (syM (wrM g (headB n 1) S).2).2).2 := e.trans (e2.trans e3)
 rw [e4]
 obtain ⟨k1, k2⟩ := sync_end h6
 refine ⟨k1, k2, fun j => ?_⟩
 show Dk.seen (Dk.syncs _) j = _
 rw [dseen_syncs h6]
 have h3' : Dk.done (Dk.wrote S g (headB n 1)) = true := h3
 refine (dseen_wipe (f := g) h5 j).trans ?_
 show (if _ then _ else Dk.seen (Dk.syncs (Dk.wrote S g (headB n 1))) j) = _
 rw [dseen_syncs h3', dseen_wrote h1, padB_self (headB_len _ _)]
theorem puts_yes {f n : Nat} {L : List (List Nat)} {S : Dk.D} (hL : Small L) : ∀ {k : Nat}, k ≤ L.length → (putsM f n L k S).1 = true →
  (∀ j, (j < f + 1 ∨ f + pos L k ≤ j) → Dk.seen (putsM f n L k S).2 j = Dk.seen S j) ∧ ∀ i, i < k → ∀ j, j < need ((L.getD i []).length : Int) → Dk.seen (putsM f n L k S).2 (f + (pos L i + j)) = piece (recB n i (L.getD i [])) j
 | 0, _, _ => ⟨fun _ _ => rfl, fun i hi => absurd hi (by omega)⟩
 | k + 1, hk, h => by
  obtain ⟨h1, h2, e⟩ := andM_true (a := putsM f n L k) (b := putM f (pos L k) n k (L.getD k [])) h
  have e : putsM f n L (k + 1) S = putM f (pos L k) n k (L.getD k []) (putsM f n L k S).2 := e
  obtain ⟨g1, g2⟩ := puts_yes hL (by omega) h1
  obtain ⟨l1, l2⟩ := hL k (by omega)
  have hx := fun j => seen_putM l1 l2 h2 j
  have hp := pos_ge L k
  rw [e]
  refine ⟨fun j hj => ?_, fun i hi j hj => ?_⟩
  ·rw [pos_step] at hj
   rw [hx, if_neg (by omega)]
   exact g1 j (by omega)
  ·rcases Nat.lt_or_ge i k with hl | hl
   ·have h4 := pos_mono L (show i + 1 ≤ k from hl)
    rw [pos_step] at h4
    rw [hx, if_neg (by omega)]
    exact g2 i hl j hj
   ·obtain rfl : i = k := by omega
    rw [hx, if_pos (by omega)]
    congr 1
    omega
structure Pre (T S : Dk.D) (z g n : Nat) (L : List (List Nat)) : Prop where
 pend : T.pend = []
 off : T.off = false
 far : ∀ j, (j < g ∨ g + z ≤ j) → Dk.seen T j = Dk.seen S j
 head : Dk.seen T g = headB n 1
 recs : ∀ i, i < L.length → recordM T g z (pos L i) n i = some (L.getD i [])
 rest : ∀ j, pos L L.length ≤ j → j < z → Dk.seen T (g + j) = zs
theorem pre_yes {S : Dk.D} {z g n : Nat} {L : List (List Nat)} (hz : 2 ≤ z) (hL : Small L) (hm : pos L L.length ≤ z) (h : (preM g z n L S).1 = true) : Pre (preM g z n L S).2 S z g n L := by
 obtain ⟨h1, h2, e⟩ := andM_true (a := beginM g z n) (b := andM (putsM g n L L.length) syM) h
 obtain ⟨h3, h4, e2⟩ := andM_true h2
 have e4 : preM g z n L S = syM (putsM g n L L.length (beginM g z n S).2).2 := e.trans e2
 obtain ⟨_, _, b3⟩ := begin_yes h1
 obtain ⟨p1, p2⟩ := puts_yes hL (Nat.le_refl _) h3
 obtain ⟨k1, k2⟩ := sync_end h4
 have hp := pos_ge L L.length
 rw [e4]
 have hx : ∀ j, Dk.seen (syM (putsM g n L L.length (beginM g z n S).2).2).2 j = Dk.seen (putsM g n L L.length (beginM g z n S).2).2 j := fun j => dseen_syncs h4 j
 refine ⟨k1, k2, fun j hj => ?_, ?_, fun i hi => ?_, fun j j1 j2 => ?_⟩
 ·rw [hx, p1 j (by omega), b3, if_neg (by omega), if_neg (by omega)]
 ·rw [hx, p1 g (by omega), b3, if_neg (by omega), if_pos rfl]
 ·obtain ⟨l1, l2⟩ := hL i hi
  have h4 := pos_mono L (show i + 1 ≤ L.length from hi)
  rw [pos_step] at h4
  exact record_is ⟨l1, l2, by omega, fun j hj => by rw [hx]; exact p2 i hi j hj⟩
 ·rw [hx, p1 _ (by omega), b3, if_pos (by omega)]
theorem new_log {T S : Dk.D} {z u n N n' : Nat} {ls L : List (List Nat)} (h : Inv S z u n N ls) (hP : Pre T S z (oth z u) n' L) (C : Dk.D) (hok : Dk.Ok C) (hs : C.size = S.size) (ho : C.off = false) (hp : C.pend = []) (h1 : n < n') (h2 : n' ≤ N + 1) (h3 : N + 1 ≤ Hv.top) (hfit : pos L L.length ≤ z)
  (hx : ∀ j, j ≠ oth z u → Dk.seen C j = Dk.seen T j) (hh : Dk.seen C (oth z u) = headB n' 2) : Inv C z (1 - u) n' (N + 1) L := by
 obtain ⟨f1, f2, f3, _, _⟩ := fst_oth h.z2 h.u2
 have hz := h.z2
 have hn1 := h.n1
 have hnN := h.nN
 have f4 : oth z (1 - u) = fst z u := f1.symm
 have hp1 := pos_ge L
 rw [f2] at hP hx hh f3
 have hold : Dk.seen C (oth z (1 - u)) = headB n 2 := by
  rw [f4, hx _ (by omega), hP.far _ (by omega)]
  exact h.head
 refine { ok := hok, size := by rw [hs]; exact h.size, z2 := h.z2, u2 := by omega, off := ho, pend := hp, n1 := by omega, nN := h2, top := h3, head := hh, other := ?_, recs := fun i hi => ?_, fit := hfit, rest := fun j j1 j2 => ?_ }
 ·rw [hold, headM_of h.n1 (by have := h.top; omega) (Or.inr rfl)]
  exact ⟨by show n ≤ N + 1; omega, fun _ => h1⟩
 ·have hr := hP.recs i hi
  rw [← hr]
  unfold recordM
  have e0 : Dk.seen C (fst z (1 - u) + pos L i) = Dk.seen T (fst z (1 - u) + pos L i) := hx _ (by have := hp1 i; omega)
  have e1 : ∀ k, sectors C (fst z (1 - u) + pos L i) k = sectors T (fst z (1 - u) + pos L i) k := fun k => by
   induction k with
   | zero => rfl
   | succ k ih => rw [sectors, sectors, ih, hx _ (by have := hp1 i; omega)]
  rw [e0, e1]
 ·rw [hx _ (by have := hp1 L.length; omega)]
  exact hP.rest j j1 j2
theorem lay_yes {S : Dk.D} {z u n N n' : Nat} {ls L : List (List Nat)} (h : Inv S z u n N ls) (hL : Small L) (hfit : pos L L.length ≤ z) (h1 : n < n') (h2 : n' ≤ N + 1) (h3 : N + 1 ≤ Hv.top) (hy : (layM (oth z u) z n' L S).1 = true) (hok : Dk.Ok (layM (oth z u) z n' L S).2) :
  Inv (layM (oth z u) z n' L S).2 z (1 - u) n' (N + 1) L := by
 obtain ⟨g1, g2, e⟩ := andM_true (a := preM (oth z u) z n' L) (b := finishM (oth z u) n') hy
 have hP := pre_yes h.z2 hL hfit g1
 obtain ⟨k1, k2, e2⟩ := andM_true (a := wrM (oth z u) (headB n' 2)) (b := syM) g2
 have e4 : layM (oth z u) z n' L S = syM (wrM (oth z u) (headB n' 2) (preM (oth z u) z n' L S).2).2 := e.trans e2
 obtain ⟨q1, q2⟩ := sync_end k2
 have hs : (layM (oth z u) z n' L S).2.size = S.size := (nums_lay S ⟨rfl, rfl⟩).1
 have hx : ∀ j, Dk.seen (layM (oth z u) z n' L S).2 j = if oth z u = j then headB n' 2 else Dk.seen (preM (oth z u) z n' L S).2 j := fun j => by
  rw [e4]
  show Dk.seen (Dk.syncs _) j = _
  rw [dseen_syncs k2]
  show Dk.seen (Dk.wrote _ _ _) j = _
  rw [dseen_wrote k1, padB_self (headB_len _ _)]
 refine new_log h hP _ hok hs (by rw [e4]; exact q2) (by rw [e4]; exact q1) h1 h2 h3 hfit (fun j hj => by rw [hx, if_neg (Ne.symm hj)]) (by rw [hx, if_pos rfl])
theorem lay_crash {S : Dk.D} {z u n N n' : Nat} {ls L : List (List Nat)} (h : Inv S z u n N ls) (hL : Small L) (hfit : pos L L.length ≤ z) (h1 : n < n') (h2 : n' ≤ N + 1) (h3 : N + 1 ≤ Hv.top) (hn : (layM (oth z u) z n' L S).1 = false) (ts : List Bool) (C : Dk.D)
  (hC : C = Dk.crashed (layM (oth z u) z n' L S).2 (keptTo (layM (oth z u) z n' L S).2.pend ts (layM (oth z u) z n' L S).2.pend.length)) (hok : Dk.Ok C) : Opn C z u n (N + 1) ls ∨ Opn C z (1 - u) n' (N + 1) L := by
 have hsz : C.size = S.size := by
  rw [hC]
  show (Dk.puts _ _).size = _
  rw [(Dk.puts_keeps _ _).2.1]
  exact (nums_lay S ⟨rfl, rfl⟩).1
 have hup : Up C := by rw [hC]; exact ⟨rfl, rfl⟩
 have hpe : C.pend = [] := by rw [hC]; rfl
 obtain ⟨f1, f2, f3, _, _⟩ := fst_oth h.z2 h.u2
 have hz := h.z2
 have hse := fun j => seen_nil h.pend j
 have hn1 := h.n1
 rcases andM_false (a := preM (oth z u) z n' L) (b := finishM (oth z u) n') hn with ⟨_, e⟩ | ⟨g1, g2, e⟩
 ·have e : layM (oth z u) z n' L S = (false, (preM (oth z u) z n' L S).2) := e
  have hch : Ch S (fun j x => oth z u ≤ j ∧ j < oth z u + z ∧ (j = oth z u → x = headB n' 1)) (preM (oth z u) z n' L S).2 := by
   refine Pres.and (Pres.and (pres_wr ⟨Nat.le_refl _, by omega, fun _ => padB_self (headB_len _ _)⟩) (pres_sy.and (Pres.and (pres_wip (fun j j1 j2 => ⟨by omega, by omega, fun e => absurd e (by omega)⟩)) pres_sy))) (Pres.and ?_ pres_sy) S (Ch.start h.pend)
   suffices H : ∀ k, k ≤ L.length → Pres (Ch S (fun j x => oth z u ≤ j ∧ j < oth z u + z ∧ (j = oth z u → x = headB n' 1))) (putsM (oth z u) n' L k) from H _ (Nat.le_refl _)
   intro k
   induction k with
   | zero => intro _ T hT; exact hT
   | succ k ih =>
    intro hk
    obtain ⟨l1, l2⟩ := hL k (by omega)
    have h4 := pos_mono L (show k + 1 ≤ L.length from hk)
    rw [pos_step] at h4
    have hp := pos_ge L k
    exact (ih (by omega)).and (pres_putM l1 l2 (fun i hi => ⟨by omega, by omega, fun e => absurd e (by omega)⟩))
  have hx := fun j => hch.crash ts j
  rw [show (preM (oth z u) z n' L S).2 = (layM (oth z u) z n' L S).2 by rw [e], ← hC] at hx
  refine Or.inl ((h.again hok hsz hup.1 hpe h3 (fun j hj => ?_) ?_).opn hup.2)
  ·rcases hx (fst z u + j) with e | ⟨e1, e2, _⟩
   ·rw [e, hse]
   ·omega
  ·rcases hx (oth z u) with e | ⟨_, _, e3⟩
   ·left; rw [e, hse]
   ·right
    refine ⟨n', h2, ?_⟩
    rw [e3 rfl, headM_of (by omega) (by omega) (Or.inl rfl)]
 ·have e : layM (oth z u) z n' L S = finishM (oth z u) n' (preM (oth z u) z n' L S).2 := e
  have hP := pre_yes h.z2 hL hfit g1
  have hch : Ch (preM (oth z u) z n' L S).2 (fun j x => j = oth z u ∧ x = headB n' 2) (layM (oth z u) z n' L S).2 := by
   rw [e]
   exact Pres.and (pres_wr ⟨rfl, padB_self (headB_len _ _)⟩) pres_sy _ (Ch.start hP.pend)
  have hx := fun j => hch.crash ts j
  rw [← hC] at hx
  have hsT := fun j => seen_nil hP.pend j
  have hfar : ∀ j, j ≠ oth z u → Dk.seen C j = Dk.seen (preM (oth z u) z n' L S).2 j := fun j hj => by
   rcases hx j with e | ⟨e1, _⟩
   ·rw [e, hsT]
   ·exact absurd e1 hj
  rcases hx (oth z u) with e | ⟨_, e3⟩
  ·refine Or.inl ((h.again hok hsz hup.1 hpe h3 (fun j hj => ?_) ?_).opn hup.2)
   ·rw [hfar _ (by omega), hP.far _ (by omega)]
   ·right
    refine ⟨n', h2, ?_⟩
    rw [e, ← hsT, hP.head, headM_of (by omega) (by omega) (Or.inl rfl)]
  ·exact Or.inr ((new_log h hP C hok hsz hup.1 hpe h1 h2 h3 hfit hfar e3).opn hup.2)
end Hv
end Go.Proofs.YtdokojlgcplefaaDoor
/- Layer 5: the chapter's example. -/
namespace Go.Proofs.YtdokojlgcplefaaDoor
open Go Go.RowKit
namespace Hv
def al1 : Dk.D := tailS 0 1 9 (wholeS 0 1 (begunS 0 10 1 (fresh 20)))
def al2 : Dk.D := laidS 0 1 1 0 [97] al1
def al3 : Dk.D := laidS 0 2 1 1 [98] al2
def al4 : Dk.D := tailS 0 3 7 al3
theorem up_fresh (n : Nat) : Up (fresh n) := ⟨rfl, rfl⟩
theorem seen_fresh (n j : Nat) : Dk.seen (fresh n) j = zs := rfl
theorem al0_up : Up (wholeS 0 1 (begunS 0 10 1 (fresh 20))) := (up_fresh 20).begin.2.finish.2
theorem al1_up : Up al1 := (al0_up.tail 0 1 9).1
theorem al2_up : Up al2 := al1_up.laid.1
theorem al3_up : Up al3 := al2_up.laid.1
theorem al0_size : (wholeS 0 1 (begunS 0 10 1 (fresh 20))).size = 20 := by rw [wholeS_size, begunS_size]; rfl
theorem al1_size : al1.size = 20 := (al0_up.tail 0 1 9).2.trans al0_size
theorem al2_size : al2.size = 20 := al1_up.laid.2.trans al1_size
theorem al3_size : al3.size = 20 := al2_up.laid.2.trans al2_size
theorem al0_seen (j : Nat) : Dk.seen (wholeS 0 1 (begunS 0 10 1 (fresh 20))) j = if 0 = j then headB 1 2 else zs := by
 rw [seen_whole (up_fresh 20).begin.2]
 by_cases h : 0 = j
 ·rw [if_pos h, if_pos h]
 ·rw [if_neg h, if_neg h, seen_begun (up_fresh 20) _ _ _ _ (by omega), seen_fresh, if_neg h]
  split <;> rfl
theorem al1_seen (j : Nat) : Dk.seen al1 j = if 0 = j then headB 1 2 else zs := by
 unfold al1
 rw [seen_tail al0_up, al0_seen]
 by_cases h : 0 + 1 ≤ j ∧ j < 0 + 1 + 9
 ·rw [if_pos h, if_neg (by omega)]
 ·rw [if_neg h]
theorem al3_seen (j : Nat) : Dk.seen al3 j = if 2 = j then recB 1 1 [98] else if 1 = j then recB 1 0 [97] else if 0 = j then headB 1 2 else zs := by
 unfold al3
 rw [seen_laid_one al2_up _ _ _ _ _ (by decide) (by decide), Nat.zero_add]
 unfold al2
 rw [seen_laid_one al1_up _ _ _ _ _ (by decide) (by decide), Nat.zero_add, al1_seen]
end Hv
section
variable {B d : Nat}
theorem al_open1 (a : Nat → Addr) (w0 : World) (l : Nat) (w : World) (hL : LogAt B w l d 10 0 0 (.slice none 0 0) 0 false) (hD : DkX B w d (fresh 20) 0) (hE : Env B a w0 w) :
  Calls Tryd.prog 21 #[.pointer (some ⟨l, 0, none⟩)] w fun e w' => e = .returned (.tuple #[]) ∧ (∃ v, LogAt B w' l d 10 0 1 v 1 false ∧ (∃ us, Recs B w' v us [])) ∧ DkX B w' d Hv.al1 30 ∧ LFr B l w w' :=
 open_new a w0 w hL hD (Hv.up_fresh 20) (by omega) (by show 10 + 10 ≤ 20; omega) (by omega) hE (fun _ => (0, 0)) (by rw [Hv.seen_fresh]; exact Hv.headM_zs) (by rw [Hv.seen_fresh]; exact Hv.headM_zs) (by rfl) 1 (by rfl) (by decide) _ rfl [] (by simp) (by simp) (by intro i hi; obtain rfl : i = 0 := (by simpa using hi); decide) 1 rfl (by omega)
  (reads_small (by simp) (by simp) (by rw [Hv.al0_size]; omega) (by decide) (by omega) (by simp) (Or.inr (by rw [Hv.al0_seen]; rfl)))
theorem al_open2 (a : Nat → Addr) (w0 : World) (l : Nat) (w : World) (hL : LogAt B w l d 10 0 0 (.slice none 0 0) 0 false) (hD : DkX B w d Hv.al3 34) (hE : Env B a w0 w) :
  Calls Tryd.prog 21 #[.pointer (some ⟨l, 0, none⟩)] w fun e w' => e = .returned (.tuple #[]) ∧ (∃ v, LogAt B w' l d 10 0 1 v 3 false ∧ (∃ us, Recs B w' v us [[97], [98]])) ∧ DkX B w' d Hv.al4 64 ∧ LFr B l w w' :=
 open_h0 a w0 w hL hD Hv.al3_up (by omega) (by rw [Hv.al3_size]; omega) (by omega) hE (fun i => if i = 0 then (1, 2) else (0, 0)) (by rw [Hv.al3_seen]; exact Hv.headM_of (by omega) (by decide) (Or.inr rfl)) (by rw [Hv.al3_seen]; exact Hv.headM_zs) 1 (by rfl) (by omega) (by decide) _ rfl [[97], [98]] (by simp) (by
   intro i
   rcases i with _ | _ | i <;> simp [List.getD]) (by
   intro i hi
   simp at hi
   obtain rfl | rfl | rfl : i = 0 ∨ i = 1 ∨ i = 2 := by omega
   all_goals decide) 3 rfl (by omega)
  (reads_small (by
   intro i hi
   simp at hi
   obtain rfl | rfl : i = 0 ∨ i = 1 := by omega
   all_goals decide) (by simp) (by rw [Hv.al3_size]; omega) (by decide) (by omega) (by
   intro i hi
   simp at hi
   obtain rfl | rfl : i = 0 ∨ i = 1 := by omega
   ·rw [Hv.al3_seen]; rfl
   ·rw [Hv.al3_seen]; rfl) (Or.inr (by rw [Hv.al3_seen]; rfl)))
end
theorem rd_litc (w : World) (x : Nat) : ∀ (B : Nat) (w' : World), TFr B (w.alloc (.cells #[.int .u8 (x : Int)] 5 (1, 2))) w' → Rd w' (.slice (some ⟨w.heap.size, 0, none⟩) 1 1) [x] := fun B w' ht => by
 have hk := ht.rows w.heap.size 5 #[.int .u8 (x : Int)] (1, 2) (by rw [heap_alloc_new]) (by decide) (by decide)
 exact ⟨_, 1, rfl, Nat.le_refl _, fun _ => ⟨w.heap.size, 0, rfl, (Array.getElem?_eq_some_iff.1 hk).1, fun i hi => by
  obtain rfl : i = 0 := (by simpa using hi)
  rw [cell_of_row _ _ _ _ _ _ hk]
  rfl⟩⟩
set_option maxRecDepth 100000 in
set_option maxHeartbeats 1000000 in
theorem halive_any (a : Nat → Addr) (w : World) (hS : HSents w a) (hT : Tabs w) : Calls Tryd.prog 4 #[] w fun e w' => e = .returned (.bool true) ∧ Below w.heap.size w w' := by
 have HE0 : Hid (∀ w', Below w.heap.size w w' → Env w.heap.size a w w') := Lib.hid (fun w' hb => ⟨hS, hT, Nat.le_refl _, hb⟩)
 go_enter Tryd.func4, Tryd.ntmps4
 go_wp2_with fail
 go_at_call 6
 refine (dk_new 20 w (by omega) (by omega)).mono ?_
 rintro e w1 ⟨d, ms, ml, rfl, hd, hb⟩
 have HD1 : Hid (DkX w.heap.size w1 d (fresh 20) 0) := Lib.hid ⟨ms, ml, _, hd⟩
 have HE1 := Lib.hid (HE0.out w1 hb)
 clear hd hb HE0
 go_wp2_with fail
 go_at_call 7
 refine (Open_any (z := 10) a w w1 HD1.out HE1.out rfl (by decide) (fun l w' h1 h2 h3 => al_open1 a w l w' h1 h2 h3)).mono ?_
 rintro e w2 ⟨l, rfl, h2, ht2, _⟩
 have HL2 := Lib.hid h2
 have HE2 := Lib.hid (HE1.out.tfr ht2)
 have kc := fun (w : World) (C : Array Value) (n c : Nat) => Lib.run_convert_bytes_const (P := Tryd.prog) w 39 5 C n c Tryd.underlying39 Tryd.underlying5
 obtain ⟨⟨v2, hl2, us2, hr2⟩, hd2⟩ := HL2.out
 have HBA : Hid (Below w2.heap.size w2 (w2.alloc (.cells #[.int .u8 97] 5 (1, 2)))) := Lib.hid (below_al w2 _)
 have CA := append_0 a w (w2.alloc (.cells #[.int .u8 97] 5 (1, 2))) 1 1 v2 us2 [] (hl2.below HBA.out) (hr2.below HBA.out) (hd2.below HBA.out) Hv.al1_up (by omega) (by rw [Hv.al1_size]; omega) (by omega) (HE2.out.below HBA.out) (by decide) (by simp) (some ⟨w2.heap.size, 0, none⟩) 1 1 1 [97] rfl (by omega) (by omega) (rd_litc w2 97 _) (byte_of (show ∀ x ∈ [97], x < 256 by decide)) rfl (by omega)
 clear h2 ht2 hl2 hr2 hd2
 go_wp2_with fail
 go_at_call 10
 refine CA.mono ?_
 rintro e w3 ⟨rfl, h3, hf3⟩
 have HL3 : Hid (LogsAt w.heap.size w3 l d 10 0 1 2 false [[97]] Hv.al2 32) := Lib.hid h3
 have HE3 := Lib.hid ((HE2.out.below HBA.out).afr hf3)
 obtain ⟨⟨v3, hl3, us3, hr3⟩, hd3⟩ := HL3.out
 have HBB : Hid (Below w3.heap.size w3 (w3.alloc (.cells #[.int .u8 98] 5 (1, 2)))) := Lib.hid (below_al w3 _)
 have CB := append_0 a w (w3.alloc (.cells #[.int .u8 98] 5 (1, 2))) 1 2 v3 us3 [[97]] (hl3.below HBB.out) (hr3.below HBB.out) (hd3.below HBB.out) Hv.al2_up (by omega) (by rw [Hv.al2_size]; omega) (by omega) (HE3.out.below HBB.out) (by decide) (by simp) (some ⟨w3.heap.size, 0, none⟩) 1 1 1 [98] rfl (by omega) (by omega) (rd_litc w3 98 _) (byte_of (show ∀ x ∈ [98], x < 256 by decide)) rfl (by omega)
 clear h3 hf3 hl3 hr3 hd3 CA HL2
 go_wp2_with fail
 go_at_call 10
 refine CB.mono ?_
 rintro e w4 ⟨rfl, h4, hf4⟩
 have HL4 : Hid (LogsAt w.heap.size w4 l d 10 0 1 3 false [[97], [98]] Hv.al3 34) := Lib.hid h4
 have HE4 := Lib.hid ((HE3.out.below HBB.out).afr hf4)
 clear h4 hf4 CB HL3
 go_wp2_with fail
 go_at_call 7
 refine (Open_any (z := 10) a w w4 HL4.out.2 HE4.out (by rw [Hv.al3_size]) (by rw [Hv.al3_size]; omega) (fun l w' h1 h2 h3 => al_open2 a w l w' h1 h2 h3)).mono ?_
 rintro e w5 ⟨l2, rfl, h5, ht5, _⟩
 have HE5 := Lib.hid (HE4.out.tfr ht5)
 obtain ⟨⟨v5, hl5, us5, hr5⟩, hd5⟩ := h5
 have CR := lrecords_any w5 hl5 hr5 (by simp) (by simp)
 clear ht5 hl5 hr5 hd5 HL4
 go_wp2_with fail
 go_at_call 14
 refine CR.mono ?_
 rintro e w6 ⟨v6, rfl, ⟨us6, hr6⟩, hb6⟩
 have HE6 := Lib.hid (HE5.out.below hb6)
 have HR6 := Lib.hid hr6
 obtain ⟨A6, c6, rfl⟩ := row_slice hr6.row
 obtain ⟨wx, hwx⟩ : ∃ wx, wx = ((w6.alloc (.cells #[.int .u8 97] 5 (1, 2))).alloc (.cells #[.int .u8 98] 5 (1, 2))).alloc (.cells #[.slice (some ⟨w6.heap.size, 0, none⟩) 1 1, .slice (some ⟨w6.heap.size + 1, 0, none⟩) 1 1] 39) := ⟨_, rfl⟩
 have hbx : Below w6.heap.size w6 wx := by rw [hwx]; exact ((below_al w6 _).alloc (by simp) _).alloc (by simp; omega) _
 have HB8 := Lib.hid (HE6.out.bel.trans (hbx.mono HE6.out.bel.size))
 have hk0 : wx.heap[w6.heap.size]? = some (.cells #[.int .u8 97] 5 (1, 2)) := by rw [hwx, heap_alloc_old _ _ (by simp; omega), heap_alloc_old _ _ (by simp), heap_alloc_new]
 have hk1 : wx.heap[w6.heap.size + 1]? = some (.cells #[.int .u8 98] 5 (1, 2)) := by
  rw [hwx, heap_alloc_old _ _ (by simp), show w6.heap.size + 1 = (w6.alloc (.cells #[.int .u8 97] 5 (1, 2))).heap.size by simp, heap_alloc_new]
 have hk2 : Blk wx (w6.heap.size + 1 + 1) 39 #[.slice (some ⟨w6.heap.size, 0, none⟩) 1 1, .slice (some ⟨w6.heap.size + 1, 0, none⟩) 1 1] := by
  show wx.heap[w6.heap.size + 1 + 1]? = _
  rw [hwx, show w6.heap.size + 1 + 1 = ((w6.alloc (.cells #[.int .u8 97] 5 (1, 2))).alloc (.cells #[.int .u8 98] 5 (1, 2))).heap.size by simp, heap_alloc_new]
 have hrl : ∀ g x, wx.heap[g]? = some (.cells #[.int .u8 (x : Int)] 5 (1, 2)) → Rd wx (.slice (some ⟨g, 0, none⟩) 1 1) [x] := fun g x hk =>
  ⟨_, 1, rfl, Nat.le_refl _, fun _ => ⟨g, 0, rfl, (Array.getElem?_eq_some_iff.1 hk).1, fun i hi => by
   obtain rfl : i = 0 := (by simpa using hi)
   rw [cell_of_row _ _ _ _ _ _ hk]
   rfl⟩⟩
 have hll : RdLL wx (.slice (some ⟨w6.heap.size + 1 + 1, 0, none⟩) 2 2) [.slice (some ⟨w6.heap.size, 0, none⟩) 1 1, .slice (some ⟨w6.heap.size + 1, 0, none⟩) 1 1] [[97], [98]] := by
  refine ⟨_, 2, rfl, Nat.le_refl _, rfl, fun _ => ⟨_, 0, rfl, hk2.lt, fun i u hu => ?_⟩, fun i u hu => ?_⟩
  ·rw [Nat.zero_add]
   refine (hk2.cell i).trans ?_
   rcases i with _ | _ | i <;> simp at hu ⊢ <;> exact hu
  ·rcases i with _ | _ | i
   ·simp at hu; subst hu; exact hrl _ 97 hk0
   ·simp at hu; subst hu; exact hrl _ 98 hk1
   ·simp at hu
 have CL := sameLists_yes _ _ us6 _ [[97], [98]] wx (hr6.rdLL.below hbx (Nat.le_refl _)) hll (by simp)
 have HWX := Lib.hid hwx
 have k2 := kc (w6.alloc (.cells #[.int .u8 97] 5 (1, 2))) #[.int .u8 98] 1 1
 rw [show (w6.alloc (.cells #[Value.int .u8 97] 5 (1, 2))).heap.size = w6.heap.size + 1 from by simp] at k2
 clear hr6 hb6 CR hwx hbx hk0 hk1 hk2 hrl hll
 go_wp2_with fail
 rw [← HWX.out]
 go_at_call 13
 refine CL.mono ?_
 rintro e w9 ⟨rfl, j, rfl⟩
 have HB9 := Lib.hid (below_drewN HB8.out j)
 clear CL
 go_wp2_with fail
 go_ret
 exact ⟨rfl, HB9.out⟩
end Go.Proofs.YtdokojlgcplefaaDoor
/- Layer 5: Compact with no records, where the power is on. -/
namespace Go.Proofs.YtdokojlgcplefaaDoor
open Go Go.RowKit
end Go.Proofs.YtdokojlgcplefaaDoor
/- Layer 5: Compact with no records, where the power is on: the call. -/
namespace Go.Proofs.YtdokojlgcplefaaDoor
open Go Go.RowKit
end Go.Proofs.YtdokojlgcplefaaDoor
/- Layer 5: a log on a fresh disk of any size, and how it grows. -/
namespace Go.Proofs.YtdokojlgcplefaaDoor
open Go Go.RowKit
namespace Hv
def fl0 (z sz : Nat) : Dk.D := wholeS 0 1 (begunS 0 z 1 (fresh sz))
def fl1 (z sz : Nat) : Dk.D := tailS 0 1 (z - 1) (fl0 z sz)
theorem fl0_up (z sz : Nat) : Up (fl0 z sz) := (up_fresh sz).begin.2.finish.2
theorem fl1_up (z sz : Nat) : Up (fl1 z sz) := ((fl0_up z sz).tail 0 1 (z - 1)).1
theorem fl0_size (z sz : Nat) : (fl0 z sz).size = sz := by unfold fl0; rw [wholeS_size, begunS_size]; rfl
theorem fl1_size (z sz : Nat) : (fl1 z sz).size = sz := ((fl0_up z sz).tail 0 1 (z - 1)).2.trans (fl0_size z sz)
theorem fl0_seen (z sz j : Nat) (hz : 1 ≤ z) : Dk.seen (fl0 z sz) j = if 0 = j then headB 1 2 else zs := by
 unfold fl0
 rw [seen_whole (up_fresh sz).begin.2]
 by_cases h : 0 = j
 ·rw [if_pos h, if_pos h]
 ·rw [if_neg h, if_neg h, seen_begun (up_fresh sz) _ _ _ _ hz, seen_fresh, if_neg h]
  split <;> rfl
theorem fl1_seen (z sz j : Nat) (hz : 1 ≤ z) : Dk.seen (fl1 z sz) j = if 0 = j then headB 1 2 else zs := by
 unfold fl1
 rw [seen_tail (fl0_up z sz), fl0_seen z sz j hz]
 by_cases h : 0 + 1 ≤ j ∧ j < 0 + 1 + (z - 1)
 ·rw [if_pos h, if_neg (by omega)]
 ·rw [if_neg h]
def sumN (ls : List (List Nat)) : Nat := (ls.map fun x => need (x.length : Int)).sum
theorem sumN_snoc (ls : List (List Nat)) (x : List Nat) : sumN (ls ++ [x]) = sumN ls + need (x.length : Int) := by simp [sumN]
end Hv
section
variable {B d : Nat}
theorem fl_open (a : Nat → Addr) (w0 : World) (z sz : Nat) (hz : z = sz / 2) (h4 : 4 ≤ sz) (h9 : sz ≤ 4096) (l : Nat) (w : World) (hL : LogAt B w l d z 0 0 (.slice none 0 0) 0 false) (hD : DkX B w d (fresh sz) 0) (hE : Env B a w0 w) :
  Calls Tryd.prog 21 #[.pointer (some ⟨l, 0, none⟩)] w fun e w' => e = .returned (.tuple #[]) ∧ (∃ v, LogAt B w' l d z 0 1 v 1 false ∧ (∃ us, Recs B w' v us [])) ∧ DkX B w' d (Hv.fl1 z sz) (0 + 2 * z + 10) ∧ LFr B l w w' :=
 open_new a w0 w hL hD (Hv.up_fresh sz) (by omega) (by show z + z ≤ sz; omega) (by omega) hE (fun _ => (0, 0)) (by rw [Hv.seen_fresh]; exact Hv.headM_zs) (by rw [Hv.seen_fresh]; exact Hv.headM_zs) (by rfl) 1 (by rfl) (by decide) _ rfl [] (by simp) (by simp) (by intro i hi; obtain rfl : i = 0 := (by simpa using hi); decide) 1 rfl (by omega)
  (reads_small (T := Hv.fl0 z sz) (by simp) (by simp; omega) (by rw [Hv.fl0_size]; omega) (by decide) (by omega) (by simp) (Or.inr (by rw [Hv.fl0_seen z sz _ (by omega)]; rfl)))
end
structure Fl (B : Nat) (w : World) (l d z m k i : Nat) (ls : List (List Nat)) (S : Dk.D) : Prop where
 log : LogsAt B w l d z 0 1 m false ls S k
 up : Hv.Up S
 size : z + z ≤ S.size
 h0 : Dk.seen S 0 = Hv.headB 1 2
 h1 : Dk.seen S z = Hv.zs
 sum : m = 1 + Hv.sumN ls
 mz : m ≤ z
 kb : k ≤ 1000 + 100 * i
 lb : ls.length ≤ i
 each : ∀ x ∈ ls, x.length ≤ 3000
theorem Fl.next {B : Nat} {w w' : World} {l d z m k i : Nat} {ls : List (List Nat)} {S : Dk.D} (h : Fl B w l d z m k i ls S) {bs : List Nat} {nd : Nat} (hb : bs.length ≤ 3000) (hnd : nd = Hv.need (bs.length : Int)) (hm : m + nd ≤ z)
  (hl : LogsAt B w' l d z 0 1 (m + nd) false (ls ++ [bs]) (Hv.laidS 0 m 1 ls.length bs S) (k + nd + 1)) : Fl B w' l d z (m + nd) (k + nd + 1) (i + 1) (ls ++ [bs]) (Hv.laidS 0 m 1 ls.length bs S) where
 log := hl
 up := h.up.laid.1
 size := by rw [h.up.laid.2]; exact h.size
 h0 := by rw [Hv.seen_laid_other h.up _ _ _ _ _ _ (Or.inl (by have := h.sum; omega))]; exact h.h0
 h1 := by rw [Hv.seen_laid_other h.up _ _ _ _ _ _ (Or.inr (by rw [← hnd]; omega))]; exact h.h1
 sum := by rw [Hv.sumN_snoc, ← hnd, h.sum]; omega
 mz := hm
 kb := by have := Hv.need_le (bs.length : Int); have := h.kb; omega
 lb := by simp; exact h.lb
 each := fun x hx => by
  rcases List.mem_append.1 hx with hx | hx
  ·exact h.each x hx
  ·rw [List.mem_singleton.1 hx]; exact hb
theorem Fl.below {B : Nat} {w w' : World} {l d z m k i : Nat} {ls : List (List Nat)} {S : Dk.D} (h : Fl B w l d z m k i ls S) (hb : Below w.heap.size w w') : Fl B w' l d z m k i ls S := { h with log := h.log.below hb }
theorem Fl.more {B : Nat} {w : World} {l d z m k i : Nat} {ls : List (List Nat)} {S : Dk.D} (h : Fl B w l d z m k i ls S) : Fl B w l d z m k (i + 1) ls S := { h with kb := by have := h.kb; omega, lb := by have := h.lb; omega }
end Go.Proofs.YtdokojlgcplefaaDoor
