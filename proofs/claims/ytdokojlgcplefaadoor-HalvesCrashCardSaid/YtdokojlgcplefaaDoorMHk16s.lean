/- The law's small calls: the first of a list; is there more than is asked? -/
import Derived.Test.YtdokojlgcplefaaDoorMLawOpenHks
import Derived.Test.YtdokojlgcplefaaDoorMHk15
import Derived.Test.YtdokojlgcplefaaDoorMHk1s
namespace Go.Proofs.YtdokojlgcplefaaDoor
open Go Go.RowKit
def firstL (L : List (List Nat)) : List Nat := L.getD 0 []
def FirstP (w0 w : World) (L : List (List Nat)) (e : Ending) (w' : World) : Prop := ∃ A1 c1, e = .returned (.slice A1 (firstL L).length c1) ∧ Rd w0 (.slice A1 (firstL L).length c1) (firstL L) ∧ w = w'
theorem rd_nil0 (w : World) : Rd w (.slice none 0 0) [] := ⟨none, 0, rfl, Nat.le_refl _, fun h => absurd h (by simp)⟩
set_option maxRecDepth 100000 in
theorem first_any (A : Option Addr) (n c : Nat) (vs : List Value) (L : List (List Nat)) (w0 w : World) (h : RdLL w0 (.slice A n c) vs L) (hbw : Below w0.heap.size w0 w) :
  Calls Tryd.prog 9 #[.slice A n c] w (FirstP w0 w L) := by
 have e := h.len
 rcases Nat.eq_zero_or_pos n with h0 | h0
 ·obtain rfl : L = [] := List.eq_nil_of_length_eq_zero (by omega)
  have HF : Hid (FirstP w0 w [] (.returned (.slice none 0 0)) w) := Lib.hid ⟨none, 0, rfl, rd_nil0 w0, rfl⟩
  subst h0
  clear h e hbw
  go_enter Tryd.func9, Tryd.ntmps9
  go_wp2_with fail
  go_ret
  exact HF.out
 ·obtain ⟨b, o, A1, c1, rfl, hb, pc, hr⟩ := h.at_ (k := 0) (by omega)
  have HF : Hid (FirstP w0 w L (.returned (.slice A1 (firstL L).length c1)) w) := Lib.hid ⟨A1, c1, rfl, hr, rfl⟩
  have pc : w.cell? ⟨b, o, none⟩ = some (.slice A1 (firstL L).length c1) := (hbw.cell (p := ⟨b, o + 0, none⟩) hb).trans pc
  generalize (firstL L).length = l1 at HF pc
  have b0 : ((n : Int) == 0) = false := by simp; omega
  have b1 : (n == 0) = false := by simp; omega
  have i0 : (0 : Int) < (n : Int) := by omega
  clear h e hb hr hbw
  go_enter Tryd.func9, Tryd.ntmps9
  go_wp2_with fail
  go_ret
  exact HF.out
theorem hact_size : (Tryd.prog.info? 36).map (·.size) = some 4 := by kernel_rfl
def hactCells0 : List Value := [.int .i64 0, .int .i64 0, .slice none 0 0, .slice none 0 0]
theorem hact_one (x : ActH) : (x.cells.toArray.all fun v => v.oneCell') = true := by simp [ActH.cells, Value.oneCell']
def FewH (x : ActH) : Prop := x.L.length ≤ 12 ∧ ∀ y ∈ x.L, y.length ≤ 400
def LongP (w : World) (xs : List ActH) (e : Ending) (w' : World) : Prop := ∃ r, e = .returned (.bool r) ∧ (r = false → xs.length ≤ 40 ∧ ∀ x ∈ xs, FewH x) ∧ Below w.heap.size w w'
theorem few_all {xs : List ActH} (h : ∀ k (hk : k < xs.length), FewH xs[k]) : ∀ x ∈ xs, FewH x := fun x hx => by
 obtain ⟨i, hi, rfl⟩ := List.getElem_of_mem hx
 exact h i hi
set_option maxRecDepth 100000 in
set_option maxHeartbeats 1000000 in
theorem long_any (A : Option Addr) (b o c : Nat) (xs : List ActH) (w : World) (hA : 0 < xs.length → A = some ⟨b, o, none⟩) (hR : HRow w b o xs) :
  Calls Tryd.prog 5 #[.slice A xs.length c] w (LongP w xs) := by
 obtain ⟨n, hn⟩ : ∃ n, n = xs.length := ⟨_, rfl⟩
 rw [← hn] at hA ⊢
 have HT : Hid (∀ w', Below w.heap.size w w' → LongP w xs (.returned (.bool true)) w') := Lib.hid (fun w' hb => ⟨true, rfl, fun h => (by cases h), hb⟩)
 by_cases h40 : 40 < n
 ·have i0 : (40 : Int) < (n : Int) := by omega
  have HB : Hid (Below w.heap.size w w) := Lib.hid (Below.refl _ _)
  clear hA hR hn h40
  go_enter Tryd.func5, Tryd.ntmps5
  go_wp2_with fail
  go_ret
  exact HT.out _ HB.out
 have HA := Lib.hid hA
 have HR := Lib.hid hR
 have HN := Lib.hid hn
 have H40 : Hid (n ≤ 40) := Lib.hid (by omega)
 have i40 : ¬ (40 : Int) < (n : Int) := by omega
 have HB0 : Hid (Below w.heap.size w w) := Lib.hid (Below.refl _ _)
 have HF0 : Hid (∀ j (hj : j < xs.length), j < 0 → FewH xs[j]) := Lib.hid (fun j hj h => absurd h (by omega))
 clear hA hR hn h40
 go_enter Tryd.func5, Tryd.ntmps5
 go_wp2_with fail
 go_loopw [12] (fun j wr => ∃ k : Nat, k ≤ n ∧ j = .int .i64 (k : Int) ∧ Hid (Below w.heap.size w wr) ∧ Hid (∀ j (hj : j < xs.length), j < k → FewH xs[j])) (fun j _ => n - (intOf j).toNat)
 case atStart => exact ⟨0, Nat.zero_le _, rfl, HB0, HF0⟩
 case round =>
  obtain ⟨k, hk, rfl, HBK, HFK⟩ := hrel
  by_cases hlt : k < n
  ·obtain rfl := HA.out (by omega)
   have hkx : k < xs.length := by rw [← HN.out]; exact hlt
   obtain ⟨x, hx⟩ : ∃ x, x = xs[k] := ⟨_, rfl⟩
   have hx2 : xs[k]? = some x := by rw [List.getElem?_eq_getElem hkx, hx]
   have HG : Hid (wr.rangeAt b (o + k * 4) x.cells) := Lib.hid (by rw [Nat.mul_comm]; exact (HR.out.below HBK.out (Nat.le_refl _)).row k x hx2)
   have HXR : Hid (RdLL w (.slice x.A x.L.length x.c) x.vs x.L) := Lib.hid (HR.out.ok x (List.mem_of_getElem? hx2)).rd
   have HXE := Lib.hid hx
   have HLT := Lib.hid hlt
   have HB1 : Hid (Blk (wr.alloc (.cells hactCells0.toArray 36)) wr.heap.size 36 hactCells0.toArray) := Lib.hid (Blk.new wr _ _)
   obtain ⟨w2, hw2⟩ : ∃ w2, w2 = (wr.alloc (.cells hactCells0.toArray 36)).setRow wr.heap.size x.cells.toArray := ⟨_, rfl⟩
   have HZ : Hid (Blk w2 wr.heap.size 36 x.cells.toArray) := Lib.hid (by rw [hw2]; exact HB1.out.row _)
   have HB2 : Hid (Below w.heap.size w w2) := Lib.hid (by rw [hw2]; exact below_then HBK.out (below_row ((Below.refl _ _).alloc (Nat.le_refl _) _) (Nat.le_refl _) _))
   have i1 : (k : Int) < (n : Int) := by omega
   have i2 : (n : Int) ≤ 40 := by have := H40.out; omega
   clear hx hx2 hlt hk
   go_wp2_with (first | (refine wpList_load_mid rfl 36 (.tmp 14) rfl b (o + k * 4) rfl x.cells _ HG.out Tryd.underlying36 rfl hact_size ?_) | (with_reducible (show wpList _ _ _ (Oper.mk _ (Op.store 36 _ _) _ _ _ _ :: _) _ _); refine pause ?_))
   unfold Paused
   refine wpList_store_row rfl 36 (.tmp 4) (.tmp 15) rfl wr.heap.size x.cells.toArray rfl rfl 36 hactCells0.toArray HB1.out hact_size rfl (hact_one x) ?_
   change wpList _ _ _ _ _ ((wr.alloc (.cells hactCells0.toArray 36)).setRow wr.heap.size x.cells.toArray)
   rw [← hw2]
   clear hw2 HG HB1
   generalize wr.heap.size = g at HZ ⊢
   obtain ⟨A1, hA1⟩ : ∃ A1, A1 = x.A := ⟨_, rfl⟩
   obtain ⟨l1, hl1⟩ : ∃ l1, l1 = x.L.length := ⟨_, rfl⟩
   have HL1 := Lib.hid hl1
   have pc : w2.cell? ⟨g, 2, none⟩ = some (.slice A1 l1 x.c) := by rw [hA1, hl1]; exact HZ.out.cell 2
   generalize hc1 : x.c = c1 at pc
   have HX2 : Hid (RdLL w (.slice A1 l1 c1) x.vs x.L) := Lib.hid (by rw [hA1, hl1, ← hc1]; exact HXR.out)
   simp only [Act.put]
   by_cases h12 : 12 < l1
   ·have i3 : (12 : Int) < (l1 : Int) := by omega
    clear h12 hA1 hl1 hc1
    go_wp2_with fail
    go_ret
    exact HT.out _ HB2.out
   have i3 : ¬ (12 : Int) < (l1 : Int) := by omega
   have i4 : (l1 : Int) ≤ 12 := by omega
   have H12 : Hid (l1 ≤ 12) := Lib.hid (by omega)
   have HJ0 : Hid (∀ j (hj : j < x.L.length), j < 0 → x.L[j].length ≤ 400) := Lib.hid (fun j hj h => absurd h (by omega))
   clear h12 hA1 hl1 hc1
   go_wp2_with fail
   obtain ⟨wp, hwp⟩ : ∃ wp, wp = wr := ⟨_, rfl⟩
   subst hwp
   go_loopw [23] (fun j wr2 => ∃ i : Nat, i ≤ l1 ∧ j = .int .i64 (i : Int) ∧ wr2 = w2 ∧ Hid (∀ j (hj : j < x.L.length), j < i → x.L[j].length ≤ 400)) (fun j _ => l1 - (intOf j).toNat)
   case atStart => exact ⟨0, Nat.zero_le _, rfl, rfl, HJ0⟩
   case round =>
    obtain ⟨i, hi, rfl, rfl, HJ⟩ := hrel
    by_cases hil : i < l1
    ·obtain ⟨b5, o5, A5, c5, rfl, hb5, p5, _⟩ := HX2.out.at_ (k := i) (by rw [← HL1.out]; exact hil)
     have p5 : wr.cell? ⟨b5, o5 + i, none⟩ = some (.slice A5 (x.L.getD i []).length c5) := (HB2.out.cell (p := ⟨b5, o5 + i, none⟩) hb5).trans p5
     have i5 : (i : Int) < (l1 : Int) := by omega
     have HIL := Lib.hid hil
     have HE : Hid (∀ (hj : i < x.L.length), (x.L.getD i []).length = x.L[i].length) := Lib.hid (fun hj => by rw [List.getD_eq_getElem?_getD, List.getElem?_eq_getElem hj]; rfl)
     generalize (x.L.getD i []).length = l5 at p5 HE
     clear hb5 hil hi
     by_cases h4 : 400 < l5
     ·have i6 : (400 : Int) < (l5 : Int) := by omega
      clear h4
      go_wp2_with fail
      go_ret
      exact HT.out _ HB2.out
     ·have i6 : ¬ (400 : Int) < (l5 : Int) := by omega
      have HJ1 : Hid (∀ j (hj : j < x.L.length), j < i + 1 → x.L[j].length ≤ 400) := Lib.hid (fun j hj hji => by
       rcases Nat.lt_or_ge j i with h | h
       ·exact HJ.out j hj h
       ·obtain rfl : j = i := by omega
        rw [← HE.out hj]; omega)
      clear h4
      go_wp2
      go_roundw
      case rel => exact ⟨i + 1, HIL.out, by go_num, trivial, HJ1⟩
      case measure => have := HIL.out; simp [intOf]; omega
    ·obtain rfl : i = l1 := by omega
     have HF1 : Hid (∀ j (hj : j < xs.length), j < k + 1 → FewH xs[j]) := Lib.hid (fun j hj hjk => by
      rcases Nat.lt_or_ge j k with h | h
      ·exact HFK.out j hj h
      ·obtain rfl : j = k := by omega
       rw [← HXE.out]
       refine ⟨by rw [← HL1.out]; exact H12.out, fun y hy => ?_⟩
       obtain ⟨q, hq, rfl⟩ := List.getElem_of_mem hy
       exact HJ.out q hq (by rw [HL1.out]; exact hq))
     clear hil hi pc
     go_wp2
     go_roundw
     case rel => exact ⟨k + 1, HLT.out, by go_num, HB2, HF1⟩
     case measure => have := HLT.out; simp [intOf]; omega
  ·obtain rfl : k = n := by omega
   have HF : Hid (LongP w xs (.returned (.bool false)) wr) := Lib.hid ⟨false, rfl, fun _ => ⟨by rw [← HN.out]; exact H40.out, few_all (fun j hj => HFK.out j hj (by rw [HN.out]; exact hj))⟩, HBK.out⟩
   clear hlt hk
   go_wp2_with fail
   go_ret
   exact HF.out
end Go.Proofs.YtdokojlgcplefaaDoor
/- Layer 5: what stands on the disk of a log that lives, and what becomes of it. -/
namespace Go.Proofs.YtdokojlgcplefaaDoor
open Go Go.RowKit
namespace Hv
def fst (z u : Nat) : Nat := if u = 0 then 0 else z
def oth (z u : Nat) : Nat := if u = 0 then z else 0
structure Inv (S : Dk.D) (z u n N : Nat) (ls : List (List Nat)) : Prop where
 ok : Dk.Ok S
 size : z + z ≤ S.size
 z2 : 2 ≤ z
 u2 : u < 2
 off : S.off = false
 pend : S.pend = []
 n1 : 1 ≤ n
 nN : n ≤ N
 top : N ≤ top
 head : Dk.seen S (fst z u) = headB n 2
 other : (headM (Dk.seen S (oth z u))).1 ≤ N ∧ ((headM (Dk.seen S (oth z u))).2 = 2 → (headM (Dk.seen S (oth z u))).1 < n)
 recs : ∀ i, i < ls.length → recordM S (fst z u) z (pos ls i) n i = some (ls.getD i [])
 fit : pos ls ls.length ≤ z
 rest : ∀ j, pos ls ls.length ≤ j → j < z → Dk.seen S (fst z u + j) = zs
theorem Inv.more {S : Dk.D} {z u n N N' : Nat} {ls : List (List Nat)} (h : Inv S z u n N ls) (h1 : N ≤ N') (h2 : N' ≤ Hv.top) : Inv S z u n N' ls :=
 { h with nN := Nat.le_trans h.nN h1, top := h2, other := ⟨Nat.le_trans h.other.1 h1, h.other.2⟩ }
theorem fst_oth {z u : Nat} (_hz : 2 ≤ z) (hu : u < 2) : fst z u = oth z (1 - u) ∧ oth z u = fst z (1 - u) ∧ (fst z u + z ≤ oth z u ∨ oth z u + z ≤ fst z u) ∧ fst z u + z ≤ z + z ∧ oth z u + z ≤ z + z := by
 unfold fst oth
 match u, hu with
 | 0, _ => simp
 | 1, _ => simp
theorem pos_step (ls : List (List Nat)) (i : Nat) : pos ls (i + 1) = pos ls i + need ((ls.getD i []).length : Int) := rfl
theorem pos_mono (ls : List (List Nat)) {i k : Nat} (h : i ≤ k) : pos ls i ≤ pos ls k := by
 induction k with
 | zero =>
  obtain rfl : i = 0 := Nat.le_zero.1 h
  exact Nat.le_refl _
 | succ k ih =>
  rcases Nat.lt_or_ge i (k + 1) with h1 | h1
  ·exact Nat.le_trans (ih (by omega)) (by rw [pos_step]; omega)
  ·obtain rfl : i = k + 1 := by omega
   exact Nat.le_refl _
theorem pos_append (ls : List (List Nat)) (b : List Nat) : ∀ {i : Nat}, i ≤ ls.length → pos (ls ++ [b]) i = pos ls i
 | 0, _ => rfl
 | i + 1, h => by
  rw [pos_step, pos_step, pos_append ls b (by omega), List.getD_eq_getElem?_getD, List.getD_eq_getElem?_getD, List.getElem?_append_left (by omega)]
theorem getD_app_lt {ls : List (List Nat)} {b : List Nat} {i : Nat} (h : i < ls.length) : (ls ++ [b]).getD i [] = ls.getD i [] := by
 rw [List.getD_eq_getElem?_getD, List.getD_eq_getElem?_getD, List.getElem?_append_left h]
theorem getD_app_len (ls : List (List Nat)) (b : List Nat) : (ls ++ [b]).getD ls.length [] = b := by
 rw [List.getD_eq_getElem?_getD, List.getElem?_append_right (Nat.le_refl _), Nat.sub_self]
 rfl
theorem pos_app_all (ls : List (List Nat)) (b : List Nat) : pos (ls ++ [b]) (ls ++ [b]).length = pos ls ls.length + need (b.length : Int) := by
 rw [List.length_append, List.length_singleton, pos_step, pos_append ls b (Nat.le_refl _), getD_app_len]
theorem pos_ge (ls : List (List Nat)) (i : Nat) : 1 ≤ pos ls i := pos_mono ls (Nat.zero_le i)
theorem Inv.again {S T : Dk.D} {z u n N : Nat} {ls : List (List Nat)} (h : Inv S z u n N ls) (hok : Dk.Ok T) (hs : T.size = S.size) (ho : T.off = false) (hp : T.pend = []) (hN : N + 1 ≤ Hv.top) (hx : ∀ j, j < z → Dk.seen T (fst z u + j) = Dk.seen S (fst z u + j))
  (hoth : headM (Dk.seen T (oth z u)) = headM (Dk.seen S (oth z u)) ∨ ∃ s, s ≤ N + 1 ∧ headM (Dk.seen T (oth z u)) = (s, 1)) : Inv T z u n (N + 1) ls where
 ok := hok
 size := by rw [hs]; exact h.size
 z2 := h.z2
 u2 := h.u2
 off := ho
 pend := hp
 n1 := h.n1
 nN := Nat.le_succ_of_le h.nN
 top := hN
 head := by have := hx 0 (by have := h.z2; omega); rw [Nat.add_zero] at this; rw [this]; exact h.head
 other := by
  rcases hoth with e | ⟨s, hs, e⟩
  ·rw [e]; exact ⟨Nat.le_succ_of_le h.other.1, h.other.2⟩
  ·rw [e]; exact ⟨hs, fun e => by cases e⟩
 recs := fun i hi => record_cong h.ok (h.recs i hi) (fun j h1 h2 => hx j (by
  have h3 := pos_mono ls (show i + 1 ≤ ls.length from hi)
  rw [pos_step] at h3
  have := h.fit
  omega))
 fit := h.fit
 rest := fun j h1 h2 => by rw [hx j h2]; exact h.rest j h1 h2
end Hv
end Go.Proofs.YtdokojlgcplefaaDoor
/- Layer 5: an Append and a Compact as deeds, and what a crash leaves of them. -/
namespace Go.Proofs.YtdokojlgcplefaaDoor
open Go Go.RowKit
namespace Hv
def appM (f m n p : Nat) (b : List Nat) : M := andM (putM f m n p b) syM
theorem seen_putM {f m n p : Nat} {b : List Nat} {S : Dk.D} (h1 : 1 ≤ b.length) (h2 : b.length ≤ 3000) (h : (putM f m n p b S).1 = true) (j : Nat) :
  Dk.seen (putM f m n p b S).2 j = if f + m ≤ j ∧ j < f + m + need (b.length : Int) then piece (recB n p b) (j - (f + m)) else Dk.seen S j := by
 unfold putM at h ⊢
 exact dseen_putN h (by rw [recB_len h1 h2]; omega) j
theorem pres_putM {S : Dk.D} {W : Nat → List Nat → Prop} {f m n p : Nat} {b : List Nat} (h1 : 1 ≤ b.length) (h2 : b.length ≤ 3000) (hw : ∀ i, i < need (b.length : Int) → W (f + (m + i)) (piece (recB n p b) i)) : Pres (Ch S W) (putM f m n p b) := by
 unfold putM
 refine pres_putN (fun j _ hj => ?_)
 rw [padB_self (piece_len (by rw [recB_len h1 h2]; omega))]
 exact hw j (by omega)
theorem nums_putN {S : Dk.D} {f at_ : Nat} {all : List Nat} : ∀ {r i : Nat}, Pres (Nums S) (putN f at_ all i r)
 | 0, _, _, h => h
 | _ + 1, _, T, h => Pres.and nums_wr nums_putN T h
theorem nums_putM {S : Dk.D} {f m n p : Nat} {b : List Nat} : Pres (Nums S) (putM f m n p b) := nums_putN
theorem sync_end {S : Dk.D} (h : Dk.done S = true) : (Dk.syncs S).pend = [] ∧ (Dk.syncs S).off = false := ⟨syncs_pend0 h, on_sy S (done_iff h).1 h⟩
theorem app_yes {S : Dk.D} {z u n N : Nat} {ls : List (List Nat)} {b : List Nat} (h : Inv S z u n N ls) (h1 : 1 ≤ b.length) (h2 : b.length ≤ 3000) (hm : pos ls ls.length + need (b.length : Int) ≤ z)
  (hy : (appM (fst z u) (pos ls ls.length) n ls.length b S).1 = true) (hok : Dk.Ok (appM (fst z u) (pos ls ls.length) n ls.length b S).2) : Inv (appM (fst z u) (pos ls ls.length) n ls.length b S).2 z u n N (ls ++ [b]) := by
 obtain ⟨g1, g2, e⟩ := andM_true hy
 have e : appM (fst z u) (pos ls ls.length) n ls.length b S = syM (putM (fst z u) (pos ls ls.length) n ls.length b S).2 := e
 have e2 : (appM (fst z u) (pos ls ls.length) n ls.length b S).2 = Dk.syncs (putM (fst z u) (pos ls ls.length) n ls.length b S).2 := by rw [e]; rfl
 have hp := pos_ge ls ls.length
 have hsz : (appM (fst z u) (pos ls ls.length) n ls.length b S).2.size = S.size := (Pres.and nums_putM nums_sy S ⟨rfl, rfl⟩).1
 obtain ⟨T, hT⟩ : ∃ T, T = (appM (fst z u) (pos ls ls.length) n ls.length b S).2 := ⟨_, rfl⟩
 rw [← hT] at hok e2 hsz ⊢
 have hx : ∀ j, Dk.seen T j = if fst z u + pos ls ls.length ≤ j ∧ j < fst z u + pos ls ls.length + need (b.length : Int) then piece (recB n ls.length b) (j - (fst z u + pos ls ls.length)) else Dk.seen S j := fun j => by
  rw [e2, dseen_syncs g2, seen_putM h1 h2 g1]
 obtain ⟨hpe, hof⟩ := sync_end g2
 rw [← e2] at hpe hof
 obtain ⟨_, _, h3, _, _⟩ := fst_oth h.z2 h.u2
 have hz := h.z2
 refine { ok := hok, size := by rw [hsz]; exact h.size, z2 := h.z2, u2 := h.u2, off := hof, pend := hpe, n1 := h.n1, nN := h.nN, top := h.top, head := ?_, other := ?_, recs := ?_, fit := by rw [pos_app_all]; exact hm, rest := ?_ }
 ·rw [hx, if_neg (by omega)]; exact h.head
 ·rw [hx, if_neg (by omega)]; exact h.other
 ·intro i hi
  rw [List.length_append, List.length_singleton] at hi
  rcases Nat.lt_or_ge i ls.length with hl | hl
  ·rw [pos_append ls b (by omega), getD_app_lt hl]
   refine record_cong h.ok (h.recs i hl) (fun j j1 j2 => ?_)
   have h4 := pos_mono ls (show i + 1 ≤ ls.length from hl)
   rw [pos_step] at h4
   rw [hx, if_neg (by omega)]
  ·obtain rfl : i = ls.length := by omega
   rw [pos_append ls b (Nat.le_refl _), getD_app_len]
   exact record_is ⟨h1, h2, hm, fun j hj => by rw [hx, if_pos (by omega)]; congr 1; omega⟩
 ·intro j j1 j2
  rw [pos_app_all] at j1
  rw [hx, if_neg (by omega)]
  exact h.rest j (by omega) j2
structure Opn (S : Dk.D) (z u n N : Nat) (ls : List (List Nat)) : Prop where
 ok : Dk.Ok S
 size : z + z ≤ S.size
 z2 : 2 ≤ z
 u2 : u < 2
 up : Up S
 pend : S.pend = []
 n1 : 1 ≤ n
 nN : n ≤ N
 top : N ≤ top
 head : Dk.seen S (fst z u) = headB n 2
 other : (headM (Dk.seen S (oth z u))).1 ≤ N ∧ ((headM (Dk.seen S (oth z u))).2 = 2 → (headM (Dk.seen S (oth z u))).1 < n)
 recs : ∀ i, i < ls.length → recordM S (fst z u) z (pos ls i) n i = some (ls.getD i [])
 fit : pos ls ls.length ≤ z
 stop : recordM S (fst z u) z (pos ls ls.length) n ls.length = none
theorem stop_of {S : Dk.D} {f z m n p : Nat} (h : m = z ∨ Dk.seen S (f + m) = zs) : recordM S f z m n p = none := by
 rcases h with h | h
 ·exact record_out (by omega)
 ·exact record_zero h
theorem Inv.opn {S : Dk.D} {z u n N : Nat} {ls : List (List Nat)} (h : Inv S z u n N ls) (hu : S.armed = false) : Opn S z u n N ls :=
 ⟨h.ok, h.size, h.z2, h.u2, ⟨h.off, hu⟩, h.pend, h.n1, h.nN, h.top, h.head, h.other, h.recs, h.fit, stop_of (by
  have := h.fit
  rcases Nat.lt_or_ge (pos ls ls.length) z with h1 | h1
  ·exact Or.inr (h.rest _ (Nat.le_refl _) h1)
  ·exact Or.inl (by omega))⟩
theorem tail_pend {S : Dk.D} (h : Up S) (hp : S.pend = []) (f i n : Nat) : (tailS f i n S).pend = [] := by
 unfold tailS
 split
 ·exact syncs_pend0 h.wipeN.2.done
 ·rename_i hn
  suffices H : ∀ (n i : Nat), ¬ (wipeN f i n S).2.1 = true → (wipeN f i n S).2.2 = S by rw [H n i hn]; exact hp
  intro n
  induction n with
  | zero => intro i _; rfl
  | succ n ih =>
   intro i hn
   unfold wipeN at hn ⊢
   split at hn
   ·rename_i hz
    rw [if_pos hz]
    exact ih _ hn
   ·split at hn <;> exact absurd rfl hn
theorem Opn.opened {S : Dk.D} {z u n N : Nat} {ls : List (List Nat)} (h : Opn S z u n N ls) (hok : Dk.Ok (tailS (fst z u) (pos ls ls.length) (z - pos ls ls.length) S)) : Inv (tailS (fst z u) (pos ls ls.length) (z - pos ls ls.length) S) z u n N ls := by
 obtain ⟨hu, hsz⟩ := h.up.tail (fst z u) (pos ls ls.length) (z - pos ls ls.length)
 have hx := fun j => seen_tail h.up (fst z u) (pos ls ls.length) (z - pos ls ls.length) j
 have hpe := tail_pend h.up h.pend (fst z u) (pos ls ls.length) (z - pos ls ls.length)
 obtain ⟨T, hT⟩ : ∃ T, T = tailS (fst z u) (pos ls ls.length) (z - pos ls ls.length) S := ⟨_, rfl⟩
 rw [← hT] at hok hu hsz hpe hx ⊢
 have hp := pos_ge ls ls.length
 have hf := h.fit
 have hz := h.z2
 obtain ⟨_, _, h3, _, _⟩ := fst_oth h.z2 h.u2
 refine { ok := hok, size := by rw [hsz]; exact h.size, z2 := h.z2, u2 := h.u2, off := hu.1, pend := hpe, n1 := h.n1, nN := h.nN, top := h.top, head := ?_, other := ?_, recs := ?_, fit := h.fit, rest := ?_ }
 ·rw [hx, if_neg (by omega)]; exact h.head
 ·rw [hx, if_neg (by omega)]; exact h.other
 ·intro i hi
  refine record_cong h.ok (h.recs i hi) (fun j j1 j2 => ?_)
  have h4 := pos_mono ls (show i + 1 ≤ ls.length from hi)
  rw [pos_step] at h4
  rw [hx, if_neg (by omega)]
 ·intro j j1 j2
  rw [hx, if_pos (by omega)]
theorem app_crash {S : Dk.D} {z u n N : Nat} {ls : List (List Nat)} {b : List Nat} (h : Inv S z u n N ls) (h1 : 1 ≤ b.length) (h2 : b.length ≤ 3000) (hm : pos ls ls.length + need (b.length : Int) ≤ z) (ts : List Bool) (C : Dk.D)
  (hC : C = Dk.crashed (appM (fst z u) (pos ls ls.length) n ls.length b S).2 (keptTo (appM (fst z u) (pos ls ls.length) n ls.length b S).2.pend ts (appM (fst z u) (pos ls ls.length) n ls.length b S).2.pend.length)) (hok : Dk.Ok C) :
  Opn C z u n N ls ∨ ∃ x, Opn C z u n N (ls ++ [x]) ∧ x.length = b.length ∧ (recB n ls.length x).take 10 = (recB n ls.length b).take 10 := by
 have hch : Ch S (fun j x => ∃ i, i < need (b.length : Int) ∧ j = fst z u + (pos ls ls.length + i) ∧ x = piece (recB n ls.length b) i) (appM (fst z u) (pos ls ls.length) n ls.length b S).2 :=
  Pres.and (pres_putM h1 h2 (fun i hi => ⟨i, hi, rfl, rfl⟩)) pres_sy S (Ch.start h.pend)
 have hx := fun j => hch.crash ts j
 have hsz : C.size = S.size := by
  rw [hC]
  show (Dk.puts _ _).size = _
  rw [(Dk.puts_keeps _ _).2.1]
  exact hch.size
 rw [← hC] at hx
 have hup : Up C := by rw [hC]; exact ⟨rfl, rfl⟩
 have hpe : C.pend = [] := by rw [hC]; rfl
 clear hC hch
 have hse := fun j => seen_nil h.pend j
 have hp := pos_ge ls ls.length
 have hz := h.z2
 obtain ⟨_, _, h3, _, _⟩ := fst_oth h.z2 h.u2
 have hsame : ∀ j, (j < fst z u + pos ls ls.length ∨ fst z u + pos ls ls.length + need (b.length : Int) ≤ j) → Dk.seen C j = Dk.seen S j := fun j hj => by
  rcases hx j with e | ⟨i, hi, e, _⟩
  ·rw [e, hse]
  ·omega
 have hhead : Dk.seen C (fst z u) = headB n 2 := by rw [hsame _ (by omega)]; exact h.head
 have hother := h.other
 rw [← hsame (oth z u) (by omega)] at hother
 have hrec : ∀ i, i < ls.length → recordM C (fst z u) z (pos ls i) n i = some (ls.getD i []) := fun i hi => record_cong h.ok (h.recs i hi) (fun j j1 j2 => by
  have h4 := pos_mono ls (show i + 1 ≤ ls.length from hi)
  rw [pos_step] at h4
  exact hsame _ (by omega))
 have hzs : C.size = S.size := hsz
 have hsiz : z + z ≤ C.size := by rw [hsz]; exact h.size
 rcases record_torn hok (f := fst z u) (z := z) (at_ := pos ls ls.length) (n := n) (p := ls.length) h1 h2 (fun j hj => by
  rcases hx (fst z u + (pos ls ls.length + j)) with e | ⟨i, hi, e, e'⟩
  ·left; rw [e, ← hse]; exact h.rest _ (by omega) (by omega)
  ·right; rw [e', show i = j by omega]) with e | ⟨x, e, hl, ht⟩
 ·exact Or.inl ⟨hok, hsiz, h.z2, h.u2, hup, hpe, h.n1, h.nN, h.top, hhead, hother, hrec, h.fit, e⟩
 ·refine Or.inr ⟨x, ⟨hok, hsiz, h.z2, h.u2, hup, hpe, h.n1, h.nN, h.top, hhead, hother, fun i hi => ?_, ?_, ?_⟩, hl, ht⟩
  ·rw [List.length_append, List.length_singleton] at hi
   rcases Nat.lt_or_ge i ls.length with h5 | h5
   ·rw [pos_append ls x (by omega), getD_app_lt h5]; exact hrec i h5
   ·obtain rfl : i = ls.length := by omega
    rw [pos_append ls x (Nat.le_refl _), getD_app_len]; exact e
  ·rw [pos_app_all, hl]; exact hm
  ·rw [pos_app_all, hl]
   refine stop_of ?_
   rcases Nat.lt_or_ge (pos ls ls.length + need (b.length : Int)) z with h5 | h5
   ·right; rw [hsame _ (by omega)]; exact h.rest _ (by omega) h5
   ·left; omega
end Hv
end Go.Proofs.YtdokojlgcplefaaDoor
