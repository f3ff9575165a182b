/- Layer 5: what is seen on a disk behind deeds; heads and records are found again; Records. -/
import Derived.Test.YtbllilokcalbcaaDoorMHv20
namespace Go.Proofs.YtbllilokcalbcaaDoor
open Go Go.RowKit
namespace Hd
open Dk
theorem last_append (i : Int) (p : Nat × List Nat) (ks : List (Nat × List Nat)) : last (ks ++ [p]) i = if (p.1 : Int) = i then some ks.length else last ks i := last_snoc ks p i
theorem puts_snoc (S : D) (ks : List (Nat × List Nat)) (p : Nat × List Nat) : puts S (ks ++ [p]) = put (puts S ks) p.1 p.2 := by simp [puts, List.foldl_append]
theorem puts_safe (S : D) (i : Nat) (ks : List (Nat × List Nat)) : (puts S ks).safe i = match last ks (i : Int) with | some k => ((ks[k]?).map (·.2)).getD [] | none => S.safe i := by
  suffices H : ∀ n (ks : List (Nat × List Nat)), ks.length = n → (puts S ks).safe i = match last ks (i : Int) with | some k => ((ks[k]?).map (·.2)).getD [] | none => S.safe i from H _ ks rfl
  intro n
  induction n with
  | zero => intro ks h; obtain rfl := List.eq_nil_of_length_eq_zero h; rfl
  | succ n ih =>
    intro ks h
    obtain ⟨ks', p, rfl⟩ : ∃ ks' p, ks = ks' ++ [p] := ⟨ks.dropLast, ks.getLast (by intro e; rw [e] at h; cases h), (List.dropLast_concat_getLast _).symm⟩
    have hl : ks'.length = n := by simpa using h
    have := ih ks' hl
    rw [puts_snoc, last_append]
    by_cases hp : p.1 = i
    · rw [if_pos (by omega)]
      show (if i = p.1 then p.2 else _) = _
      rw [if_pos hp.symm]
      simp
    · rw [if_neg (by omega)]
      show (if i = p.1 then p.2 else (puts S ks').safe i) = _
      rw [if_neg (fun e => hp e.symm), this]
      cases hk : last ks' (i : Int) with
      | none => rfl
      | some k =>
        obtain ⟨q, hq, _⟩ := last_some hk
        have hlt := (List.getElem?_eq_some_iff.1 hq).1
        simp only [List.getElem?_append_left hlt]
theorem all_seen (S : D) (i : Nat) : (puts S S.pend).safe i = Dk.seen S i := by rw [puts_safe]; unfold Dk.seen; rfl
end Hd
namespace Hv
theorem seen_pend (S : Dk.D) (ps : List (Nat × List Nat)) (p : Nat × List Nat) (i : Nat) : Dk.seen { S with pend := ps ++ [p] } i = if p.1 = i then p.2 else Dk.seen { S with pend := ps } i := by
  unfold Dk.seen
  simp only [Hd.last_append]
  by_cases h : p.1 = i
  · rw [if_pos (by omega), if_pos h]
    simp
  · rw [if_neg (by omega), if_neg h]
    cases hk : Dk.last ps (i : Int) with
    | none => rfl
    | some k =>
      obtain ⟨q, hq, _⟩ := Dk.last_some hk
      simp only [List.getElem?_append_left (List.getElem?_eq_some_iff.1 hq).1]
theorem seen_wrote {S : Dk.D} (h : Up S) (i j : Nat) (bs : List Nat) : Dk.seen (Dk.wrote S i bs) j = if i = j then padB bs else Dk.seen S j := by
  unfold Dk.wrote
  have hd : Dk.dead S = false := by simp [Dk.dead, h.2]
  rw [if_neg (by rw [h.1]; simp), if_neg (by rw [hd]; simp)]
  exact seen_pend (Dk.did S) S.pend (i, padB bs) j
theorem seen_syncs {S : Dk.D} (h : Up S) (j : Nat) : Dk.seen (Dk.syncs S) j = Dk.seen S j := by
  unfold Dk.syncs
  have hd : Dk.dead S = false := by simp [Dk.dead, h.2]
  rw [if_neg (by rw [h.1]; simp), if_neg (by rw [hd]; simp)]
  show (Dk.synced (Dk.did S)).safe j = _
  exact Hd.all_seen (Dk.did S) j
theorem seen_wipe {f : Nat} : ∀ {n i : Nat} {S : Dk.D} (_ : Up S) (j : Nat), Dk.seen (wipeN f i n S).2.2 j = if f + i ≤ j ∧ j < f + i + n then zs else Dk.seen S j
  | 0, i, S, h, j => by rw [if_neg (by omega)]; rfl
  | n + 1, i, S, h, j => by
    unfold Hv.wipeN
    split
    · rename_i hz
      rw [seen_wipe h j]
      by_cases h1 : f + i = j
      · subst h1
        rw [if_neg (by omega), if_pos (by omega), hz]
      · by_cases h2 : f + (i + 1) ≤ j ∧ j < f + (i + 1) + n
        · rw [if_pos h2, if_pos (by omega)]
        · rw [if_neg h2, if_neg (by omega)]
    · rw [if_pos h.done]
      show Dk.seen (wipeN f (i + 1) n (Dk.wrote S (f + i) [])).2.2 j = _
      rw [seen_wipe (h.wrote _ _) j, seen_wrote h]
      by_cases h1 : f + i = j
      · subst h1
        rw [if_neg (by omega), if_pos rfl, if_pos (by omega)]
        rfl
      · rw [if_neg h1]
        by_cases h2 : f + (i + 1) ≤ j ∧ j < f + (i + 1) + n
        · rw [if_pos h2, if_pos (by omega)]
        · rw [if_neg h2, if_neg (by omega)]
theorem padB_self {bs : List Nat} (h : bs.length = 32) : padB bs = bs := by simp [padB, h]
theorem seen_whole {S : Dk.D} (h : Up S) (f n j : Nat) : Dk.seen (wholeS f n S) j = if f = j then headB n 2 else Dk.seen S j := by
  unfold wholeS
  rw [seen_syncs (h.wrote _ _), seen_wrote h, padB_self (headB_len _ _)]
theorem seen_begun {S : Dk.D} (h : Up S) (f z n j : Nat) (hz : 1 ≤ z) : Dk.seen (begunS f z n S) j = if f + 1 ≤ j ∧ j < f + z then zs else if f = j then headB n 1 else Dk.seen S j := by
  unfold begunS
  have h1 := (h.wrote f (headB n 1)).syncs
  rw [seen_syncs h1.wipeN.2, seen_wipe h1, seen_syncs (h.wrote _ _), seen_wrote h, padB_self (headB_len _ _)]
  by_cases h2 : f + 1 ≤ j ∧ j < f + z
  · rw [if_pos h2, if_pos (by omega)]
  · rw [if_neg h2, if_neg (by omega)]
theorem Up.tail {S : Dk.D} (h : Up S) (f i n : Nat) : Up (tailS f i n S) ∧ (tailS f i n S).size = S.size := by
  unfold tailS
  split
  · exact ⟨h.wipeN.2.syncs, (syncs_nums _).1.trans wipeN_size⟩
  · exact ⟨h.wipeN.2, wipeN_size⟩
theorem seen_tail {S : Dk.D} (h : Up S) (f i n j : Nat) : Dk.seen (tailS f i n S) j = if f + i ≤ j ∧ j < f + i + n then zs else Dk.seen S j := by
  unfold tailS
  split
  · rw [seen_syncs h.wipeN.2, seen_wipe h]
  · exact seen_wipe h j
theorem putM_one {S : Dk.D} (h : Up S) (f m n p : Nat) (b : List Nat) (hb : need (b.length : Int) = 1) : (putM f m n p b S).2 = Dk.wrote S (f + m) ((recB n p b).take 32) := by
  unfold putM
  rw [hb]
  show (andM (wrM (f + (m + 0)) (((recB n p b).drop (32 * 0)).take 32)) _ S).2 = _
  rw [andM_yes (show (wrM (f + (m + 0)) _ S).1 = true from h.done)]
  rfl
theorem seen_laid_one {S : Dk.D} (h : Up S) (f m n p : Nat) (b : List Nat) (hb1 : 1 ≤ b.length) (hb2 : b.length ≤ 22) (j : Nat) : Dk.seen (laidS f m n p b S) j = if f + m = j then recB n p b else Dk.seen S j := by
  have hn : need (b.length : Int) = 1 := by rw [need_of hb1 (by omega)]; omega
  have hl : (recB n p b).length = 32 := by rw [recB_len hb1 (by omega), hn]
  unfold laidS
  rw [seen_syncs h.put.2.1, putM_one h f m n p b hn, seen_wrote h, List.take_of_length_le (by omega), padB_self hl]
theorem step_num {c k m n : Nat} {r : List Nat} (h1 : c ≠ 111) (h2 : c ≠ 116) (hz : Oc.zs c = k) (hm : Oc.mostN c = m) (hn : n < 256 ^ k) (hnm : n ≤ m) : Oc.step c (Oc.nums k n ++ r) = .ok n [] k := by
  unfold Oc.step
  rw [if_neg h1, if_neg h2, hz, hm, if_neg (by rw [List.length_append, Oc.nums_len]; omega), List.take_left' (Oc.nums_len _ _), Oc.val_nums _ _ hn, if_neg (by omega)]
theorem headB_is (n s : Nat) : ∃ r, headB n s = Oc.nums 8 n ++ (Oc.nums 1 s ++ r) := by
  unfold headB padTo said1
  generalize List.replicate _ 0 = r0
  refine ⟨sum8 wHead [Oc.nums 8 n ++ Oc.nums 1 s].flatten ++ r0, ?_⟩
  simp
theorem headM_of {n s : Nat} (h1 : 1 ≤ n) (h2 : n ≤ top) (hs : s = 1 ∨ s = 2) : headM (headB n s) = (n, s) := by
  have ht : n ≤ 1099511627776 := h2
  obtain ⟨r, hr⟩ := headB_is n s
  have e1 : Oc.step 113 (headB n s) = .ok n [] 8 := by
    rw [hr]
    exact step_num (by decide) (by decide) (by rfl) (show Oc.mostN 113 = 4611686018427387903 by rfl) (by omega) (by omega)
  have e2 : Oc.step 98 ((headB n s).drop 8) = .ok s [] 1 := by
    rw [hr, List.drop_left' (Oc.nums_len _ _)]
    exact step_num (by decide) (by decide) (by rfl) (show Oc.mostN 98 = 255 by rfl) (by omega) (by omega)
  have e3 : Oc.reads [113, 98] (headB n s) = .ok [(n, []), (s, [])] 9 := by
    unfold Oc.reads
    simp only [List.foldl_cons, List.foldl_nil, Oc.Got.next, List.drop_zero, e1, List.nil_append, Nat.zero_add, e2]
    rfl
  unfold headM
  rw [e3]
  simp only
  rw [if_pos ⟨hs, h1, h2, by trivial⟩]
theorem headM_zs : headM zs = (0, 0) := by
  have e3 : Oc.reads [113, 98] zs = .ok [(0, []), (0, [])] 9 := by rfl
  unfold headM
  rw [e3]
  simp only
  rw [if_neg (by rintro ⟨h, _⟩; omega)]
theorem recB_is (n p : Nat) (b : List Nat) : ∃ r, recB n p b = [b.length / 256, b.length % 256] ++ (sum8 wRecord [said2 n p, b].flatten ++ (b ++ r)) := by
  unfold recB padTo
  generalize List.replicate _ 0 = r0
  refine ⟨r0, ?_⟩
  simp
theorem recB_lenOf (n p : Nat) (b : List Nat) : lenOf (recB n p b) = b.length := by
  obtain ⟨r, hr⟩ := recB_is n p b
  rw [hr]
  show b.length / 256 * 256 + b.length % 256 = _
  omega
theorem recB_body (n p : Nat) (b : List Nat) : ((recB n p b).drop 10).take b.length = b := by
  obtain ⟨r, hr⟩ := recB_is n p b
  rw [hr, show 10 = ([b.length / 256, b.length % 256] : List Nat).length + 8 by rfl, ← List.drop_drop, List.drop_left, List.drop_left' (sum8_len _ _), List.take_left]
theorem pos_small {ls : List (List Nat)} (h : ∀ i, i < ls.length → 1 ≤ (ls.getD i []).length ∧ (ls.getD i []).length ≤ 22) : ∀ i, i ≤ ls.length → pos ls i = 1 + i
  | 0, _ => rfl
  | i + 1, hi => by
    have h1 := h i (by omega)
    show pos ls i + need ((ls.getD i []).length : Int) = _
    rw [pos_small h i (by omega), need_of h1.1 (by omega)]
    omega
end Hv
/-- records of one sector each are read as they were laid -/
theorem reads_small {T : Dk.D} {f z n : Nat} {ls : List (List Nat)} (h : ∀ i, i < ls.length → 1 ≤ (ls.getD i []).length ∧ (ls.getD i []).length ≤ 22) (hz : 1 + ls.length ≤ z) (hf : f + z ≤ T.size) (hn : n ≤ Hv.top) (hz2 : z ≤ 100000)
    (hs : ∀ i, i < ls.length → Dk.seen T (f + (1 + i)) = Hv.recB n i (ls.getD i [])) (he : 1 + ls.length = z ∨ Dk.seen T (f + (1 + ls.length)) = Hv.zs) : Reads T f z n ls := by
  intro i hi B d k a w0 w hD hE ho
  rw [Hv.pos_small h i hi]
  by_cases hlt : i < ls.length
  · have h1 := h i hlt
    have hsi := hs i hlt
    have hb : Hv.need (Hv.lenOf (Dk.seen T (f + (1 + i))) : Int) = 1 := by rw [hsi, Hv.recB_lenOf, Hv.need_of h1.1 (by omega)]; omega
    have hrm : Hv.recordM T f z (1 + i) n i = ls[i]? := by
      unfold Hv.recordM
      rw [if_neg (by omega), hb, if_neg (by omega)]
      have e1 : Hv.sectors T (f + (1 + i)) 1 = Hv.recB n i (ls.getD i []) := by rw [← hsi]; simp [Hv.sectors]
      rw [e1, hsi, Hv.recB_lenOf, Hv.recB_body, if_pos rfl, List.getD, List.getElem?_eq_getElem hlt]
      rfl
    refine (hrecord_one f z (1 + i) n i w hD ho (by omega) hf hb a w0 hE hn (by omega)).mono ?_
    rw [hrm]
    rintro e w' ⟨hb, h⟩
    exact ⟨hb, h⟩
  · obtain rfl : i = ls.length := by omega
    rw [List.getElem?_eq_none (Nat.le_refl _)]
    rcases Nat.lt_or_ge (1 + ls.length) z with h2 | h2
    · have hs0 : Dk.seen T (f + (1 + ls.length)) = Hv.zs := by
        rcases he with he | he
        · omega
        · exact he
      refine (hrecord_bad f z (1 + ls.length) n ls.length w hD ho h2 hf (Or.inl (by rw [hs0]; rfl))).mono ?_
      rintro e w' ⟨h1, h2⟩
      exact ⟨h2, .inl ⟨rfl, h1⟩⟩
    · refine (hrecord_out f z (1 + ls.length) n ls.length w h2).mono ?_
      rintro e w' ⟨h1, h2⟩
      exact ⟨h2, .inl ⟨rfl, h1⟩⟩
section
variable {B l d z u n m : Nat} {dead : Bool} {ls : List (List Nat)} {v : Value} {us : List Value}
theorem lrecords_any (w : World) (hL : LogAt B w l d z u n v m dead) (hR : Recs B w v us ls) (hn : ls.length ≤ 100000) (hz : ∀ l ∈ ls, l.length ≤ 100000) :
    Calls Tryd.prog 16 #[.pointer (some ⟨l, 0, none⟩)] w fun e w' => ∃ v', e = .returned v' ∧ (∃ us, Recs w.heap.size w' v' us ls) ∧ Below w.heap.size w w' := by
  have p8 : w.cell? ⟨l, 8, none⟩ = some v := hL.blk.cell 8
  have CC := copies_any v us ls w hR.rdLL hn hz
  obtain ⟨A, c, rfl⟩ := row_slice hR.row
  clear hL hR
  go_enter Tryd.func16, Tryd.ntmps16
  go_wp2_with fail
  go_at_call 34
  refine CC.mono ?_
  rintro e w' ⟨v', rfl, h2, h3⟩
  have H2 := Lib.hid h2
  have H3 := Lib.hid h3
  clear h2 h3 CC p8
  go_wp2_with fail
  go_ret
  exact ⟨_, rfl, H2.out, H3.out⟩
end
end Go.Proofs.YtbllilokcalbcaaDoor
/- Layer 5: the chapter's example. -/
namespace Go.Proofs.YtbllilokcalbcaaDoor
open Go Go.RowKit
namespace Hv
def al1 : Dk.D := tailS 0 1 9 (wholeS 0 1 (begunS 0 10 1 (fresh 20)))
def al2 : Dk.D := laidS 0 1 1 0 [97] al1
def al3 : Dk.D := laidS 0 2 1 1 [98] al2
def al4 : Dk.D := tailS 0 3 7 al3
theorem up_fresh (n : Nat) : Up (fresh n) := ⟨rfl, rfl⟩
theorem seen_fresh (n j : Nat) : Dk.seen (fresh n) j = zs := rfl
theorem al0_up : Up (wholeS 0 1 (begunS 0 10 1 (fresh 20))) := (up_fresh 20).begin.2.finish.2
theorem al1_up : Up al1 := (al0_up.tail 0 1 9).1
theorem al2_up : Up al2 := al1_up.laid.1
theorem al3_up : Up al3 := al2_up.laid.1
theorem al0_size : (wholeS 0 1 (begunS 0 10 1 (fresh 20))).size = 20 := by rw [wholeS_size, begunS_size]; rfl
theorem al1_size : al1.size = 20 := (al0_up.tail 0 1 9).2.trans al0_size
theorem al2_size : al2.size = 20 := al1_up.laid.2.trans al1_size
theorem al3_size : al3.size = 20 := al2_up.laid.2.trans al2_size
theorem al0_seen (j : Nat) : Dk.seen (wholeS 0 1 (begunS 0 10 1 (fresh 20))) j = if 0 = j then headB 1 2 else zs := by
  rw [seen_whole (up_fresh 20).begin.2]
  by_cases h : 0 = j
  · rw [if_pos h, if_pos h]
  · rw [if_neg h, if_neg h, seen_begun (up_fresh 20) _ _ _ _ (by omega), seen_fresh, if_neg h]
    split <;> rfl
theorem al1_seen (j : Nat) : Dk.seen al1 j = if 0 = j then headB 1 2 else zs := by
  unfold al1
  rw [seen_tail al0_up, al0_seen]
  by_cases h : 0 + 1 ≤ j ∧ j < 0 + 1 + 9
  · rw [if_pos h, if_neg (by omega)]
  · rw [if_neg h]
theorem al3_seen (j : Nat) : Dk.seen al3 j = if 2 = j then recB 1 1 [98] else if 1 = j then recB 1 0 [97] else if 0 = j then headB 1 2 else zs := by
  unfold al3
  rw [seen_laid_one al2_up _ _ _ _ _ (by decide) (by decide), Nat.zero_add]
  unfold al2
  rw [seen_laid_one al1_up _ _ _ _ _ (by decide) (by decide), Nat.zero_add, al1_seen]
end Hv
section
variable {B d : Nat}
theorem al_open1 (a : Nat → Addr) (w0 : World) (l : Nat) (w : World) (hL : LogAt B w l d 10 0 0 (.slice none 0 0) 0 false) (hD : DkX B w d (fresh 20) 0) (hE : Env B a w0 w) :
    Calls Tryd.prog 27 #[.pointer (some ⟨l, 0, none⟩)] w fun e w' => e = .returned (.tuple #[]) ∧ (∃ v, LogAt B w' l d 10 0 1 v 1 false ∧ (∃ us, Recs B w' v us [])) ∧ DkX B w' d Hv.al1 30 ∧ LFr B l w w' :=
  open_new a w0 w hL hD (Hv.up_fresh 20) (by omega) (by show 10 + 10 ≤ 20; omega) (by omega) hE (fun _ => (0, 0)) (by rw [Hv.seen_fresh]; exact Hv.headM_zs) (by rw [Hv.seen_fresh]; exact Hv.headM_zs) (by rfl) 1 (by rfl) (by decide) _ rfl [] (by simp) (by simp) (by intro i hi; obtain rfl : i = 0 := (by simpa using hi); decide) 1 rfl (by omega)
    (reads_small (by simp) (by simp) (by rw [Hv.al0_size]; omega) (by decide) (by omega) (by simp) (Or.inr (by rw [Hv.al0_seen]; rfl)))
theorem al_open2 (a : Nat → Addr) (w0 : World) (l : Nat) (w : World) (hL : LogAt B w l d 10 0 0 (.slice none 0 0) 0 false) (hD : DkX B w d Hv.al3 34) (hE : Env B a w0 w) :
    Calls Tryd.prog 27 #[.pointer (some ⟨l, 0, none⟩)] w fun e w' => e = .returned (.tuple #[]) ∧ (∃ v, LogAt B w' l d 10 0 1 v 3 false ∧ (∃ us, Recs B w' v us [[97], [98]])) ∧ DkX B w' d Hv.al4 64 ∧ LFr B l w w' :=
  open_h0 a w0 w hL hD Hv.al3_up (by omega) (by rw [Hv.al3_size]; omega) (by omega) hE (fun i => if i = 0 then (1, 2) else (0, 0)) (by rw [Hv.al3_seen]; exact Hv.headM_of (by omega) (by decide) (Or.inr rfl)) (by rw [Hv.al3_seen]; exact Hv.headM_zs) 1 (by rfl) (by omega) (by decide) _ rfl [[97], [98]] (by simp) (by
      intro i
      rcases i with _ | _ | i <;> simp [List.getD]) (by
      intro i hi
      simp at hi
      obtain rfl | rfl | rfl : i = 0 ∨ i = 1 ∨ i = 2 := by omega
      all_goals decide) 3 rfl (by omega)
    (reads_small (by
      intro i hi
      simp at hi
      obtain rfl | rfl : i = 0 ∨ i = 1 := by omega
      all_goals decide) (by simp) (by rw [Hv.al3_size]; omega) (by decide) (by omega) (by
      intro i hi
      simp at hi
      obtain rfl | rfl : i = 0 ∨ i = 1 := by omega
      · rw [Hv.al3_seen]; rfl
      · rw [Hv.al3_seen]; rfl) (Or.inr (by rw [Hv.al3_seen]; rfl)))
end
theorem rd_litc (w : World) (x : Nat) : ∀ (B : Nat) (w' : World), TFr B (w.alloc (.cells #[.int .u8 (x : Int)] 5 (1, 2))) w' → Rd w' (.slice (some ⟨w.heap.size, 0, none⟩) 1 1) [x] := fun B w' ht => by
  have hk := ht.rows w.heap.size 5 #[.int .u8 (x : Int)] (1, 2) (by rw [heap_alloc_new]) (by decide) (by decide)
  exact ⟨_, 1, rfl, Nat.le_refl _, fun _ => ⟨w.heap.size, 0, rfl, (Array.getElem?_eq_some_iff.1 hk).1, fun i hi => by
    obtain rfl : i = 0 := (by simpa using hi)
    rw [cell_of_row _ _ _ _ _ _ hk]
    rfl⟩⟩
set_option maxRecDepth 100000 in
set_option maxHeartbeats 1000000 in
theorem halive_any (a : Nat → Addr) (w : World) (hS : HSents w a) (hT : Tabs w) : Calls Tryd.prog 6 #[] w fun e w' => e = .returned (.bool true) ∧ Below w.heap.size w w' := by
  have HE0 : Hid (∀ w', Below w.heap.size w w' → Env w.heap.size a w w') := Lib.hid (fun w' hb => ⟨hS, hT, Nat.le_refl _, hb⟩)
  go_enter Tryd.func6, Tryd.ntmps6
  go_wp2_with fail
  go_at_call 8
  refine (dk_new 20 w (by omega) (by omega)).mono ?_
  rintro e w1 ⟨d, ms, ml, rfl, hd, hb⟩
  have HD1 : Hid (DkX w.heap.size w1 d (fresh 20) 0) := Lib.hid ⟨ms, ml, _, hd⟩
  have HE1 := Lib.hid (HE0.out w1 hb)
  clear hd hb HE0
  go_wp2_with fail
  go_at_call 9
  refine (Open_any (z := 10) a w w1 HD1.out HE1.out rfl (by decide) (fun l w' h1 h2 h3 => al_open1 a w l w' h1 h2 h3)).mono ?_
  rintro e w2 ⟨l, rfl, h2, ht2, _⟩
  have HL2 := Lib.hid h2
  have HE2 := Lib.hid (HE1.out.tfr ht2)
  have kc := fun (w : World) (C : Array Value) (n c : Nat) => Lib.run_convert_bytes_const (P := Tryd.prog) w 39 5 C n c Tryd.underlying39 Tryd.underlying5
  obtain ⟨⟨v2, hl2, us2, hr2⟩, hd2⟩ := HL2.out
  have HBA : Hid (Below w2.heap.size w2 (w2.alloc (.cells #[.int .u8 97] 5 (1, 2)))) := Lib.hid (below_al w2 _)
  have CA := append_0 a w (w2.alloc (.cells #[.int .u8 97] 5 (1, 2))) 1 1 v2 us2 [] (hl2.below HBA.out) (hr2.below HBA.out) (hd2.below HBA.out) Hv.al1_up (by omega) (by rw [Hv.al1_size]; omega) (by omega) (HE2.out.below HBA.out) (by decide) (by simp) (some ⟨w2.heap.size, 0, none⟩) 1 1 1 [97] rfl (by omega) (by omega) (rd_litc w2 97 _) (byte_of (show ∀ x ∈ [97], x < 256 by decide)) rfl (by omega)
  clear h2 ht2 hl2 hr2 hd2
  go_wp2_with fail
  go_at_call 12
  refine CA.mono ?_
  rintro e w3 ⟨rfl, h3, hf3⟩
  have HL3 : Hid (LogsAt w.heap.size w3 l d 10 0 1 2 false [[97]] Hv.al2 32) := Lib.hid h3
  have HE3 := Lib.hid ((HE2.out.below HBA.out).afr hf3)
  obtain ⟨⟨v3, hl3, us3, hr3⟩, hd3⟩ := HL3.out
  have HBB : Hid (Below w3.heap.size w3 (w3.alloc (.cells #[.int .u8 98] 5 (1, 2)))) := Lib.hid (below_al w3 _)
  have CB := append_0 a w (w3.alloc (.cells #[.int .u8 98] 5 (1, 2))) 1 2 v3 us3 [[97]] (hl3.below HBB.out) (hr3.below HBB.out) (hd3.below HBB.out) Hv.al2_up (by omega) (by rw [Hv.al2_size]; omega) (by omega) (HE3.out.below HBB.out) (by decide) (by simp) (some ⟨w3.heap.size, 0, none⟩) 1 1 1 [98] rfl (by omega) (by omega) (rd_litc w3 98 _) (byte_of (show ∀ x ∈ [98], x < 256 by decide)) rfl (by omega)
  clear h3 hf3 hl3 hr3 hd3 CA HL2
  go_wp2_with fail
  go_at_call 12
  refine CB.mono ?_
  rintro e w4 ⟨rfl, h4, hf4⟩
  have HL4 : Hid (LogsAt w.heap.size w4 l d 10 0 1 3 false [[97], [98]] Hv.al3 34) := Lib.hid h4
  have HE4 := Lib.hid ((HE3.out.below HBB.out).afr hf4)
  clear h4 hf4 CB HL3
  go_wp2_with fail
  go_at_call 9
  refine (Open_any (z := 10) a w w4 HL4.out.2 HE4.out (by rw [Hv.al3_size]) (by rw [Hv.al3_size]; omega) (fun l w' h1 h2 h3 => al_open2 a w l w' h1 h2 h3)).mono ?_
  rintro e w5 ⟨l2, rfl, h5, ht5, _⟩
  have HE5 := Lib.hid (HE4.out.tfr ht5)
  obtain ⟨⟨v5, hl5, us5, hr5⟩, hd5⟩ := h5
  have CR := lrecords_any w5 hl5 hr5 (by simp) (by simp)
  clear ht5 hl5 hr5 hd5 HL4
  go_wp2_with fail
  go_at_call 16
  refine CR.mono ?_
  rintro e w6 ⟨v6, rfl, ⟨us6, hr6⟩, hb6⟩
  have HE6 := Lib.hid (HE5.out.below hb6)
  have HR6 := Lib.hid hr6
  obtain ⟨A6, c6, rfl⟩ := row_slice hr6.row
  obtain ⟨wx, hwx⟩ : ∃ wx, wx = ((w6.alloc (.cells #[.int .u8 97] 5 (1, 2))).alloc (.cells #[.int .u8 98] 5 (1, 2))).alloc (.cells #[.slice (some ⟨w6.heap.size, 0, none⟩) 1 1, .slice (some ⟨w6.heap.size + 1, 0, none⟩) 1 1] 39) := ⟨_, rfl⟩
  have hbx : Below w6.heap.size w6 wx := by rw [hwx]; exact ((below_al w6 _).alloc (by simp) _).alloc (by simp; omega) _
  have HB8 := Lib.hid (HE6.out.bel.trans (hbx.mono HE6.out.bel.size))
  have hk0 : wx.heap[w6.heap.size]? = some (.cells #[.int .u8 97] 5 (1, 2)) := by rw [hwx, heap_alloc_old _ _ (by simp; omega), heap_alloc_old _ _ (by simp), heap_alloc_new]
  have hk1 : wx.heap[w6.heap.size + 1]? = some (.cells #[.int .u8 98] 5 (1, 2)) := by
    rw [hwx, heap_alloc_old _ _ (by simp), show w6.heap.size + 1 = (w6.alloc (.cells #[.int .u8 97] 5 (1, 2))).heap.size by simp, heap_alloc_new]
  have hk2 : Blk wx (w6.heap.size + 1 + 1) 39 #[.slice (some ⟨w6.heap.size, 0, none⟩) 1 1, .slice (some ⟨w6.heap.size + 1, 0, none⟩) 1 1] := by
    show wx.heap[w6.heap.size + 1 + 1]? = _
    rw [hwx, show w6.heap.size + 1 + 1 = ((w6.alloc (.cells #[.int .u8 97] 5 (1, 2))).alloc (.cells #[.int .u8 98] 5 (1, 2))).heap.size by simp, heap_alloc_new]
  have hrl : ∀ g x, wx.heap[g]? = some (.cells #[.int .u8 (x : Int)] 5 (1, 2)) → Rd wx (.slice (some ⟨g, 0, none⟩) 1 1) [x] := fun g x hk =>
    ⟨_, 1, rfl, Nat.le_refl _, fun _ => ⟨g, 0, rfl, (Array.getElem?_eq_some_iff.1 hk).1, fun i hi => by
      obtain rfl : i = 0 := (by simpa using hi)
      rw [cell_of_row _ _ _ _ _ _ hk]
      rfl⟩⟩
  have hll : RdLL wx (.slice (some ⟨w6.heap.size + 1 + 1, 0, none⟩) 2 2) [.slice (some ⟨w6.heap.size, 0, none⟩) 1 1, .slice (some ⟨w6.heap.size + 1, 0, none⟩) 1 1] [[97], [98]] := by
    refine ⟨_, 2, rfl, Nat.le_refl _, rfl, fun _ => ⟨_, 0, rfl, hk2.lt, fun i u hu => ?_⟩, fun i u hu => ?_⟩
    · rw [Nat.zero_add]
      refine (hk2.cell i).trans ?_
      rcases i with _ | _ | i <;> simp at hu ⊢ <;> exact hu
    · rcases i with _ | _ | i
      · simp at hu; subst hu; exact hrl _ 97 hk0
      · simp at hu; subst hu; exact hrl _ 98 hk1
      · simp at hu
  have CL := sameLists_yes _ _ us6 _ [[97], [98]] wx (hr6.rdLL.below hbx (Nat.le_refl _)) hll (by simp)
  have HWX := Lib.hid hwx
  have k2 := kc (w6.alloc (.cells #[.int .u8 97] 5 (1, 2))) #[.int .u8 98] 1 1
  rw [show (w6.alloc (.cells #[Value.int .u8 97] 5 (1, 2))).heap.size = w6.heap.size + 1 from by simp] at k2
  clear hr6 hb6 CR hwx hbx hk0 hk1 hk2 hrl hll
  go_wp2_with fail
  rw [← HWX.out]
  go_at_call 15
  refine CL.mono ?_
  rintro e w9 ⟨rfl, j, rfl⟩
  have HB9 := Lib.hid (below_drewN HB8.out j)
  clear CL
  go_wp2_with fail
  go_ret
  exact ⟨rfl, HB9.out⟩
end Go.Proofs.YtbllilokcalbcaaDoor
