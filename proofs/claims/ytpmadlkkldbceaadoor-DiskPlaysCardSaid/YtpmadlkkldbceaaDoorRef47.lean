/- Both disks' calls, each with one answer: the number of its error, and what the disk is behind it; how the two stand apart. -/
import Derived.Test.YtpmadlkkldbceaaDoorRef46
import Derived.Test.YtpmadlkkldbceaaDoorNum
namespace Go.Proofs.YtpmadlkkldbceaaDoor
open Go Go.RowKit
namespace Dk
def wcode (S : D) (i : Int) (n : Nat) : Nat := if S.off then 16 else if 0 ≤ i ∧ i < (S.size : Int) then (if n ≤ 32 then (if dead S then 16 else 0) else 3) else 1
def wst (S : D) (i : Int) (bs : List Nat) : D := if S.off then S else if 0 ≤ i ∧ i < (S.size : Int) then (if bs.length ≤ 32 then wrote S i.toNat bs else S) else S
def scode (S : D) : Nat := if done S then 0 else 16
def acode (S : D) (n : Int) : Nat := if n < 0 then 1 else if S.off then 16 else 0
def ast (S : D) (n : Int) : D := if n < 0 then S else if S.off then S else { S with armed := true, left := n.toNat }
def cst (S : D) (ts : List Bool) : D := crashed S (keptTo S.pend ts S.pend.length)
theorem wcode_le (S : D) (i : Int) (n : Nat) : wcode S i n ≤ 22 := by unfold wcode; split <;> (try split) <;> (try split) <;> (try split) <;> omega
theorem scode_le (S : D) : scode S ≤ 22 := by unfold scode; split <;> omega
theorem acode_le (S : D) (n : Int) : acode S n ≤ 22 := by unfold acode; split <;> (try split) <;> omega
end Dk
/-- the error of a number -/
def errv (a : Nat → Addr) : Nat → Value
  | 0 => .nilIface
  | k + 1 => ev (a k)
theorem er_errv (b : Bool) (a : Nat → Addr) : er b (a 15) = errv a (if b then 0 else 16) := by cases b <;> rfl
theorem num_errv (k : Nat) (hk : k ≤ 22) (a : Nat → Addr) (w : World) (hs : Sents w a) :
    Calls Tryd.prog 9 #[errv a k] w fun e w' => e = .returned (.int .i64 (k : Int)) ∧ Below w.heap.size w w' := by
  match k with
  | 0 => exact (num_nil w).mono fun e w' ⟨h1, h2⟩ => by subst h2; exact ⟨h1, Below.refl _ _⟩
  | k + 1 => exact num_any k (by omega) a w hs
section
variable {B : Nat} {w w' : World} {d ms ml k : Nat} {S : Dk.D} {v : Value}
theorem dkw_any (i : Int) (A : Option Addr) (n c : Nat) (bs : List Nat) (a : Nat → Addr) (w : World) (h : DkAt B w d S ms ml v k) (hv : RdB w d (.slice A n c) bs) (hb : Sha.Byte bs) (hk : k < 1000000) (hS : Sents w a) (hne : ∀ j, j < 22 → d ≠ sgs.getD j 0) :
    Calls Tryd.prog 11 #[.pointer (some ⟨d, 0, none⟩), .int .i64 i, .slice A n c] w fun e w' => e = .returned (errv a (Dk.wcode S i n)) ∧ (∃ v', DkAt B w' d (Dk.wst S i bs) ms ml v' (k + 1)) ∧ Fr w w' d ms ml v := by
  have hmono := h.mono (Nat.le_succ k)
  have hnl : bs.length = n := by obtain ⟨_, _, e, _⟩ := hv; injection e with _ e _; exact e.symm
  have hD : w.cell? ⟨15, 0, none⟩ = some (ev (a 15)) := (hS 15 (by omega)).var
  have hR : w.cell? ⟨0, 0, none⟩ = some (ev (a 0)) := (hS 0 (by omega)).var
  have hL : w.cell? ⟨2, 0, none⟩ = some (ev (a 2)) := (hS 2 (by omega)).var
  have hAt := h
  obtain ⟨⟨c1, c2, fS, h1, h2, h3⟩, h4, h5⟩ := h
  by_cases ho : S.off = true
  · have e1 : Dk.wcode S i n = 16 := by unfold Dk.wcode; rw [if_pos ho]
    have e2 : Dk.wst S i bs = S := by unfold Dk.wst; rw [if_pos ho]
    rw [e1, e2]
    exact (write_off i _ (a 15) w h1 ho hD).mono fun e w' ⟨he, hw⟩ => by subst hw; exact ⟨he, ⟨v, hmono⟩, Fr.refl⟩
  · have ho' : S.off = false := by simpa using ho
    by_cases hi : 0 ≤ i ∧ i < (S.size : Int)
    · obtain ⟨j, rfl⟩ : ∃ j : Nat, i = j := ⟨i.toNat, by omega⟩
      by_cases hn : n ≤ 32
      · have e1 : Dk.wcode S (j : Int) n = if Dk.done S then 0 else 16 := by
          unfold Dk.wcode Dk.done
          rw [if_neg ho, if_pos hi, if_pos hn, ho']
          cases Dk.dead S <;> rfl
        have e2 : Dk.wst S (j : Int) bs = Dk.wrote S j bs := by unfold Dk.wst; rw [if_neg ho, if_pos hi, if_pos (by omega)]; rfl
        rw [e1, e2, ← er_errv]
        exact dk_write j A n c bs (a 15) w hAt (by omega) hn hv hb hk hD (hne 15 (by omega))
      · have e1 : Dk.wcode S (j : Int) n = 3 := by unfold Dk.wcode; rw [if_neg ho, if_pos hi, if_neg hn]
        have e2 : Dk.wst S (j : Int) bs = S := by unfold Dk.wst; rw [if_neg ho, if_pos hi, if_neg (by omega)]
        rw [e1, e2]
        exact (write_long j A n c (a 2) w h1 ho' (by omega) (by omega) hL).mono fun e w' ⟨he, hw⟩ => by subst hw; exact ⟨he, ⟨v, hmono⟩, Fr.refl⟩
    · have e1 : Dk.wcode S i n = 1 := by unfold Dk.wcode; rw [if_neg ho, if_neg hi]
      have e2 : Dk.wst S i bs = S := by unfold Dk.wst; rw [if_neg ho, if_neg hi]
      rw [e1, e2]
      exact (write_no i _ (a 0) w h1 ho' hi hR).mono fun e w' ⟨he, hw⟩ => by subst hw; exact ⟨he, ⟨v, hmono⟩, Fr.refl⟩
theorem dks_any (a : Nat → Addr) (w : World) (h : DkAt B w d S ms ml v k) (hk : k < 1000000) (hS : Sents w a) (hne : ∀ j, j < 22 → d ≠ sgs.getD j 0) :
    Calls Tryd.prog 14 #[.pointer (some ⟨d, 0, none⟩)] w fun e w' => e = .returned (errv a (Dk.scode S)) ∧ (∃ v', DkAt B w' d (Dk.syncs S) ms ml v' (k + 1)) ∧ ∀ u, Fr w w' d ms ml u := by
  unfold Dk.scode
  rw [← er_errv]
  exact dk_sync (a 15) w h hk (hS 15 (by omega)).var (hne 15 (by omega))
theorem dka_any (n : Int) (a : Nat → Addr) (w : World) (h : DkAt B w d S ms ml v k) (hn : n ≤ 9223372036854775807) (hS : Sents w a) :
    Calls Tryd.prog 16 #[.pointer (some ⟨d, 0, none⟩), .int .i64 n] w fun e w' => e = .returned (errv a (Dk.acode S n)) ∧ DkAt B w' d (Dk.ast S n) ms ml v k ∧ ∀ u, Fr w w' d ms ml u := by
  have hD : w.cell? ⟨15, 0, none⟩ = some (ev (a 15)) := (hS 15 (by omega)).var
  have hR : w.cell? ⟨0, 0, none⟩ = some (ev (a 0)) := (hS 0 (by omega)).var
  by_cases h0 : n < 0
  · have e1 : Dk.acode S n = 1 := by unfold Dk.acode; rw [if_pos h0]
    have e2 : Dk.ast S n = S := by unfold Dk.ast; rw [if_pos h0]
    rw [e1, e2]
    exact (arm_neg n (a 0) w h0 hR).mono fun e w' ⟨he, hw⟩ => by subst hw; exact ⟨he, h, fun u => Fr.refl⟩
  · by_cases ho : S.off = true
    · have e1 : Dk.acode S n = 16 := by unfold Dk.acode; rw [if_neg h0, if_pos ho]
      have e2 : Dk.ast S n = S := by unfold Dk.ast; rw [if_neg h0, if_pos ho]
      rw [e1, e2]
      have h' := h
      obtain ⟨⟨c1, c2, fS, h1, h2, h3⟩, h4, h5⟩ := h
      exact (arm_off n (a 15) w h1 (by omega) ho hD).mono fun e w' ⟨he, hw⟩ => by subst hw; exact ⟨he, h', fun u => Fr.refl⟩
    · have e1 : Dk.acode S n = 0 := by unfold Dk.acode; rw [if_neg h0, if_neg ho]
      have e2 : Dk.ast S n = { S with armed := true, left := n.toNat } := by unfold Dk.ast; rw [if_neg h0, if_neg ho]
      rw [e1, e2]
      obtain ⟨j, rfl⟩ : ∃ j : Nat, n = j := ⟨n.toNat, by omega⟩
      exact dk_arm j w h (by simpa using ho) (by omega)
theorem dkc_any (A : Option Addr) (n c : Nat) (ts : List Bool) (w : World) (h : DkAt B w d S ms ml v k) (hn : ts.length = n) (hr : RdT w A ts) (hk : k ≤ 1000000) :
    Calls Tryd.prog 18 #[.pointer (some ⟨d, 0, none⟩), .slice A n c] w fun e w' => e = .returned (.int .i64 ((keptTo S.pend ts S.pend.length).length : Int)) ∧ (∃ v', DkAt B w' d (Dk.cst S ts) ms ml v' k) ∧ ∀ u, Fr w w' d ms ml u := dk_crash A n c ts w h hn hr hk
end
section
variable {B BB : Nat} {w w' : World} {r : Nat} {S : Dk.D} {vS vA vB : Value} {us ub : List Value}
theorem rfr_box (hg : w.grownBy w' (some r)) : RFr w w' (RX r vS vA vB) := RFr.of hg fun g e => Or.inl (by injection e with e; exact e.symm)
theorem refw_any (i : Int) (A : Option Addr) (n c : Nat) (bs : List Nat) (w : World) (h : RefAt B BB w r S vS vA vB us ub) (hk : S.deeds + 1 ≤ 1000000) (hfew : S.pend.length < 1000000) (hv : RdB w r (.slice A n c) bs) (hb : Sha.Byte bs) :
    Calls Tryd.prog 12 #[.pointer (some ⟨r, 0, none⟩), .int .i64 i, .slice A n c] w fun e w' => e = .returned (.int .i64 (Dk.wcode S i n : Nat)) ∧ (∃ vA' vB' ub', RefAt B BB w' r (Dk.wst S i bs) vS vA' vB' us ub') ∧ RFr w w' (RX r vS vA vB) := by
  have hnl : bs.length = n := by obtain ⟨_, _, e, _⟩ := hv; injection e with _ e _; exact e.symm
  by_cases ho : S.off = true
  · have e1 : Dk.wcode S i n = 16 := by unfold Dk.wcode; rw [if_pos ho]
    have e2 : Dk.wst S i bs = S := by unfold Dk.wst; rw [if_pos ho]
    rw [e1, e2]
    exact (refwrite_off i _ w h ho).mono fun e w' ⟨he, hw⟩ => by subst hw; exact ⟨he, ⟨_, _, _, h⟩, RFr.refl⟩
  · have ho' : S.off = false := by simpa using ho
    by_cases hi : 0 ≤ i ∧ i < (S.size : Int)
    · obtain ⟨j, rfl⟩ : ∃ j : Nat, i = j := ⟨i.toNat, by omega⟩
      by_cases hn : n ≤ 32
      · have e2 : Dk.wst S (j : Int) bs = Dk.wrote S j bs := by unfold Dk.wst; rw [if_neg ho, if_pos hi, if_pos (by omega)]; rfl
        cases hz : Dk.dead S with
        | true =>
          have e1 : Dk.wcode S (j : Int) n = 16 := by unfold Dk.wcode; rw [if_neg ho, if_pos hi, if_pos hn, hz]; rfl
          have e3 : Dk.wrote S j bs = { S with off := true } := by unfold Dk.wrote; rw [ho', hz]; rfl
          rw [e1, e2, e3]
          exact (refwrite_dead j A n c w h ho' (by omega) hn hz).mono fun e w' ⟨he, hw, hg⟩ => ⟨he, ⟨_, _, _, hw⟩, rfr_box hg⟩
        | false =>
          have e1 : Dk.wcode S (j : Int) n = 0 := by unfold Dk.wcode; rw [if_neg ho, if_pos hi, if_pos hn, hz]; rfl
          have e3 : Dk.wrote S j bs = Dk.wr (Dk.did S) j bs := by unfold Dk.wrote; rw [ho', hz]; rfl
          rw [e1, e2, e3]
          exact refwrite_ok j A n c bs w h (Nat.le_trans h.bb.1 h.bb.2) ho' (by omega) hn hz hk hfew hv hb
      · have e1 : Dk.wcode S (j : Int) n = 3 := by unfold Dk.wcode; rw [if_neg ho, if_pos hi, if_neg hn]
        have e2 : Dk.wst S (j : Int) bs = S := by unfold Dk.wst; rw [if_neg ho, if_pos hi, if_neg (by omega)]
        rw [e1, e2]
        exact (refwrite_long j A n c w h ho' (by omega) (by omega)).mono fun e w' ⟨he, hw⟩ => by subst hw; exact ⟨he, ⟨_, _, _, h⟩, RFr.refl⟩
    · have e1 : Dk.wcode S i n = 1 := by unfold Dk.wcode; rw [if_neg ho, if_neg hi]
      have e2 : Dk.wst S i bs = S := by unfold Dk.wst; rw [if_neg ho, if_neg hi]
      rw [e1, e2]
      exact (refwrite_no i _ w h ho' hi).mono fun e w' ⟨he, hw⟩ => by subst hw; exact ⟨he, ⟨_, _, _, h⟩, RFr.refl⟩
theorem refs_any (w : World) (h : RefAt B BB w r S vS vA vB us ub) (hk : S.deeds + 1 ≤ 1000000) :
    Calls Tryd.prog 15 #[.pointer (some ⟨r, 0, none⟩)] w fun e w' => e = .returned (.int .i64 (Dk.scode S : Nat)) ∧ (∃ vA' vB' us' ub', RefAt B BB w' r (Dk.syncs S) vS vA' vB' us' ub') ∧ RFr w w' (RX r vS vA vB) := by
  cases ho : S.off with
  | true =>
    have e1 : Dk.scode S = 16 := by unfold Dk.scode Dk.done; rw [ho]; rfl
    have e2 : Dk.syncs S = S := by unfold Dk.syncs; rw [ho]; rfl
    rw [e1, e2]
    exact (refsync_off w h ho).mono fun e w' ⟨he, hw⟩ => by subst hw; exact ⟨he, ⟨_, _, _, _, h⟩, RFr.refl⟩
  | false =>
    cases hz : Dk.dead S with
    | true =>
      have e1 : Dk.scode S = 16 := by unfold Dk.scode Dk.done; rw [ho, hz]; rfl
      have e2 : Dk.syncs S = { S with off := true } := by unfold Dk.syncs; rw [ho, hz]; rfl
      rw [e1, e2]
      exact (refsync_dead w h ho hz).mono fun e w' ⟨he, hw, hg⟩ => ⟨he, ⟨_, _, _, _, hw⟩, rfr_box hg⟩
    | false =>
      have e1 : Dk.scode S = 0 := by unfold Dk.scode Dk.done; rw [ho, hz]; rfl
      have e2 : Dk.syncs S = Dk.synced (Dk.did S) := by unfold Dk.syncs; rw [ho, hz]; rfl
      rw [e1, e2]
      exact (refsync_ok w h ho hz hk).mono fun e w' ⟨he, ⟨us', hw⟩, hg⟩ => ⟨he, ⟨_, _, _, _, hw⟩, hg⟩
theorem refa_any (n : Int) (w : World) (h : RefAt B BB w r S vS vA vB us ub) (hn : n ≤ 9223372036854775807) :
    Calls Tryd.prog 17 #[.pointer (some ⟨r, 0, none⟩), .int .i64 n] w fun e w' => e = .returned (.int .i64 (Dk.acode S n : Nat)) ∧ RefAt B BB w' r (Dk.ast S n) vS vA vB us ub ∧ RFr w w' (RX r vS vA vB) := by
  by_cases h0 : n < 0
  · have e1 : Dk.acode S n = 1 := by unfold Dk.acode; rw [if_pos h0]
    have e2 : Dk.ast S n = S := by unfold Dk.ast; rw [if_pos h0]
    rw [e1, e2]
    exact (refarm_neg n w h0).mono fun e w' ⟨he, hw⟩ => by subst hw; exact ⟨he, h, RFr.refl⟩
  · by_cases ho : S.off = true
    · have e1 : Dk.acode S n = 16 := by unfold Dk.acode; rw [if_neg h0, if_pos ho]
      have e2 : Dk.ast S n = S := by unfold Dk.ast; rw [if_neg h0, if_pos ho]
      rw [e1, e2]
      exact (refarm_off n w h (by omega) ho).mono fun e w' ⟨he, hw⟩ => by subst hw; exact ⟨he, h, RFr.refl⟩
    · have e1 : Dk.acode S n = 0 := by unfold Dk.acode; rw [if_neg h0, if_neg ho]
      have e2 : Dk.ast S n = { S with armed := true, left := n.toNat } := by unfold Dk.ast; rw [if_neg h0, if_neg ho]
      rw [e1, e2]
      obtain ⟨j, rfl⟩ : ∃ j : Nat, n = j := ⟨n.toNat, by omega⟩
      exact (refarm_ok j w h (by simpa using ho) (by omega)).mono fun e w' ⟨he, hw, hg⟩ => ⟨he, hw, rfr_box hg⟩
theorem refc_any (A : Option Addr) (n c : Nat) (ts : List Bool) (w : World) (h : RefAt B BB w r S vS vA vB us ub) (hn : ts.length = n) (hr : RdT w A ts) (hlow : 0 < ts.length → ∀ ad, A = some ad → ad.block < B) :
    Calls Tryd.prog 19 #[.pointer (some ⟨r, 0, none⟩), .slice A n c] w fun e w' => e = .returned (.int .i64 ((keptTo S.pend ts S.pend.length).length : Int)) ∧ (∃ vA' vB' us' ub', RefAt B BB w' r (Dk.cst S ts) vS vA' vB' us' ub') ∧ RFr w w' (RX r vS vA vB) :=
  (refcrash_any A n c ts w h hn hr hlow).mono fun e w' ⟨he, ⟨us', hw⟩, hg⟩ => ⟨he, ⟨_, _, _, _, hw⟩, hg⟩
/-! the two stand apart -/
theorem rx_rows (h : RefAt B BB w r S vS vA vB us ub) {b : Nat} (hb : RX r vS vA vB b) : ∃ cs t, w.heap[b]? = some (Obj.cells cs t (0, 0)) ∧ (t = 61 ∨ t = 32 ∨ t = 3) := by
  rcases hb with rfl | hb | hb | hb
  · exact ⟨_, _, h.blk, Or.inl rfl⟩
  · obtain ⟨cs, hc⟩ := own_row h.rowS hb; exact ⟨cs, _, hc, Or.inr (Or.inl rfl)⟩
  · obtain ⟨cs, hc⟩ := own_row h.rowA hb; exact ⟨cs, _, hc, Or.inr (Or.inr rfl)⟩
  · obtain ⟨cs, hc⟩ := own_row h.rowB hb; exact ⟨cs, _, hc, Or.inr (Or.inl rfl)⟩
theorem own_rowN {e s n : Nat} {u : Value} {xs : List Value} (h : w.ownsRow B e s u n xs) {g : Nat} (hg : u.ownBlock = some g) : ∃ cs, w.heap[g]? = some (.cells cs e (0, 0)) := by
  rcases h.2 with ⟨rfl, _⟩ | ⟨g', cap, cur, rfl, _, hh, _⟩
  · simp [Value.ownBlock] at hg
  · simp [Value.ownBlock] at hg
    subst hg
    exact ⟨_, hh⟩
theorem dk_rows {B' d ms ml k : Nat} {T : Dk.D} {v : Value} (h : DkAt B' w d T ms ml v k) {b : Nat} (hb : b = d ∨ b = ms ∨ b = ml ∨ v.ownBlock = some b) : (∃ es c, w.heap[b]? = some (Obj.map es c)) ∨ ∃ cs t, w.heap[b]? = some (Obj.cells cs t (0, 0)) ∧ (t = 57 ∨ t = 68) := by
  obtain ⟨⟨c1, c2, fS, h1, _, _⟩, _, _⟩ := h
  rcases hb with rfl | rfl | rfl | hb
  · exact Or.inr ⟨_, _, h1.blk, Or.inl rfl⟩
  · obtain ⟨D, ⟨es, clock, h2, _⟩, _⟩ := h1.safe; exact Or.inl ⟨_, _, h2⟩
  · obtain ⟨D, ⟨es, clock, h2, _⟩, _⟩ := h1.last; exact Or.inl ⟨_, _, h2⟩
  · obtain ⟨cs, hc⟩ := own_rowN h1.row hb; exact Or.inr ⟨cs, _, hc, Or.inr rfl⟩
theorem apart_rows {b b' : Nat} (h1 : (∃ es c, w.heap[b]? = some (Obj.map es c)) ∨ ∃ cs t, w.heap[b]? = some (Obj.cells cs t (0, 0)) ∧ (t = 57 ∨ t = 68))
    (h2 : ∃ cs t, w.heap[b']? = some (Obj.cells cs t (0, 0)) ∧ (t = 61 ∨ t = 32 ∨ t = 3 ∨ t = 5)) : b ≠ b' := fun e => by
  subst e
  obtain ⟨cs, t, hc, ht⟩ := h2
  rcases h1 with ⟨es, c, hm⟩ | ⟨cs', t', hc', ht'⟩
  · rw [hc] at hm; cases hm
  · have := hc.symm.trans hc'
    injection this with this
    injection this with _ e _
    subst e
    rcases ht' with rfl | rfl <;> revert ht <;> decide
/-- the program's disk stands through the deeds of the document's -/
theorem DkAt.asideR {B' d ms ml k : Nat} {T : Dk.D} {v : Value} (h : DkAt B' w d T ms ml v k) (hr : RefAt B BB w r S vS vA vB us ub) (hf : RFr w w' (RX r vS vA vB)) : DkAt B' w' d T ms ml v k :=
  h.stands fun b hb => hf.block b (h.lts b hb).2 fun hx => apart_rows (dk_rows h hb) (by obtain ⟨cs, t, h1, h2⟩ := rx_rows hr hx; exact ⟨cs, t, h1, by rcases h2 with h2 | h2 | h2; exact Or.inl h2; exact Or.inr (Or.inl h2); exact Or.inr (Or.inr (Or.inl h2))⟩) rfl
/-- the document's disk stands through the deeds of the program's -/
theorem RefAt.asideD {B' d ms ml k : Nat} {T : Dk.D} {v : Value} (h : RefAt B BB w r S vS vA vB us ub) (hd : DkAt B' w d T ms ml v k) (hf : Fr w w' d ms ml v) : RefAt B BB w' r S vS vA vB us ub := by
  have key : ∀ b, (∃ cs t, w.heap[b]? = some (Obj.cells cs t (0, 0)) ∧ (t = 61 ∨ t = 32 ∨ t = 3 ∨ t = 5)) → w'.heap[b]? = w.heap[b]? := fun b hb => by
    have hlt : b < w.heap.size := by obtain ⟨cs, t, hc, _⟩ := hb; exact (Array.getElem?_eq_some_iff.1 hc).1
    exact hf.block b hlt (fun e => apart_rows (dk_rows hd (Or.inl rfl)) hb e.symm) (fun e => apart_rows (dk_rows hd (Or.inr (Or.inl rfl))) hb e.symm) (fun e => apart_rows (dk_rows hd (Or.inr (Or.inr (Or.inl rfl)))) hb e.symm) (fun e => apart_rows (dk_rows hd (Or.inr (Or.inr (Or.inr e.symm)))) hb rfl)
  refine h.stands hf.size fun b hb => key b ?_
  rcases hb with hb | hb | hb | hb | ⟨cs, hb, _⟩
  · obtain ⟨cs, t, h1, h2⟩ := rx_rows h (Or.inl hb); exact ⟨cs, t, h1, by rcases h2 with h2 | h2 | h2; exact Or.inl h2; exact Or.inr (Or.inl h2); exact Or.inr (Or.inr (Or.inl h2))⟩
  · obtain ⟨cs, t, h1, h2⟩ := rx_rows h (Or.inr (Or.inl hb)); exact ⟨cs, t, h1, by rcases h2 with h2 | h2 | h2; exact Or.inl h2; exact Or.inr (Or.inl h2); exact Or.inr (Or.inr (Or.inl h2))⟩
  · obtain ⟨cs, t, h1, h2⟩ := rx_rows h (Or.inr (Or.inr (Or.inl hb))); exact ⟨cs, t, h1, by rcases h2 with h2 | h2 | h2; exact Or.inl h2; exact Or.inr (Or.inl h2); exact Or.inr (Or.inr (Or.inl h2))⟩
  · obtain ⟨cs, t, h1, h2⟩ := rx_rows h (Or.inr (Or.inr (Or.inr hb))); exact ⟨cs, t, h1, by rcases h2 with h2 | h2 | h2; exact Or.inl h2; exact Or.inr (Or.inl h2); exact Or.inr (Or.inr (Or.inl h2))⟩
  · exact ⟨cs, _, hb, Or.inr (Or.inr (Or.inr rfl))⟩
theorem own_low {base e s n : Nat} {u : Value} {xs : List Value} (h : w.ownsRow base e s u n xs) {g : Nat} (hg : u.ownBlock = some g) : base ≤ g := (h.lt g hg).1
/-- what lay before the document's disk stands through its deeds -/
theorem RefAt.run {w0 : World} (h : RefAt B BB w r S vS vA vB us ub) (hB : w0.heap.size ≤ B) (hb : Below w0.heap.size w0 w) (hf : RFr w w' (RX r vS vA vB)) : Below w0.heap.size w0 w' :=
  ⟨hf.os.trans hb.os, hf.tape.trans hb.tape, hf.output.trans hb.output, Nat.le_trans hb.size hf.size, fun b hi => by
    refine (hf.block b (Nat.lt_of_lt_of_le hi hb.size) (fun hx => ?_)).trans (hb.block b hi)
    have hbb := h.bb.1
    rcases hx with rfl | hx | hx | hx
    · have := h.bd; omega
    · have := own_low h.rowS hx; omega
    · have := own_low h.rowA hx; omega
    · have := own_low h.rowB hx; omega⟩
/-- a list with marked room behind, in a row of bytes -/
def MarkU (w : World) (v : Value) (xs : List Nat) : Prop := Marked w v xs ∧ ∃ b n c cs, v = .slice (some ⟨b, 0, none⟩) n c ∧ Blk w b 5 cs
theorem MarkU.stands {v : Value} {xs : List Nat} (h : MarkU w v xs) (hz : w.heap.size ≤ w'.heap.size) (k : ∀ b cs, Blk w b 5 cs → w'.heap[b]? = w.heap[b]?) : MarkU w' v xs := by
  obtain ⟨⟨b, c, rfl, h1, h2, h3, h4⟩, b', n, c', cs, e, hb⟩ := h
  injection e with e _ _
  injection e with e
  injection e with e
  subst e
  have hk := k b cs hb
  exact ⟨⟨b, c, rfl, h1, h2, Nat.lt_of_lt_of_le h3 hz, fun i hi => by rw [World.cell?_of_block (a := ⟨b, i, none⟩) hk]; exact h4 i hi⟩, b, _, _, cs, rfl, hb.stands hk⟩
theorem MarkU.asideD {B' d ms ml k : Nat} {T : Dk.D} {v u : Value} {xs : List Nat} (h : MarkU w u xs) (hd : DkAt B' w d T ms ml v k) (hf : Fr w w' d ms ml v) : MarkU w' u xs :=
  h.stands hf.size fun b cs hb => by
    have hx : ∃ cs t, w.heap[b]? = some (Obj.cells cs t (0, 0)) ∧ (t = 61 ∨ t = 32 ∨ t = 3 ∨ t = 5) := ⟨cs, _, hb, Or.inr (Or.inr (Or.inr rfl))⟩
    exact hf.block b hb.lt (fun e => apart_rows (dk_rows hd (Or.inl rfl)) hx e.symm) (fun e => apart_rows (dk_rows hd (Or.inr (Or.inl rfl))) hx e.symm) (fun e => apart_rows (dk_rows hd (Or.inr (Or.inr (Or.inl rfl)))) hx e.symm) (fun e => apart_rows (dk_rows hd (Or.inr (Or.inr (Or.inr e.symm)))) hx rfl)
theorem MarkU.asideR {u : Value} {xs : List Nat} (h : MarkU w u xs) (hr : RefAt B BB w r S vS vA vB us ub) (hf : RFr w w' (RX r vS vA vB)) : MarkU w' u xs :=
  h.stands hf.size fun b cs hb => hf.block b hb.lt fun hx => by
    obtain ⟨cs', t, h1, h2⟩ := rx_rows hr hx
    exact own_ne h1 hb (by rcases h2 with rfl | rfl | rfl <;> decide) rfl
theorem MarkU.rdB {B' d ms ml k : Nat} {T : Dk.D} {v u : Value} {xs : List Nat} (h : MarkU w u xs) (hd : DkAt B' w d T ms ml v k) : RdB w d u xs := by
  obtain ⟨⟨b, c, rfl, h1, h2, h3, h4⟩, b', n, c', cs, e, hb⟩ := h
  injection e with e _ _
  injection e with e
  injection e with e
  subst e
  refine ⟨_, _, rfl, by omega, fun _ => ⟨b, 0, rfl, fun e => apart_rows (dk_rows hd (Or.inl rfl)) ⟨cs, _, hb, Or.inr (Or.inr (Or.inr rfl))⟩ e.symm, h3, fun i hi => ?_⟩⟩
  rw [Nat.zero_add, h4 i (by omega), List.getD_eq_getElem?_getD, List.getElem?_append_left hi, List.getD_eq_getElem?_getD]
theorem MarkU.len {v : Value} {xs : List Nat} (h : MarkU w v xs) : ∃ A c, v = .slice A xs.length c := by
  obtain ⟨⟨b, c, rfl, _⟩, _⟩ := h; exact ⟨_, _, rfl⟩
end
end Go.Proofs.YtpmadlkkldbceaaDoor
