/- A disk's calls, each with one answer: what the disk is behind them, whether they were done. -/
import Derived.Test.YtbllilokcalbcaaDoorMDisk11
namespace Go.Proofs.YtbllilokcalbcaaDoor
open Go Go.RowKit
namespace Dk
def dead (S : D) : Bool := S.armed && S.left == 0
def did (S : D) : D := { S with left := if S.armed then S.left - 1 else S.left, deeds := S.deeds + 1 }
def done (S : D) : Bool := !S.off && !dead S
def wrote (S : D) (i : Nat) (bs : List Nat) : D := if S.off then S else if dead S then { S with off := true } else wr (did S) i bs
def syncs (S : D) : D := if S.off then S else if dead S then { S with off := true } else synced (did S)
def seen (S : D) (i : Nat) : List Nat := match last S.pend (i : Int) with
  | some k => ((S.pend[k]?).map (·.2)).getD []
  | none => S.safe i
theorem synced_pend (S : D) : (synced S).pend = [] := rfl
theorem syncs_pend (S : D) : (syncs S).pend = S.pend ∨ (syncs S).pend = [] := by
  unfold syncs
  split
  · exact Or.inl rfl
  · split
    · exact Or.inl rfl
    · exact Or.inr rfl
end Dk
/-- the error of a deed -/
def er (b : Bool) (aD : Addr) : Value := if b then .nilIface else ev aD
/-- A disk at block d; k bounds what was done with it. -/
structure DkAt (B : Nat) (w : World) (d : Nat) (S : Dk.D) (ms ml : Nat) (v : Value) (k : Nat) : Prop where
  at_ : ∃ c1 c2 fS, DiskAt B w d S ms ml v c1 c2 fS ∧ c1 + S.pend.length ≤ k ∧ c2 ≤ k
  nil : S.pend = [] → v = .slice none 0 0
  deeds : S.deeds ≤ k
section
variable {B : Nat} {w w' : World} {d ms ml k : Nat} {S : Dk.D} {v : Value}
theorem DkAt.mono (h : DkAt B w d S ms ml v k) {k' : Nat} (hk : k ≤ k') : DkAt B w d S ms ml v k' := by
  obtain ⟨⟨c1, c2, fS, h1, h2, h3⟩, h4, h5⟩ := h
  exact ⟨⟨c1, c2, fS, h1, by omega, by omega⟩, h4, by omega⟩
theorem DkAt.stands (h : DkAt B w d S ms ml v k) (e : ∀ b, (b = d ∨ b = ms ∨ b = ml ∨ v.ownBlock = some b) → w'.heap[b]? = w.heap[b]?) : DkAt B w' d S ms ml v k := by
  obtain ⟨⟨c1, c2, fS, h1, h2, h3⟩, h4, h5⟩ := h
  exact ⟨⟨c1, c2, fS, h1.stands e, h2, h3⟩, h4, h5⟩
theorem DkAt.lts (h : DkAt B w d S ms ml v k) : ∀ b, (b = d ∨ b = ms ∨ b = ml ∨ v.ownBlock = some b) → B ≤ b ∧ b < w.heap.size := by
  obtain ⟨⟨c1, c2, fS, h1, h2, h3⟩, h4, h5⟩ := h
  exact h1.lts
theorem DkAt.below (h : DkAt B w d S ms ml v k) (hb : Below w.heap.size w w') : DkAt B w' d S ms ml v k := h.stands fun b hi => hb.block b (h.lts b hi).2
theorem DkAt.run {w0 : World} (h : DkAt B w d S ms ml v k) (hB : w0.heap.size ≤ B) (hb : Below w0.heap.size w0 w) (hf : Fr w w' d ms ml v) : Below w0.heap.size w0 w' := by
  obtain ⟨⟨c1, c2, fS, h1, h2, h3⟩, h4, h5⟩ := h
  exact h1.run hB hb hf
theorem DkAt.ok (h : DkAt B w d S ms ml v k) : Dk.Ok S := by
  obtain ⟨⟨c1, c2, fS, h1, h2, h3⟩, h4, h5⟩ := h
  exact h1.ok
theorem DkAt.few (h : DkAt B w d S ms ml v k) : S.pend.length ≤ k := by
  obtain ⟨⟨c1, c2, fS, h1, h2, h3⟩, h4, h5⟩ := h
  omega
theorem dk_new (n : Nat) (w : World) (h2 : 2 ≤ n) (h4 : n ≤ 4096) :
    Calls Tryd.prog 8 #[.int .i64 (n : Int)] w fun e w' => ∃ d ms ml, e = .returned (.tuple #[.pointer (some ⟨d, 0, none⟩), .nilIface]) ∧ DkAt w.heap.size w' d (fresh n) ms ml (.slice none 0 0) 0 ∧ Below w.heap.size w w' :=
  (disk_new n w h2 h4).mono fun _ _ ⟨d, ms, ml, he, hd, hb⟩ => ⟨d, ms, ml, he, ⟨⟨_, _, _, hd, Nat.le_refl _, Nat.le_refl _⟩, fun _ => rfl, Nat.le_refl _⟩, hb⟩
theorem deed_any {c1 c2 : Nat} {fS : Int → Option Value} (w : World) (h : DiskAt B w d S ms ml v c1 c2 fS) (hz : Dk.dead S = false) (hd : S.deeds + 1 ≤ 1000000) :
    Calls Tryd.prog 64 #[.pointer (some ⟨d, 0, none⟩)] w fun e w' => e = .returned .nilIface ∧ DiskAt B w' d (Dk.did S) ms ml v c1 c2 fS ∧ w.grownBy w' (some d) := by
  cases ha : S.armed with
  | false =>
    have e : Dk.did S = { S with deeds := S.deeds + 1 } := by unfold Dk.did; rw [ha]; rfl
    rw [e]
    exact deed_free w h ha hd
  | true =>
    have e : Dk.did S = { S with left := S.left - 1, deeds := S.deeds + 1 } := by unfold Dk.did; rw [ha]; rfl
    rw [e]
    refine deed_armed w h ha ?_ hd
    unfold Dk.dead at hz
    rw [ha, Bool.true_and] at hz
    have := beq_eq_false_iff_ne.1 hz
    omega
theorem dk_write (i : Nat) (A : Option Addr) (n c : Nat) (bs : List Nat) (aD : Addr) (w : World) (h : DkAt B w d S ms ml v k) (hi : i < S.size) (hn : n ≤ 32) (hv : RdB w d (.slice A n c) bs) (hb : Sha.Byte bs) (hk : k < 1000000)
    (hD : w.cell? ⟨2, 0, none⟩ = some (ev aD)) (hne : d ≠ 2) :
    Calls Tryd.prog 63 #[.pointer (some ⟨d, 0, none⟩), .int .i64 (i : Int), .slice A n c] w fun e w' => e = .returned (er (Dk.done S) aD) ∧ (∃ v', DkAt B w' d (Dk.wrote S i bs) ms ml v' (k + 1)) ∧ Fr w w' d ms ml v := by
  have hmono := h.mono (Nat.le_succ k)
  obtain ⟨⟨c1, c2, fS, h1, h2, h3⟩, h4, h5⟩ := h
  cases ho : S.off with
  | true =>
    have e1 : Dk.done S = false := by unfold Dk.done; rw [ho]; rfl
    have e2 : Dk.wrote S i bs = S := by unfold Dk.wrote; rw [ho]; rfl
    rw [e1, e2]
    exact (write_off i _ aD w h1 ho hD).mono fun e w' ⟨he, hw⟩ => by subst hw; exact ⟨he, ⟨v, hmono⟩, Fr.refl⟩
  | false =>
    cases hz : Dk.dead S with
    | true =>
      have e1 : Dk.done S = false := by unfold Dk.done; rw [ho, hz]; rfl
      have e2 : Dk.wrote S i bs = { S with off := true } := by unfold Dk.wrote; rw [ho, hz]; rfl
      rw [e1, e2]
      unfold Dk.dead at hz
      obtain ⟨ha, hl⟩ := Bool.and_eq_true_iff.1 hz
      exact (write_dead i A n c aD w h1 ho hi hn ha (by simpa using hl) hD hne).mono fun e w' ⟨he, hw, hg⟩ => ⟨he, ⟨v, ⟨c1, c2, fS, hw, by show c1 + S.pend.length ≤ k + 1; omega, by omega⟩, h4, by show S.deeds ≤ k + 1; omega⟩, Fr.of hg fun g e => Or.inl (by injection e with e; exact e.symm)⟩
    | false =>
      have e1 : Dk.done S = true := by unfold Dk.done; rw [ho, hz]; rfl
      have e2 : Dk.wrote S i bs = Dk.wr (Dk.did S) i bs := by unfold Dk.wrote; rw [ho, hz]; rfl
      rw [e1, e2]
      exact (write_ok0 i A n c bs w (Dk.did S) h1 ho hi hn hv hi hb (show S.pend.length < 1000000 by omega) (by omega) (deed_any w h1 hz (by omega))).mono fun e w' ⟨he, ⟨v', hw, hf⟩⟩ =>
        ⟨he, ⟨v', ⟨c1, c2 + 1, fS, hw, by show c1 + (S.pend ++ [(i, padB bs)]).length ≤ k + 1; rw [List.length_append, List.length_singleton]; omega, by omega⟩, fun e => by have := congrArg List.length e; simp [Dk.wr] at this, by show S.deeds + 1 ≤ k + 1; omega⟩, hf⟩
theorem dk_sync (aD : Addr) (w : World) (h : DkAt B w d S ms ml v k) (hk : k < 1000000) (hD : w.cell? ⟨2, 0, none⟩ = some (ev aD)) (hne : d ≠ 2) :
    Calls Tryd.prog 48 #[.pointer (some ⟨d, 0, none⟩)] w fun e w' => e = .returned (er (Dk.done S) aD) ∧ (∃ v', DkAt B w' d (Dk.syncs S) ms ml v' (k + 1)) ∧ ∀ u, Fr w w' d ms ml u := by
  have hmono := h.mono (Nat.le_succ k)
  obtain ⟨⟨c1, c2, fS, h1, h2, h3⟩, h4, h5⟩ := h
  cases ho : S.off with
  | true =>
    have e1 : Dk.done S = false := by unfold Dk.done; rw [ho]; rfl
    have e2 : Dk.syncs S = S := by unfold Dk.syncs; rw [ho]; rfl
    rw [e1, e2]
    exact (sync_off aD w h1 ho hD).mono fun e w' ⟨he, hw⟩ => by subst hw; exact ⟨he, ⟨v, hmono⟩, fun u => Fr.refl⟩
  | false =>
    cases hz : Dk.dead S with
    | true =>
      have e1 : Dk.done S = false := by unfold Dk.done; rw [ho, hz]; rfl
      have e2 : Dk.syncs S = { S with off := true } := by unfold Dk.syncs; rw [ho, hz]; rfl
      rw [e1, e2]
      unfold Dk.dead at hz
      obtain ⟨ha, hl⟩ := Bool.and_eq_true_iff.1 hz
      exact (sync_dead aD w h1 ho ha (by simpa using hl) hD hne).mono fun e w' ⟨he, hw, hg⟩ => ⟨he, ⟨v, ⟨c1, c2, fS, hw, by show c1 + S.pend.length ≤ k + 1; omega, by omega⟩, h4, by show S.deeds ≤ k + 1; omega⟩, fun u => Fr.of hg fun g e => Or.inl (by injection e with e; exact e.symm)⟩
    | false =>
      have e1 : Dk.done S = true := by unfold Dk.done; rw [ho, hz]; rfl
      have e2 : Dk.syncs S = Dk.synced (Dk.did S) := by unfold Dk.syncs; rw [ho, hz]; rfl
      rw [e1, e2]
      exact (sync_ok0 w (Dk.did S) h1 ho (show c1 + S.pend.length < 1000000000 by omega) (deed_any w h1 hz (by omega))).mono fun e w' ⟨he, ⟨fS', hw⟩, hf⟩ =>
        ⟨he, ⟨_, ⟨_, c2, fS', hw, by show c1 + S.pend.length + 0 ≤ k + 1; omega, by omega⟩, fun _ => rfl, by have := (Dk.puts_keeps (Dk.did S) (Dk.did S).pend).2.2.2.2.2; show (Dk.puts (Dk.did S) (Dk.did S).pend).deeds ≤ k + 1; rw [this]; show S.deeds + 1 ≤ k + 1; omega⟩, hf⟩
theorem dk_arm (n : Nat) (w : World) (h : DkAt B w d S ms ml v k) (ho : S.off = false) (hn : n ≤ 9223372036854775807) :
    Calls Tryd.prog 10 #[.pointer (some ⟨d, 0, none⟩), .int .i64 (n : Int)] w fun e w' => e = .returned .nilIface ∧ DkAt B w' d { S with armed := true, left := n } ms ml v k ∧ ∀ u, Fr w w' d ms ml u := by
  obtain ⟨⟨c1, c2, fS, h1, h2, h3⟩, h4, h5⟩ := h
  exact (arm_ok n w h1 hn ho).mono fun e w' ⟨he, hw, hg⟩ => ⟨he, ⟨⟨c1, c2, fS, hw, h2, h3⟩, h4, h5⟩, fun u => Fr.of hg fun g e => Or.inl (by injection e with e; exact e.symm)⟩
theorem dk_crash (A : Option Addr) (n c : Nat) (ts : List Bool) (w : World) (h : DkAt B w d S ms ml v k) (hn : ts.length = n) (hr : RdT w A ts) (hk : k ≤ 1000000) :
    Calls Tryd.prog 17 #[.pointer (some ⟨d, 0, none⟩), .slice A n c] w fun e w' => e = .returned (.int .i64 ((keptTo S.pend ts S.pend.length).length : Int)) ∧ (∃ v', DkAt B w' d (Dk.crashed S (keptTo S.pend ts S.pend.length)) ms ml v' k) ∧ ∀ u, Fr w w' d ms ml u := by
  obtain ⟨⟨c1, c2, fS, h1, h2, h3⟩, h4, h5⟩ := h
  have hl : (keptTo S.pend ts S.pend.length).length ≤ S.pend.length := keptTo_len _
  exact (crash_any A n c ts w h1 hn hr (by omega)).mono fun e w' ⟨he, ⟨fS', hw⟩, hf⟩ => ⟨he, ⟨_, ⟨_, c2, fS', hw, by show c1 + (keptTo S.pend ts S.pend.length).length + 0 ≤ k; omega, h3⟩, fun _ => rfl, by have := (Dk.puts_keeps S (keptTo S.pend ts S.pend.length)).2.2.2.2.2; show (Dk.puts S _).deeds ≤ k; rw [this]; exact h5⟩, hf⟩
theorem dk_read (i : Nat) (w : World) (h : DkAt B w d S ms ml v k) (ho : S.off = false) (hi : i < S.size) :
    Calls Tryd.prog 67 #[.pointer (some ⟨d, 0, none⟩), .int .i64 (i : Int)] w fun e w' => ∃ g, e = .returned (.tuple #[.slice (some ⟨g, 0, none⟩) 32 32, .nilIface]) ∧ Blk w' g 70 (u8s (Dk.seen S i)) ∧ w.heap.size ≤ g ∧ Below w.heap.size w w' := by
  obtain ⟨⟨c1, c2, fS, h1, h2, h3⟩, h4, h5⟩ := h
  cases hl : Dk.last S.pend (i : Int) with
  | none =>
    have e : Dk.seen S i = S.safe i := by unfold Dk.seen; rw [hl]
    rw [e]
    exact read_safe i w h1 ho hi hl
  | some j =>
    obtain ⟨p, hp, hpi⟩ := Dk.last_some hl
    have hpe : p = (i, p.2) := by obtain ⟨a, b⟩ := p; simp at hpi ⊢; omega
    have e : Dk.seen S i = p.2 := by unfold Dk.seen; rw [hl]; simp only [hp]; rfl
    rw [e]
    exact read_pend i j p.2 w h1 ho hi hl (by rw [hp, ← hpe])
theorem dk_safe (i : Nat) (w : World) (h : DkAt B w d S ms ml v k) (hi : i < S.size) :
    Calls Tryd.prog 79 #[.pointer (some ⟨d, 0, none⟩), .int .i64 (i : Int)] w fun e w' => ∃ g, e = .returned (.tuple #[.slice (some ⟨g, 0, none⟩) 32 32, .nilIface]) ∧ Blk w' g 70 (u8s (S.safe i)) ∧ w.heap.size ≤ g ∧ Below w.heap.size w w' := by
  obtain ⟨⟨c1, c2, fS, h1, h2, h3⟩, h4, h5⟩ := h
  exact safe_ok i w h1 hi
/-- a sector that was read, as bytes -/
theorem rd_of_sec {w : World} {g : Nat} {t : TypeId} {bs : List Nat} (h : Blk w g t (u8s bs)) (hl : bs.length = 32) : Rd w (.slice (some ⟨g, 0, none⟩) 32 32) bs :=
  ⟨_, _, by rw [hl], by omega, fun _ => ⟨g, 0, rfl, h.lt, fun i hi => by rw [Nat.zero_add, h.cell i, u8s_get _ _ hi]⟩⟩
theorem rdB_of_lit (w : World) (l : List Nat) (t : TypeId) (p c : Nat) (hp : p < w.heap.size) (hc : l.length ≤ c) : RdB (w.alloc (.cells (u8s l) t)) p (.slice (some ⟨w.heap.size, 0, none⟩) l.length c) l := by
  have hB : Blk (w.alloc (.cells (u8s l) t)) w.heap.size t (u8s l) := Blk.new w _ _
  refine ⟨_, _, rfl, hc, fun _ => ⟨w.heap.size, 0, rfl, by omega, hB.lt, fun i hi => ?_⟩⟩
  rw [Nat.zero_add, hB.cell i, u8s_get _ _ hi]
theorem seen_len {S : Dk.D} (h : Dk.Ok S) (i : Nat) : (Dk.seen S i).length = 32 := by
  unfold Dk.seen
  split
  · rename_i k hk
    obtain ⟨p, hp, _⟩ := Dk.last_some hk
    rw [hp]
    exact (h.plen p (List.mem_of_getElem? hp)).2.1
  · exact h.len i
theorem seen_byte {S : Dk.D} (h : Dk.Ok S) (i : Nat) : Sha.Byte (Dk.seen S i) := by
  unfold Dk.seen
  split
  · rename_i k hk
    obtain ⟨p, hp, _⟩ := Dk.last_some hk
    rw [hp]
    exact (h.plen p (List.mem_of_getElem? hp)).2.2
  · exact h.byte i
end
end Go.Proofs.YtbllilokcalbcaaDoor
