/- Layer 5: deeds that may fail, as they are seen behind them and behind a crash. -/
import Derived.Test.YtdokojlgcplefaaDoorMHv24s
namespace Go.Proofs.YtdokojlgcplefaaDoor
open Go Go.RowKit
namespace Hv
theorem done_iff {S : Dk.D} (h : Dk.done S = true) : S.off = false ∧ Dk.dead S = false := by
 unfold Dk.done at h
 simpa using h
theorem wrote_yes {S : Dk.D} (h : Dk.done S = true) (i : Nat) (bs : List Nat) : Dk.wrote S i bs = Dk.wr (Dk.did S) i bs := by
 unfold Dk.wrote
 rw [if_neg (by rw [(done_iff h).1]; simp), if_neg (by rw [(done_iff h).2]; simp)]
theorem syncs_yes {S : Dk.D} (h : Dk.done S = true) : Dk.syncs S = Dk.synced (Dk.did S) := by
 unfold Dk.syncs
 rw [if_neg (by rw [(done_iff h).1]; simp), if_neg (by rw [(done_iff h).2]; simp)]
theorem wrote_no {S : Dk.D} (h : Dk.done S = false) (i : Nat) (bs : List Nat) : (Dk.wrote S i bs).pend = S.pend := by
 unfold Dk.wrote
 split
 ·rfl
 ·split
  ·rfl
  ·rename_i h1 h2
   rw [Dk.done] at h
   simp at h1 h2 h
   rw [h h1] at h2
   cases h2
theorem syncs_no {S : Dk.D} (h : Dk.done S = false) : (Dk.syncs S).pend = S.pend ∧ (Dk.syncs S).safe = S.safe := by
 unfold Dk.syncs
 split
 ·exact ⟨rfl, rfl⟩
 ·split
  ·exact ⟨rfl, rfl⟩
  ·rename_i h1 h2
   rw [Dk.done] at h
   simp at h1 h2 h
   rw [h h1] at h2
   cases h2
theorem wrote_safe (S : Dk.D) (i : Nat) (bs : List Nat) : (Dk.wrote S i bs).safe = S.safe := by
 unfold Dk.wrote
 split
 ·rfl
 ·split <;> rfl
theorem wrote_pend {S : Dk.D} (h : Dk.done S = true) (i : Nat) (bs : List Nat) : (Dk.wrote S i bs).pend = S.pend ++ [(i, padB bs)] := by rw [wrote_yes h]; rfl
theorem syncs_pend0 {S : Dk.D} (h : Dk.done S = true) : (Dk.syncs S).pend = [] := by rw [syncs_yes h]; rfl
theorem syncs_safe {S : Dk.D} (h : Dk.done S = true) (j : Nat) : (Dk.syncs S).safe j = Dk.seen S j := by rw [syncs_yes h]; exact Hd.all_seen (Dk.did S) j
theorem dseen_wrote {S : Dk.D} (h : Dk.done S = true) (i j : Nat) (bs : List Nat) : Dk.seen (Dk.wrote S i bs) j = if i = j then padB bs else Dk.seen S j := by
 rw [wrote_yes h]
 exact seen_pend (Dk.did S) S.pend (i, padB bs) j
theorem dseen_syncs {S : Dk.D} (h : Dk.done S = true) (j : Nat) : Dk.seen (Dk.syncs S) j = Dk.seen S j := by
 rw [← syncs_safe h]
 unfold Dk.seen
 rw [syncs_pend0 h]
 rfl
theorem seen_nil {S : Dk.D} (h : S.pend = []) (j : Nat) : Dk.seen S j = S.safe j := by
 unfold Dk.seen
 rw [h]
 rfl
theorem puts_or (S : Dk.D) (ks : List (Nat × List Nat)) (i : Nat) : (Dk.puts S ks).safe i = S.safe i ∨ ∃ p ∈ ks, p.1 = i ∧ p.2 = (Dk.puts S ks).safe i := by
 rw [Hd.puts_safe]
 cases hk : Dk.last ks (i : Int) with
 | none => exact Or.inl rfl
 | some k =>
  obtain ⟨q, hq, hqi⟩ := Dk.last_some hk
  refine Or.inr ⟨q, List.mem_of_getElem? hq, by omega, ?_⟩
  simp only [hq]
  rfl
theorem seen_or (S : Dk.D) (i : Nat) : Dk.seen S i = S.safe i ∨ ∃ p ∈ S.pend, p.1 = i ∧ p.2 = Dk.seen S i := by
 rw [← Hd.all_seen]
 exact puts_or S S.pend i
theorem crash_seen (S : Dk.D) (ks : List (Nat × List Nat)) (j : Nat) : Dk.seen (Dk.crashed S ks) j = (Dk.puts S ks).safe j := seen_nil rfl j
structure Ch (S : Dk.D) (W : Nat → List Nat → Prop) (T : Dk.D) : Prop where
 size : T.size = S.size
 safe : ∀ j, T.safe j = S.safe j ∨ W j (T.safe j)
 pend : ∀ p ∈ T.pend, W p.1 p.2
section
variable {S T : Dk.D} {W : Nat → List Nat → Prop}
theorem Ch.start (h : S.pend = []) : Ch S W S := ⟨rfl, fun _ => Or.inl rfl, fun p hp => by rw [h] at hp; cases hp⟩
theorem Ch.wrote (h : Ch S W T) {i : Nat} {bs : List Nat} (hw : W i (padB bs)) : Ch S W (Dk.wrote T i bs) := by
 refine ⟨(wrote_nums T i bs).1.trans h.size, fun j => by rw [wrote_safe]; exact h.safe j, fun p hp => ?_⟩
 cases hd : Dk.done T with
 | false => rw [wrote_no hd] at hp; exact h.pend p hp
 | true =>
  rw [wrote_pend hd] at hp
  rcases List.mem_append.1 hp with hp | hp
  ·exact h.pend p hp
  ·rw [List.mem_singleton.1 hp]; exact hw
theorem Ch.seen (h : Ch S W T) (j : Nat) : Dk.seen T j = S.safe j ∨ W j (Dk.seen T j) := by
 rcases seen_or T j with e | ⟨p, hp, e1, e2⟩
 ·rw [e]; exact h.safe j
 ·rw [← e2, ← e1]; exact Or.inr (h.pend p hp)
theorem Ch.syncs (h : Ch S W T) : Ch S W (Dk.syncs T) := by
 cases hd : Dk.done T with
 | false => exact ⟨(syncs_nums T).1.trans h.size, fun j => by rw [(syncs_no hd).2]; exact h.safe j, fun p hp => by rw [(syncs_no hd).1] at hp; exact h.pend p hp⟩
 | true => exact ⟨(syncs_nums T).1.trans h.size, fun j => by rw [syncs_safe hd]; exact h.seen j, fun p hp => by rw [syncs_pend0 hd] at hp; cases hp⟩
theorem Ch.crash (h : Ch S W T) (ts : List Bool) (j : Nat) : Dk.seen (Dk.crashed T (keptTo T.pend ts T.pend.length)) j = S.safe j ∨ W j (Dk.seen (Dk.crashed T (keptTo T.pend ts T.pend.length)) j) := by
 rw [crash_seen]
 rcases puts_or T (keptTo T.pend ts T.pend.length) j with e | ⟨p, hp, e1, e2⟩
 ·rw [e]; exact h.safe j
 ·rw [← e2, ← e1]; exact Or.inr (h.pend p (keptTo_mem _ p hp))
end
def Pres (P : Dk.D → Prop) (a : M) : Prop := ∀ T, P T → P (a T).2
theorem Pres.and {P : Dk.D → Prop} {a b : M} (ha : Pres P a) (hb : Pres P b) : Pres P (andM a b) := fun T h => by
 unfold andM
 split
 ·exact hb _ (ha T h)
 ·exact ha T h
theorem pres_wr {S : Dk.D} {W : Nat → List Nat → Prop} {i : Nat} {bs : List Nat} (hw : W i (padB bs)) : Pres (Ch S W) (wrM i bs) := fun _ h => h.wrote hw
theorem pres_sy {S : Dk.D} {W : Nat → List Nat → Prop} : Pres (Ch S W) syM := fun _ h => h.syncs
theorem pres_wip {S : Dk.D} {W : Nat → List Nat → Prop} {f : Nat} : ∀ {n i : Nat}, (∀ j, i ≤ j → j < i + n → W (f + j) zs) → Pres (Ch S W) (wipM f i n)
 | 0, _, _, _, h => h
 | n + 1, i, hw, T, h => by
  have hw' : ∀ j, i + 1 ≤ j → j < i + 1 + n → W (f + j) zs := fun j h1 h2 => hw j (by omega) (by omega)
  have hz : W (f + i) (padB []) := hw i (Nat.le_refl _) (by omega)
  show Ch S W (wipeN f i (n + 1) T).2.2
  unfold wipeN
  split
  ·exact pres_wip hw' T h
  ·split
   ·exact pres_wip hw' _ (h.wrote hz)
   ·exact h.wrote hz
def piece (all : List Nat) (i : Nat) : List Nat := (all.drop (32 * i)).take 32
theorem piece_len {all : List Nat} {i : Nat} (h : 32 * i + 32 ≤ all.length) : (piece all i).length = 32 := by
 unfold piece
 rw [List.length_take, List.length_drop]
 omega
theorem pres_putN {S : Dk.D} {W : Nat → List Nat → Prop} {f at_ : Nat} {all : List Nat} : ∀ {r i : Nat}, (∀ j, i ≤ j → j < i + r → W (f + (at_ + j)) (padB (piece all j))) → Pres (Ch S W) (putN f at_ all i r)
 | 0, _, _, _, h => h
 | _ + 1, i, hw, T, h => Pres.and (pres_wr (hw i (Nat.le_refl _) (by omega))) (pres_putN (fun j h1 h2 => hw j (by omega) (by omega))) T h
def Nums (S T : Dk.D) : Prop := T.size = S.size ∧ T.armed = S.armed
theorem nums_wr {S : Dk.D} {i : Nat} {bs : List Nat} : Pres (Nums S) (wrM i bs) := fun T h => ⟨(wrote_nums T i bs).1.trans h.1, (wrote_nums T i bs).2.1.trans h.2⟩
theorem nums_sy {S : Dk.D} : Pres (Nums S) syM := fun T h => ⟨(syncs_nums T).1.trans h.1, (syncs_nums T).2.1.trans h.2⟩
def OnM (a : M) : Prop := ∀ S, S.off = false → (a S).1 = true → (a S).2.off = false
theorem on_sy : OnM syM := fun S _ h1 => (syncs_nums S).2.2.trans (by rw [show Dk.done S = true from h1]; rfl)
theorem andM_true {a b : M} {S : Dk.D} (h : (andM a b S).1 = true) : (a S).1 = true ∧ (b (a S).2).1 = true ∧ andM a b S = b (a S).2 := by
 unfold andM at h ⊢
 split at h
 ·rename_i h1
  exact ⟨h1, h, if_pos h1⟩
 ·cases h
theorem OnM.and {a b : M} (ha : OnM a) (hb : OnM b) : OnM (andM a b) := fun S h0 h1 => by
 obtain ⟨h2, h3, e⟩ := andM_true h1
 rw [e]
 exact hb _ (ha S h0 h2) h3
theorem dseen_putN {f at_ : Nat} {all : List Nat} : ∀ {r i : Nat} {S : Dk.D}, (putN f at_ all i r S).1 = true → 32 * (i + r) ≤ all.length → ∀ j, Dk.seen (putN f at_ all i r S).2 j = if f + at_ + i ≤ j ∧ j < f + at_ + i + r then piece all (j - (f + at_)) else Dk.seen S j
 | 0, _, _, _, _, j => by rw [if_neg (by omega)]; rfl
 | r + 1, i, S, h, hl, j => by
  obtain ⟨h1, h2, e⟩ := andM_true (a := wrM (f + (at_ + i)) ((all.drop (32 * i)).take 32)) (b := putN f at_ all (i + 1) r) h
  have hp : padB ((all.drop (32 * i)).take 32) = piece all i := padB_self (piece_len (by omega))
  show Dk.seen (andM _ _ S).2 j = _
  rw [e, dseen_putN h2 (by omega) j]
  show (if _ then _ else Dk.seen (Dk.wrote S (f + (at_ + i)) ((all.drop (32 * i)).take 32)) j) = _
  rw [dseen_wrote h1, hp]
  by_cases h3 : f + at_ + (i + 1) ≤ j ∧ j < f + at_ + (i + 1) + r
  ·rw [if_pos h3, if_pos (by omega)]
  ·rw [if_neg h3]
   by_cases h4 : f + (at_ + i) = j
   ·rw [if_pos h4, if_pos (by omega), show j - (f + at_) = i by omega]
   ·rw [if_neg h4, if_neg (by omega)]
theorem dseen_wipe {f : Nat} : ∀ {n i : Nat} {S : Dk.D} (_ : (wipeN f i n S).1 = true) (j : Nat), Dk.seen (wipeN f i n S).2.2 j = if f + i ≤ j ∧ j < f + i + n then zs else Dk.seen S j
 | 0, i, S, h, j => by rw [if_neg (by omega)]; rfl
 | n + 1, i, S, h, j => by
  unfold Hv.wipeN at h ⊢
  split at h
  ·rename_i hz
   rw [if_pos hz, dseen_wipe h j]
   by_cases h1 : f + i = j
   ·subst h1
    rw [if_neg (by omega), if_pos (by omega), hz]
   ·by_cases h2 : f + (i + 1) ≤ j ∧ j < f + (i + 1) + n
    ·rw [if_pos h2, if_pos (by omega)]
    ·rw [if_neg h2, if_neg (by omega)]
  ·rename_i hz
   rw [if_neg hz]
   split at h
   ·rename_i hd
    rw [if_pos hd]
    show Dk.seen (wipeN f (i + 1) n (Dk.wrote S (f + i) [])).2.2 j = _
    rw [dseen_wipe h j, dseen_wrote hd]
    by_cases h1 : f + i = j
    ·subst h1
     rw [if_neg (by omega), if_pos rfl, if_pos (by omega)]
     rfl
    ·rw [if_neg h1]
     by_cases h2 : f + (i + 1) ≤ j ∧ j < f + (i + 1) + n
     ·rw [if_pos h2, if_pos (by omega)]
     ·rw [if_neg h2, if_neg (by omega)]
   ·cases h
end Hv
end Go.Proofs.YtdokojlgcplefaaDoor
/- Layer 5: which record begins at a sector. -/
namespace Go.Proofs.YtdokojlgcplefaaDoor
open Go Go.RowKit
namespace Hv
theorem sectors_len {S : Dk.D} (h : Dk.Ok S) (i : Nat) : ∀ k, (sectors S i k).length = 32 * k
 | 0 => rfl
 | k + 1 => by rw [sectors, List.length_append, sectors_len h i k, seen_len h]; omega
theorem sectors_byte {S : Dk.D} (h : Dk.Ok S) (i : Nat) : ∀ k, Sha.Byte (sectors S i k)
 | 0 => fun j => by simp [sectors]
 | k + 1 => byte_append (sectors_byte h i k) (seen_byte h _)
theorem take_piece (x : List Nat) (k : Nat) : x.take (32 * k) ++ piece x k = x.take (32 * (k + 1)) := by
 unfold piece
 rw [show 32 * (k + 1) = 32 * k + 32 by omega, List.take_add]
theorem sectors_of {S : Dk.D} {i : Nat} {x : List Nat} : ∀ {k : Nat}, (∀ j, j < k → Dk.seen S (i + j) = piece x j) → sectors S i k = x.take (32 * k)
 | 0, _ => by simp [sectors]
 | k + 1, h => by rw [sectors, sectors_of (fun j hj => h j (by omega)), h k (by omega), take_piece]
theorem piece_sectors {S : Dk.D} (hS : Dk.Ok S) {i : Nat} : ∀ {k j : Nat}, j < k → piece (sectors S i k) j = Dk.seen S (i + j)
 | k + 1, j, h => by
  have hl := sectors_len hS i k
  have h3 := seen_len hS (i + k)
  unfold piece
  rw [sectors]
  rcases Nat.lt_or_ge j k with h1 | h1
  ·rw [List.drop_append_of_le_length (by omega), List.take_append_of_le_length (by rw [List.length_drop]; omega)]
   exact piece_sectors hS h1
  ·obtain rfl : j = k := by omega
   rw [List.drop_append, List.drop_eq_nil_of_le (by omega), hl, Nat.sub_self, List.drop_zero, List.nil_append, List.take_of_length_le (by omega)]
theorem lenOf_take (x : List Nat) : lenOf (x.take 32) = lenOf x := by
 unfold lenOf
 simp [List.getD_eq_getElem?_getD]
theorem lenOf_piece (x : List Nat) : lenOf (piece x 0) = lenOf x := by
 unfold piece
 rw [Nat.mul_zero, List.drop_zero, lenOf_take]
theorem need_pos {n : Nat} (h1 : 1 ≤ n) (h2 : n ≤ 3000) : 1 ≤ need (n : Int) := by rw [need_of h1 h2]; omega
theorem need_bounds {n : Nat} (h : need (n : Int) ≠ 0) : 1 ≤ n ∧ n ≤ 3000 := by
 refine ⟨?_, ?_⟩
 ·rcases Nat.eq_zero_or_pos n with e | e
  ·exact absurd (need_none (Or.inl (by omega))) h
  ·exact e
 ·rcases Nat.lt_or_ge 3000 n with e | e
  ·exact absurd (need_none (Or.inr (by omega))) h
  ·exact e
structure Rec (S : Dk.D) (f z at_ n p : Nat) (b : List Nat) : Prop where
 l1 : 1 ≤ b.length
 l2 : b.length ≤ 3000
 room : at_ + need (b.length : Int) ≤ z
 here : ∀ j, j < need (b.length : Int) → Dk.seen S (f + (at_ + j)) = piece (recB n p b) j
theorem record_is {S : Dk.D} {f z at_ n p : Nat} {b : List Nat} (h : Rec S f z at_ n p b) : recordM S f z at_ n p = some b := by
 have h1 := need_pos h.l1 h.l2
 have hb := recB_len (n := n) (p := p) h.l1 h.l2
 have hr := h.room
 have e0 : Dk.seen S (f + at_) = piece (recB n p b) 0 := h.here 0 (by omega)
 have e1 : lenOf (Dk.seen S (f + at_)) = b.length := by rw [e0, lenOf_piece, recB_lenOf]
 have e2 : sectors S (f + at_) (need (b.length : Int)) = recB n p b := by
  rw [sectors_of (fun j hj => (by rw [Nat.add_assoc]; exact h.here j hj)), List.take_of_length_le (by omega)]
 unfold recordM
 rw [if_neg (by omega), e1, if_neg (by omega), e2, recB_body, if_pos rfl]
theorem record_has {S : Dk.D} (hS : Dk.Ok S) {f z at_ n p : Nat} {b : List Nat} (h : recordM S f z at_ n p = some b) : Rec S f z at_ n p b ∧ Sha.Byte b := by
 unfold recordM at h
 split at h
 ·cases h
 rename_i hz
 split at h
 ·cases h
 rename_i hb
 split at h
 rename_i he
 ·injection h with h
  generalize hq : lenOf (Dk.seen S (f + at_)) = q at *
  have hq1 := need_bounds (n := q) (fun e => hb (Or.inl e))
  have hl := sectors_len hS (f + at_) (need (q : Int))
  have hby := sectors_byte hS (f + at_) (need (q : Int))
  generalize hs : sectors S (f + at_) (need (q : Int)) = x at *
  have hbl : b.length = q := by
   rw [← h, List.length_take, List.length_drop, hl]
   have := need_of hq1.1 hq1.2
   omega
  rw [h] at he
  have hbb : Sha.Byte b := by rw [← h]; exact byte_sub hby 10 q
  refine ⟨⟨by omega, by omega, by rw [hbl]; omega, fun j hj => ?_⟩, hbb⟩
  rw [hbl] at hj
  rw [← he, ← hs, piece_sectors hS hj, Nat.add_assoc]
 ·cases h
theorem record_zero {S : Dk.D} {f z at_ n p : Nat} (h : Dk.seen S (f + at_) = zs) : recordM S f z at_ n p = none := by
 unfold recordM
 split
 ·rfl
 ·rw [if_pos (Or.inl (by rw [h]; rfl))]
theorem record_out {S : Dk.D} {f z at_ n p : Nat} (h : z ≤ at_) : recordM S f z at_ n p = none := by
 unfold recordM
 rw [if_pos h]
theorem record_cong {S T : Dk.D} (hS : Dk.Ok S) {f z at_ n p : Nat} {b : List Nat} (h : recordM S f z at_ n p = some b) (e : ∀ j, at_ ≤ j → j < at_ + need (b.length : Int) → Dk.seen T (f + j) = Dk.seen S (f + j)) : recordM T f z at_ n p = some b := by
 obtain ⟨h1, _⟩ := record_has hS h
 exact record_is ⟨h1.l1, h1.l2, h1.room, fun j hj => by rw [e (at_ + j) (by omega) (by omega)]; exact h1.here j hj⟩
theorem record_torn {S : Dk.D} (hS : Dk.Ok S) {f z at_ n p : Nat} {b : List Nat} (h1 : 1 ≤ b.length) (h2 : b.length ≤ 3000) (h : ∀ j, j < need (b.length : Int) → Dk.seen S (f + (at_ + j)) = zs ∨ Dk.seen S (f + (at_ + j)) = piece (recB n p b) j) :
  recordM S f z at_ n p = none ∨ ∃ x, recordM S f z at_ n p = some x ∧ x.length = b.length ∧ (recB n p x).take 10 = (recB n p b).take 10 := by
 cases hr : recordM S f z at_ n p with
 | none => exact Or.inl rfl
 | some x =>
  refine Or.inr ⟨x, rfl, ?_⟩
  obtain ⟨hx, _⟩ := record_has hS hr
  have g1 := need_pos h1 h2
  have g2 := need_pos hx.l1 hx.l2
  have e1 := hx.here 0 (by omega)
  have hl : lenOf (Dk.seen S (f + (at_ + 0))) = x.length := by rw [e1, lenOf_piece, recB_lenOf]
  have e2 : Dk.seen S (f + (at_ + 0)) = piece (recB n p b) 0 := by
   rcases h 0 (by omega) with e | e
   ·rw [e] at hl
    have : lenOf zs = 0 := rfl
    have := hx.l1
    omega
   ·exact e
  have hl2 : x.length = b.length := by rw [← hl, e2, lenOf_piece, recB_lenOf]
  refine ⟨hl2, ?_⟩
  have e3 : piece (recB n p x) 0 = piece (recB n p b) 0 := e1.symm.trans e2
  unfold piece at e3
  rw [Nat.mul_zero, List.drop_zero, List.drop_zero] at e3
  have e4 := congrArg (List.take 10) e3
  rwa [List.take_take, List.take_take] at e4
end Hv
end Go.Proofs.YtdokojlgcplefaaDoor
