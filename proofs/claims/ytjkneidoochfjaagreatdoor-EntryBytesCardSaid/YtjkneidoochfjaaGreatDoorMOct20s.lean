/- The functions that Read and Rest hand to Take. -/
import Derived.Test.YtjkneidoochfjaaGreatDoorMOct12s
import Derived.Lib.ConvBytes
import Derived.Test.YtjkneidoochfjaaGreatDoorMEn27
import Derived.Test.YtjkneidoochfjaaGreatDoorMOb29s
import Derived.Test.YtjkneidoochfjaaGreatDoorMEnT4s
import Derived.Test.YtjkneidoochfjaaGreatDoorMEn16s
namespace Go.Proofs.YtjkneidoochfjaaGreatDoor
open Go Go.RowKit
/-- A field whose bytes lie outside the blocks of S. -/
structure FR (S : Nat → Prop) (w : World) (f : Fld) : Prop where
  rd : Rd w (.slice f.A f.l f.c) f.bs
  len : f.bs.length = f.l
  own : 0 < f.l → ∃ g, f.A = some ⟨g, 0, none⟩ ∧ ¬ S g ∧ g < w.heap.size
theorem Rd.kpt {S : Nat → Prop} {w w' : World} {g n c : Nat} {xs : List Nat} (h : Rd w (.slice (some ⟨g, 0, none⟩) n c) xs) (k : Kpt S w w') (hg : ¬ S g) : Rd w' (.slice (some ⟨g, 0, none⟩) n c) xs := by
  obtain ⟨A, c', hv, hc, hA⟩ := h
  injection hv with e1 e2 e3
  subst e1 e2 e3
  refine ⟨_, _, rfl, hc, fun h0 => ?_⟩
  obtain ⟨b, o, ha, hb, hx⟩ := hA h0
  injection ha with ha
  injection ha with e4 e5
  subst e4 e5
  exact ⟨_, _, rfl, Nat.lt_of_lt_of_le hb k.size, fun i hi => k.cell (hx i hi) hg⟩
theorem Rd.nil {w : World} {A : Option Addr} {c : Nat} (xs : List Nat) (h : xs = []) : Rd w (.slice A 0 c) xs := by subst h; exact ⟨A, c, rfl, Nat.zero_le _, fun h => absurd h (by simp)⟩
theorem FR.step {S : Nat → Prop} {w w' : World} {f : Fld} (h : FR S w f) (k : Kpt S w w') : FR S w' f := by
  refine ⟨?_, h.len, fun h0 => ?_⟩
  · have hl := h.len
    have hr := h.rd
    have ho := h.own
    obtain ⟨n, A, l, c, bs⟩ := f
    dsimp only at hl hr ho ⊢
    rcases Nat.eq_zero_or_pos l with rfl | h0
    · exact Rd.nil bs (List.eq_nil_of_length_eq_zero hl)
    · obtain ⟨g, rfl, hg, _⟩ := ho h0
      exact hr.kpt k hg
  · obtain ⟨g, e, hg, hlt⟩ := h.own h0
    exact ⟨g, e, hg, Nat.lt_of_lt_of_le hlt k.size⟩
theorem FOwn.fr {S : Nat → Prop} {B : Nat} {w : World} {f : Fld} (h : FOwn B w f) (hS : ∀ b, S b → b < B) : FR S w f :=
  ⟨h.rd, h.len, fun h0 => by
    obtain ⟨g, cs, t, e1, e2, hB, _⟩ := h.own h0
    exact ⟨g, e1, fun e => by have := hS g e; omega, hB.lt⟩⟩
/-- Fields as they are handed back, outside the blocks of S. -/
structure Fin' (w : World) (S : Nat → Prop) (u : Value) (fs : List Fld) : Prop where
  out : ∃ A b c, u = .slice A fs.length c ∧ (0 < fs.length → A = some ⟨b, 0, none⟩ ∧ ¬ S b ∧ b < w.heap.size ∧ ∀ j v, (cellsF fs)[j]? = some v → w.cell? ⟨b, j, none⟩ = some v)
  fld : ∀ f ∈ fs, FR S w f
theorem Fin'.step {S : Nat → Prop} {w w' : World} {u : Value} {fs : List Fld} (h : Fin' w S u fs) (k : Kpt S w w') : Fin' w' S u fs := by
  obtain ⟨A, b, c, hu, h2⟩ := h.out
  refine ⟨⟨A, b, c, hu, fun h0 => ?_⟩, fun f hf => (h.fld f hf).step k⟩
  obtain ⟨e1, e2, e3, e4⟩ := h2 h0
  exact ⟨e1, e2, Nat.lt_of_lt_of_le e3 k.size, fun j v hj => k.cell (e4 j v hj) e2⟩
theorem Fin'.row {S : Nat → Prop} {w : World} {u : Value} {fs : List Fld} (h : Fin' w S u fs) (h0 : 0 < w.heap.size) : ∃ A b c, u = .slice A fs.length c ∧ (0 < fs.length → A = some ⟨b, 0, none⟩) ∧ FRow w b 0 fs := by
  obtain ⟨A, b, c, hu, h2⟩ := h.out
  rcases Nat.eq_zero_or_pos fs.length with hz | hz
  · have e := List.eq_nil_of_length_eq_zero hz
    subst e
    exact ⟨A, 0, c, hu, fun h => absurd h (by simp), ⟨fun i hi => absurd hi (by simp), fun i hi => absurd hi (by simp), fun f hf => (by cases hf), h0⟩⟩
  · obtain ⟨e1, e2, e3, e4⟩ := h2 hz
    exact ⟨A, b, c, hu, fun _ => e1, ⟨fun i hi => by rw [Nat.zero_add]; exact e4 _ _ (cellsF_get hi).1, fun i hi => by rw [Nat.zero_add]; exact e4 _ _ (cellsF_get hi).2, fun f hf => ⟨(h.fld f hf).rd, (h.fld f hf).len⟩, e3⟩⟩
theorem FX.fin {w0 wf w : World} {i r k : Nat} {v : Value} {fs : List Fld} {ys : List Nat} (h : FX w0 wf w i r v k fs ys) (hk : fs.length = k) {S : Nat → Prop} (hS : ∀ b, S b → b < wf.heap.size) : Fin' w S v fs := by
  subst hk
  refine ⟨?_, fun f hf => (h.fld f hf).fr hS⟩
  have hrow := h.row
  rcases h.row.2 with ⟨rfl, h0⟩ | ⟨g, cap, cur, rfl, hb, hh, _⟩
  · exact ⟨none, 0, 0, by rw [h0], fun h => by omega⟩
  · refine ⟨_, g, cap, rfl, fun _ => ⟨rfl, fun e => ?_, (Array.getElem?_eq_some_iff.1 hh).1, fun j v hj => ?_⟩⟩
    · have := hS g e; omega
    · have hj2 : j < (cellsF fs).length := (List.getElem?_eq_some_iff.1 hj).1
      rw [cellsF_len] at hj2
      rw [hrow.cellAt j (by omega)]
      exact hj
def RF (l : List (Nat × List Nat)) (r : Nat) (u : Value) (w : World) : Prop := ∃ fs, fs.map Oc.says = l.map Oc.lays ∧ Fin' w (· = r) u fs
theorem RF.step {l : List (Nat × List Nat)} (r : Nat) (u : Value) (a b : World) (h : RF l r u a) (k : a.grownBy b (some r)) : RF l r u b := by
  obtain ⟨fs, h1, h2⟩ := h
  exact ⟨fs, h1, h2.step (Kpt.of_grown k rfl)⟩
theorem says_len {fs : List Fld} {l : List (Nat × List Nat)} (h : fs.map Oc.says = l.map Oc.lays) : fs.length = l.length := by simpa using congrArg List.length h
section
variable (s : ByteArray) (xs : List Nat) (a : Nat → Addr) (sh : Nat) (w0 w : World)
end
end Go.Proofs.YtjkneidoochfjaaGreatDoor
/- The function that Rest hands to Take. -/
namespace Go.Proofs.YtjkneidoochfjaaGreatDoor
open Go Go.RowKit
/-- What Rest's function leaves: the fields, and in block q what is left. -/
def RR (l : List (Nat × List Nat)) (ys : List Nat) (q : Nat) (r : Nat) (u : Value) (w : World) : Prop :=
  ∃ fs A c, fs.map Oc.says = l.map Oc.lays ∧ Fin' w (fun b => b = r ∨ b = q) u fs ∧ w.cell? ⟨q, 0, none⟩ = some (.slice A ys.length c) ∧ FR (fun b => b = r ∨ b = q) w ⟨0, A, ys.length, c, ys⟩ ∧ q ≠ r
theorem RR.step {l : List (Nat × List Nat)} {ys : List Nat} {q : Nat} (r : Nat) (u : Value) (a b : World) (h : RR l ys q r u a) (k : a.grownBy b (some r)) : RR l ys q r u b := by
  obtain ⟨fs, A, c, h1, h2, h3, h4, h5⟩ := h
  have hk : Kpt (fun b => b = r ∨ b = q) a b := Kpt.of_grown k (Or.inl rfl)
  exact ⟨fs, A, c, h1, h2.step hk, k.cell h3 (fun e => h5 (by injection e)), h4.step hk, h5⟩
section
variable (s : ByteArray) (xs : List Nat) (a : Nat → Addr) (sh q : Nat) (w0 w : World)
end
end Go.Proofs.YtjkneidoochfjaaGreatDoor
/- octets.Read and octets.Rest. -/
namespace Go.Proofs.YtjkneidoochfjaaGreatDoor
open Go Go.RowKit
section
variable (s : ByteArray) (xs : List Nat) (a : Nat → Addr) (A : Option Addr) (n c : Nat) (w : World)
end
end Go.Proofs.YtjkneidoochfjaaGreatDoor
/- The chapter's example (alive). -/
namespace Go.Proofs.YtjkneidoochfjaaGreatDoor
open Go Go.RowKit
end Go.Proofs.YtjkneidoochfjaaGreatDoor
/- The document's own reading (cartageref02.Rest): its words. -/
namespace Go.Proofs.YtjkneidoochfjaaGreatDoor
open Go Go.RowKit
namespace Oc
theorem val_mono {l : List Nat} {j : Nat} : ∀ {z : Nat}, j ≤ z → z ≤ l.length → val (l.take j) ≤ val (l.take z)
  | 0, h, _ => by rw [show j = 0 by omega]; exact Nat.le_refl _
  | z + 1, h, hz => by
    by_cases e : j = z + 1
    · rw [e]; exact Nat.le_refl _
    · have := val_mono (l := l) (j := j) (z := z) (by omega) (by omega)
      rw [val_take (by omega)]
      omega
theorem val_from : ∀ (l : List Nat) (a : Nat), l.foldl (fun n b => n * 256 + b) a = a * 256 ^ l.length + val l
  | [], a => by simp [val]
  | x :: l, a => by
    have h1 := val_from l (a * 256 + x)
    have h2 := val_from l x
    rw [List.foldl_cons, h1, List.length_cons, Nat.pow_succ]
    have e : val (x :: l) = x * 256 ^ l.length + val l := by
      show List.foldl _ (0 * 256 + x) l = _
      rw [Nat.zero_mul, Nat.zero_add, h2]
    rw [e, Nat.add_mul, Nat.mul_assoc, Nat.mul_comm 256]
    omega
theorem val_head {l : List Nat} (hb : bytes l) (hl : 8 ≤ l.length) : (4611686018427387903 < val (l.take 8)) ↔ 64 ≤ l.getD 0 0 := by
  rcases l with _ | ⟨x, l⟩
  · simp at hl
  have e : val ((x :: l).take 8) = x * 256 ^ 7 + val (l.take 7) := by
    show List.foldl _ (0 * 256 + x) (l.take 7) = _
    rw [Nat.zero_mul, Nat.zero_add, val_from, List.length_take, Nat.min_eq_left (by simp at hl; omega)]
  have hv := val_lt 7 (l.take 7) (bytes_take (fun y hy => hb y (List.mem_cons_of_mem _ hy)) 7) (by rw [List.length_take]; simp at hl; omega)
  rw [e]
  have h7 : (256 : Nat) ^ 7 = 72057594037927936 := by decide
  rw [h7] at hv ⊢
  show _ ↔ 64 ≤ x
  omega
theorem range_iff {c : Nat} (h : 0 ≤ size c) (h1 : c ≠ 111) (h2 : c ≠ 116) {l : List Nat} (hb : bytes l) (hl : zs c ≤ l.length) : (mostN c < val (l.take (zs c))) ↔ (zs c = 8 ∧ 64 ≤ l.getD 0 0) := by
  rcases letter h with rfl | rfl | rfl | rfl | rfl
  · have hv := val_lt 1 (l.take 1) (bytes_take hb 1) (by rw [List.length_take]; have : zs 98 = 1 := rfl; omega)
    have e1 : zs 98 = 1 := rfl
    have e2 : mostN 98 = 255 := rfl
    rw [e1, e2]
    omega
  · have e1 : zs 119 = 4 := rfl
    have e2 : mostN 119 = 4294967295 := rfl
    rw [e1] at hl
    have hv := val_lt 4 (l.take 4) (bytes_take hb 4) (by rw [List.length_take]; omega)
    have h4 : (256 : Nat) ^ 4 = 4294967296 := by decide
    rw [e1, e2]
    omega
  · have e1 : zs 113 = 8 := rfl
    have e2 : mostN 113 = 4611686018427387903 := rfl
    rw [e1] at hl
    rw [e1, e2, val_head hb hl]
    exact ⟨fun h => ⟨rfl, h⟩, fun h => h.2⟩
  · exact absurd rfl h1
  · exact absurd rfl h2
theorem most_small (c : Nat) : mostN c ≤ 4611686018427387903 := by
  have := most_le c
  unfold mostN
  omega
theorem val_two {l : List Nat} (h : 2 ≤ l.length) : val (l.take 2) = l.getD 0 0 * 256 + l.getD 1 0 := by
  rw [val_take (k := 1) (by omega), val_take (k := 0) (by omega)]
  simp [val]
end Oc
theorem OwnF.step {w0 w w' : World} {v : Value} {k : Nat} {cs : List Value} (h : OwnF w0 w v k cs) (hb : Below w.heap.size w w') : OwnF w0 w' v k cs :=
  ⟨h.own.kept (only_of_below hb none) (by cases hv : v.ownBlock with | none => exact Or.inl rfl | some g => exact Or.inr (by simp)), below_then h.bel hb, h.some_⟩
theorem OwnF.app {w0 w w' : World} {v v2 : Value} {k : Nat} {fs : List Fld} {f : Fld} (h : OwnF w0 w v k (cellsF fs)) (ho : w'.ownsRow w0.heap.size 77 2 v2 (k + 1) (cellsF fs ++ [.int .i64 f.n, .slice f.A f.l f.c])) (hg : w.grownBy w' v.ownBlock) : OwnF w0 w' v2 (k + 1) (cellsF (fs ++ [f])) :=
  ⟨by simpa [cellsF] using ho, below_own h.bel h.own (Nat.le_refl _) hg, by
    rcases ho.2 with ⟨_, h0⟩ | ⟨g, cp, cur, hv, _⟩
    · omega
    · exact ⟨g, cp, hv⟩⟩
end Go.Proofs.YtjkneidoochfjaaGreatDoor
/- Bytes and entries: what is read is what was laid, and what was laid is read. -/
namespace Go.Proofs.YtjkneidoochfjaaGreatDoor
open Go Go.RowKit
namespace En
theorem num_inv {c : Nat} (hc : c = 98 ∨ c = 113) {ys r : List Nat} {n : Nat} (hb : Oc.bytes ys) (h : num c ys = .ok n r) : ys = Oc.nums (Oc.zs c) n ++ r ∧ n ≤ Oc.mostN c ∧ Oc.bytes r := by
  have hn1 : c ≠ 111 := by omega
  have hn2 : c ≠ 116 := by omega
  unfold num at h
  rw [step_num hn1 hn2] at h
  by_cases h1 : ys.length < Oc.zs c
  · rw [if_pos h1] at h; cases h
  · rw [if_neg h1] at h
    by_cases h2 : Oc.mostN c < Oc.val (ys.take (Oc.zs c))
    · rw [if_pos h2] at h; cases h
    · rw [if_neg h2] at h
      injection h with h3 h4
      subst h3 h4
      refine ⟨?_, by omega, Oc.bytes_drop hb _⟩
      rw [Oc.nums_val (Oc.zs c) _ (Oc.bytes_take hb _) (by rw [List.length_take]; omega), List.take_append_drop]
theorem most_pow {c : Nat} (hc : c = 98 ∨ c = 113) : Oc.mostN c < 256 ^ Oc.zs c := by
  rcases hc with rfl | rfl <;> decide
theorem num_of {c : Nat} (hc : c = 98 ∨ c = 113) {r : List Nat} {n : Nat} (h : n ≤ Oc.mostN c) : num c (Oc.nums (Oc.zs c) n ++ r) = .ok n r := by
  have hn1 : c ≠ 111 := by omega
  have hn2 : c ≠ 116 := by omega
  have hl : (Oc.nums (Oc.zs c) n).length = Oc.zs c := Oc.nums_len _ _
  have ht : (Oc.nums (Oc.zs c) n ++ r).take (Oc.zs c) = Oc.nums (Oc.zs c) n := by rw [List.take_append_of_le_length (by rw [hl]; exact Nat.le_refl _), List.take_of_length_le (by rw [hl]; exact Nat.le_refl _)]
  have hd : (Oc.nums (Oc.zs c) n ++ r).drop (Oc.zs c) = r := by rw [List.drop_append, hl, Nat.sub_self, List.drop_zero, List.drop_of_length_le (by rw [hl]; exact Nat.le_refl _), List.nil_append]
  unfold num
  rw [step_num hn1 hn2, ht, Oc.val_nums _ _ (Nat.lt_of_le_of_lt h (most_pow hc)), if_neg (by rw [List.length_append, hl]; omega), if_neg (by omega)]
  dsimp only
  rw [hd]
theorem txt_inv {ys x r : List Nat} (hb : Oc.bytes ys) (h : txt ys = .ok x r) : ys = (Oc.nums 2 x.length ++ x) ++ r ∧ Oc.bytes x ∧ Oc.bytes r := by
  unfold txt at h
  rw [step_text] at h
  by_cases h1 : ys.length < 2
  · rw [if_pos h1] at h; cases h
  · rw [if_neg h1] at h
    by_cases h2 : ys.length < 2 + Oc.val (ys.take 2)
    · rw [if_pos h2] at h; cases h
    · rw [if_neg h2] at h
      injection h with h3 h4
      subst h3 h4
      refine ⟨?_, Oc.bytes_take (Oc.bytes_drop hb _) _, Oc.bytes_drop hb _⟩
      have hl : ((ys.drop 2).take (Oc.val (ys.take 2))).length = Oc.val (ys.take 2) := by rw [List.length_take, List.length_drop]; omega
      rw [hl, Oc.nums_val 2 _ (Oc.bytes_take hb _) (by rw [List.length_take]; omega), List.append_assoc, ← List.drop_drop, List.take_append_drop, List.take_append_drop]
theorem txt_of {x r : List Nat} (h : x.length < 65536) : txt ((Oc.nums 2 x.length ++ x) ++ r) = .ok x r := by
  have hl : (Oc.nums 2 x.length).length = 2 := Oc.nums_len _ _
  have ht : ((Oc.nums 2 x.length ++ x) ++ r).take 2 = Oc.nums 2 x.length := by rw [List.append_assoc, List.take_append_of_le_length (by rw [hl]; exact Nat.le_refl _), List.take_of_length_le (by rw [hl]; exact Nat.le_refl _)]
  have hd : ((Oc.nums 2 x.length ++ x) ++ r).drop 2 = x ++ r := by rw [List.append_assoc, List.drop_append, hl, Nat.sub_self, List.drop_zero, List.drop_of_length_le (by rw [hl]; exact Nat.le_refl _), List.nil_append]
  have hv : Oc.val (Oc.nums 2 x.length) = x.length := Oc.val_nums _ _ (by simpa using h)
  unfold txt
  rw [step_text, ht, hv, hd, if_neg (by simp only [List.length_append, hl]; omega), if_neg (by simp only [List.length_append, hl]; omega)]
  dsimp only
  rw [← List.drop_drop, hd, List.take_append_of_le_length (Nat.le_refl _), List.take_of_length_le (Nat.le_refl _), List.drop_append, Nat.sub_self, List.drop_zero, List.drop_of_length_le (Nat.le_refl _), List.nil_append]
theorem oid_inv {ys x r : List Nat} (hb : Oc.bytes ys) (h : oid ys = .ok x r) : ys = x ++ r ∧ Id32 x ∧ Oc.bytes r := by
  unfold oid at h
  rw [step_oid] at h
  by_cases h1 : ys.length < 32
  · rw [if_pos h1] at h; cases h
  · rw [if_neg h1] at h
    injection h with h3 h4
    subst h3 h4
    exact ⟨(List.take_append_drop _ _).symm, id_take hb (by omega), Oc.bytes_drop hb _⟩
theorem oid_of {x r : List Nat} (h : x.length = 32) : oid (x ++ r) = .ok x r := by
  unfold oid
  rw [step_oid, if_neg (by rw [List.length_append]; omega)]
  dsimp only
  rw [List.take_append_of_le_length (by omega), List.take_of_length_le (by omega), List.drop_append, h, Nat.sub_self, List.drop_zero, List.drop_of_length_le (by omega), List.nil_append]
def laidUp (u : Up) : List Nat := Oc.nums 2 (strB u.ref).length ++ strB u.ref ++ u.old ++ u.new
def laidOb (t : List Nat) : List Nat := Oc.nums 2 t.length ++ t
theorem laidUps_eq (us : List Up) : laidUps us = us.flatMap laidUp := rfl
theorem laidObjs_eq (os : List (List Nat)) : laidObjs os = os.flatMap laidOb := rfl
theorem rdUp_inv {ys r : List Nat} {u : Up} (hb : Oc.bytes ys) (h : rdUp ys = .ok u r) : ys = laidUp u ++ r ∧ u.Fit ∧ Oc.bytes r := by
  unfold rdUp at h
  cases h1 : txt ys with
  | bad e => rw [h1] at h; cases h
  | ok x r1 =>
    rw [h1] at h
    dsimp only at h
    obtain ⟨e1, hx, hr1⟩ := txt_inv hb h1
    cases h2 : oid r1 with
    | bad e => rw [h2] at h; cases h
    | ok a r2 =>
      rw [h2] at h
      dsimp only at h
      obtain ⟨e2, ha, hr2⟩ := oid_inv hr1 h2
      cases h3 : oid r2 with
      | bad e => rw [h3] at h; cases h
      | ok b r3 =>
        rw [h3] at h
        dsimp only at h
        obtain ⟨e3, hb3, hr3⟩ := oid_inv hr2 h3
        injection h with h4 h5
        subst h4 h5
        refine ⟨?_, ⟨ha, hb3⟩, hr3⟩
        unfold laidUp
        rw [strB_textOf x hx, e1, e2, e3]
        simp only [List.append_assoc]
theorem rdUp_of {r : List Nat} {u : Up} (hf : u.Fit) (hs : u.ref.size < 65536) : rdUp (laidUp u ++ r) = .ok u r := by
  unfold rdUp laidUp
  rw [show ((Oc.nums 2 (strB u.ref).length ++ strB u.ref ++ u.old ++ u.new) ++ r) = (Oc.nums 2 (strB u.ref).length ++ strB u.ref) ++ (u.old ++ (u.new ++ r)) by simp only [List.append_assoc], txt_of (by rw [strB_len]; exact hs)]
  dsimp only
  rw [oid_of hf.1.1]
  dsimp only
  rw [oid_of hf.2.1]
  dsimp only
  rw [textOf_strB]
theorem many_inv {α : Type} {f : List Nat → P α} {g : α → List Nat} {Q : α → Prop} (hf : ∀ ys a r, Oc.bytes ys → f ys = .ok a r → ys = g a ++ r ∧ Q a ∧ Oc.bytes r) : ∀ (n : Nat) (l : List α) (ys : List Nat) (l' : List α) (r : List Nat), Oc.bytes ys → many f n l ys = .ok l' r → ∃ l2, l' = l ++ l2 ∧ ys = l2.flatMap g ++ r ∧ l2.length = n ∧ (∀ a ∈ l2, Q a) ∧ Oc.bytes r
  | 0, l, ys, l', r, hb, h => by
    unfold many at h
    injection h with h1 h2
    subst h1 h2
    exact ⟨[], (List.append_nil _).symm, rfl, rfl, fun _ h => (by cases h), hb⟩
  | n + 1, l, ys, l', r, hb, h => by
    cases h1 : f ys with
    | bad e => rw [many_bad h1] at h; cases h
    | ok a r1 =>
      rw [many_next h1] at h
      obtain ⟨e1, hq, hb1⟩ := hf ys a r1 hb h1
      obtain ⟨l2, e2, e3, e4, e5, e6⟩ := many_inv hf n _ _ _ _ hb1 h
      refine ⟨a :: l2, by rw [e2, List.append_assoc]; rfl, by rw [e1, e3, List.flatMap_cons, List.append_assoc], by rw [List.length_cons, e4], fun x hx => ?_, e6⟩
      rcases List.mem_cons.1 hx with rfl | hx
      · exact hq
      · exact e5 x hx
theorem many_of {α : Type} {f : List Nat → P α} {g : α → List Nat} : ∀ (l2 l : List α) (r : List Nat), (∀ a ∈ l2, ∀ r, f (g a ++ r) = .ok a r) → many f l2.length l (l2.flatMap g ++ r) = .ok (l ++ l2) r
  | [], l, r, _ => by rw [List.append_nil]; rfl
  | a :: l2, l, r, h => by
    rw [List.length_cons, List.flatMap_cons, List.append_assoc, many_next (h a (List.mem_cons_self ..) _), many_of l2 _ r (fun b hb => h b (List.mem_cons_of_mem _ hb)), List.append_assoc]
    rfl
/-- what was read, taken apart -/
structure Rd (e : E) : Prop where
  c0 : 0 ≤ e.client
  n0 : 0 ≤ e.number
  a0 : 0 ≤ e.answer
  fit : ∀ u ∈ e.ups, u.Fit
  txt : ∀ x ∈ e.objs, Oc.bytes x
  nu : e.ups.length ≤ 255
  no : e.objs.length ≤ 255
theorem parts_inv {ys r : List Nat} {e : E} (hb : Oc.bytes ys) (h : parts ys = .ok e r) : ys = laid e ++ r ∧ Rd e ∧ Oc.bytes r := by
  unfold parts at h
  cases h1 : num 98 ys with
  | bad e => rw [h1] at h; cases h
  | ok c r1 =>
  rw [h1] at h; dsimp only at h
  obtain ⟨e1, m1, b1⟩ := num_inv (Or.inl rfl) hb h1
  cases h2 : num 113 r1 with
  | bad e => rw [h2] at h; cases h
  | ok n r2 =>
  rw [h2] at h; dsimp only at h
  obtain ⟨e2, m2, b2⟩ := num_inv (Or.inr rfl) b1 h2
  cases h3 : num 98 r2 with
  | bad e => rw [h3] at h; cases h
  | ok a r3 =>
  rw [h3] at h; dsimp only at h
  obtain ⟨e3, m3, b3⟩ := num_inv (Or.inl rfl) b2 h3
  cases h4 : num 98 r3 with
  | bad e => rw [h4] at h; cases h
  | ok nu r4 =>
  rw [h4] at h; dsimp only at h
  obtain ⟨e4, m4, b4⟩ := num_inv (Or.inl rfl) b3 h4
  cases h5 : many rdUp nu [] r4 with
  | bad e => rw [h5] at h; cases h
  | ok us r5 =>
  rw [h5] at h; dsimp only at h
  obtain ⟨us2, e5, e5b, l5, q5, b5⟩ := many_inv (fun ys u r hb h => rdUp_inv hb h) _ _ _ _ _ b4 h5
  cases h6 : num 98 r5 with
  | bad e => rw [h6] at h; cases h
  | ok no r6 =>
  rw [h6] at h; dsimp only at h
  obtain ⟨e6, m6, b6⟩ := num_inv (Or.inl rfl) b5 h6
  cases h7 : many En.txt no [] r6 with
  | bad e => rw [h7] at h; cases h
  | ok os r7 =>
  rw [h7] at h; dsimp only at h
  obtain ⟨os2, e7, e7b, l7, q7, b7⟩ := many_inv (g := laidOb) (Q := Oc.bytes) (fun ys u r hb h => txt_inv hb h) _ _ _ _ _ b6 h7
  injection h with h8 h9
  subst h8 h9
  rw [List.nil_append] at e5 e7
  subst e5 e7
  have k1 : Oc.zs 98 = 1 := rfl
  have k2 : Oc.zs 113 = 8 := rfl
  rw [k1] at e1 e3 e4 e6
  rw [k2] at e2
  refine ⟨?_, ⟨Int.natCast_nonneg _, Int.natCast_nonneg _, Int.natCast_nonneg _, q5, q7, by show us.length ≤ 255; rw [l5]; exact m4, by show os.length ≤ 255; rw [l7]; exact m6⟩, b7⟩
  rw [e1, e2, e3, e4, e5b, e6, e7b, ← l5, ← l7]
  unfold laid
  rw [laidUps_eq, laidObjs_eq]
  simp only [Int.toNat_natCast, List.append_assoc]
theorem parts_of {r : List Nat} {e : E} (hf : Frm e) (ht : ∀ u ∈ e.ups, u.Fit) : parts (laid e ++ r) = .ok e r := by
  obtain ⟨c, hc⟩ : ∃ c : Nat, e.client = c := ⟨e.client.toNat, by have := hf.c0; omega⟩
  obtain ⟨n, hn⟩ : ∃ c : Nat, e.number = c := ⟨e.number.toNat, by have := hf.n0; omega⟩
  obtain ⟨a, ha⟩ : ∃ c : Nat, e.answer = c := ⟨e.answer.toNat, by have := hf.a0; omega⟩
  have k1 : Oc.mostN 98 = 255 := rfl
  have k2 : Oc.mostN 113 = 4611686018427387903 := rfl
  unfold parts laid
  rw [laidUps_eq, laidObjs_eq, hc, hn, ha]
  simp only [Int.toNat_natCast, List.append_assoc]
  rw [show Oc.nums 1 c = Oc.nums (Oc.zs 98) c from rfl, num_of (Or.inl rfl) (by have := hf.c1; omega)]
  dsimp only
  rw [show Oc.nums 8 n = Oc.nums (Oc.zs 113) n from rfl, num_of (Or.inr rfl) (by have := hf.n1; omega)]
  dsimp only
  rw [show Oc.nums 1 a = Oc.nums (Oc.zs 98) a from rfl, num_of (Or.inl rfl) (by have := hf.a1; omega)]
  dsimp only
  rw [show Oc.nums 1 e.ups.length = Oc.nums (Oc.zs 98) e.ups.length from rfl, num_of (Or.inl rfl) (by have := hf.nu; omega)]
  dsimp only
  rw [many_of e.ups [] _ (fun u hu r => rdUp_of (ht u hu) (by have := hf.refs u hu; omega))]
  dsimp only
  rw [show Oc.nums 1 e.objs.length = Oc.nums (Oc.zs 98) e.objs.length from rfl, num_of (Or.inl rfl) (by have := hf.no; omega)]
  dsimp only
  rw [many_of (g := laidOb) e.objs [] r (fun t htm r => txt_of (by have := hf.objs t htm; omega))]
  dsimp only
  rw [List.nil_append, List.nil_append, ← hc, ← hn, ← ha]
theorem right_both {e : E} (h : right e = true) : formed e = true ∧ (laid e).length ≤ 2800 := by
  unfold right at h
  rw [Bool.and_eq_true, decide_eq_true_iff] at h
  exact h
theorem parse_of {e : E} (h : right e = true) (ht : ∀ u ∈ e.ups, u.Fit) : parse (laid e) = .ok e := by
  obtain ⟨h1, h2⟩ := right_both h
  have h3 := parts_of (r := []) (formed_frm h1) ht
  rw [List.append_nil] at h3
  unfold parse
  rw [if_neg (by omega), h3]
  dsimp only
  rw [if_neg (by simp), if_pos h]
theorem parse_inv {b : List Nat} {e : E} (hb : Oc.bytes b) (h : parse b = .ok e) : laid e = b ∧ right e = true ∧ Rd e := by
  unfold parse at h
  by_cases h1 : 2800 < b.length
  · rw [if_pos h1] at h; cases h
  · rw [if_neg h1] at h
    cases h2 : parts b with
    | bad e => rw [h2] at h; cases h
    | ok e2 r =>
      rw [h2] at h
      dsimp only at h
      by_cases h3 : 0 < r.length
      · rw [if_pos h3] at h; cases h
      · rw [if_neg h3] at h
        by_cases h4 : right e2 = true
        · rw [if_pos h4] at h
          injection h with h
          subst h
          obtain ⟨e5, h6, _⟩ := parts_inv hb h2
          rw [List.eq_nil_of_length_eq_zero (by omega : r.length = 0), List.append_nil] at e5
          exact ⟨e5.symm, h4, h6⟩
        · rw [if_neg h4] at h; cases h
end En
end Go.Proofs.YtjkneidoochfjaaGreatDoor
/- Bytes parsed as an entry: entry.Parse. -/
namespace Go.Proofs.YtjkneidoochfjaaGreatDoor
open Go Go.RowKit
/-- the errors that the laws of entries meet -/
structure ESL (w : World) (a : Nat → Addr) : Prop where
  s : ESents w a
  l : w.cell? ⟨4, 0, none⟩ = some (ev (a 2))
theorem ESL.at_ {w0 w : World} {a : Nat → Addr} (h : ESL w0 a) (hb : Below w0.heap.size w0 w) : ESL w a :=
  ⟨h.s.at_ hb, (hb.cell (block_lt_of_cell h.l)).trans h.l⟩
/-- which error the parts are met with, if any -/
def En.late (xs : List Nat) : Nat := match En.parts xs with
  | .bad e => e
  | .ok _ r => if 0 < r.length then 3 else 0
theorem En.late_parse {xs : List Nat} (h : xs.length ≤ 2800) (h0 : En.late xs ≠ 0) : En.parse xs = .bad (En.late xs) := by
  unfold En.parse
  rw [if_neg (by omega)]
  unfold En.late at h0 ⊢
  cases hp : En.parts xs with
  | bad e => rfl
  | ok e r =>
    rw [hp] at h0
    dsimp only at h0 ⊢
    by_cases h1 : 0 < r.length
    · rw [if_pos h1, if_pos h1]
    · rw [if_neg h1] at h0; exact absurd rfl h0
theorem En.bad_pos {xs : List Nat} {e : Nat} (h : En.parts xs = .bad e) : 0 < e := by
  have hn : ∀ {c : Nat} {ys : List Nat} {e : Nat}, En.num c ys = .bad e → 0 < e := by
    intro c ys e h
    unfold En.num Oc.step at h
    by_cases h1 : c = 111
    · rw [if_pos h1] at h
      by_cases h2 : ys.length < 32
      · rw [if_pos h2] at h; injection h with h; omega
      · rw [if_neg h2] at h; cases h
    · rw [if_neg h1] at h
      by_cases h2 : c = 116
      · rw [if_pos h2] at h
        by_cases h3 : ys.length < 2
        · rw [if_pos h3] at h; injection h with h; omega
        · rw [if_neg h3] at h
          by_cases h4 : ys.length < 2 + Oc.val (ys.take 2)
          · rw [if_pos h4] at h; injection h with h; omega
          · rw [if_neg h4] at h; cases h
      · rw [if_neg h2] at h
        by_cases h3 : ys.length < Oc.zs c
        · rw [if_pos h3] at h; injection h with h; omega
        · rw [if_neg h3] at h
          by_cases h4 : Oc.mostN c < Oc.val (ys.take (Oc.zs c))
          · rw [if_pos h4] at h; injection h with h; omega
          · rw [if_neg h4] at h; cases h
  have ht : ∀ {ys : List Nat} {e : Nat}, En.txt ys = .bad e → 0 < e := by
    intro ys e h
    unfold En.txt at h
    rw [step_text] at h
    by_cases h3 : ys.length < 2
    · rw [if_pos h3] at h; injection h with h; omega
    · rw [if_neg h3] at h
      by_cases h4 : ys.length < 2 + Oc.val (ys.take 2)
      · rw [if_pos h4] at h; injection h with h; omega
      · rw [if_neg h4] at h; cases h
  have ho : ∀ {ys : List Nat} {e : Nat}, En.oid ys = .bad e → 0 < e := by
    intro ys e h
    unfold En.oid at h
    rw [step_oid] at h
    by_cases h3 : ys.length < 32
    · rw [if_pos h3] at h; injection h with h; omega
    · rw [if_neg h3] at h; cases h
  have hu : ∀ {ys : List Nat} {e : Nat}, En.rdUp ys = .bad e → 0 < e := by
    intro ys e h
    unfold En.rdUp at h
    cases h1 : En.txt ys with
    | bad k => rw [h1] at h; injection h with h; subst h; exact ht h1
    | ok x r =>
      rw [h1] at h; dsimp only at h
      cases h2 : En.oid r with
      | bad k => rw [h2] at h; injection h with h; subst h; exact ho h2
      | ok a r =>
        rw [h2] at h; dsimp only at h
        cases h3 : En.oid r with
        | bad k => rw [h3] at h; injection h with h; subst h; exact ho h3
        | ok b r => rw [h3] at h; cases h
  have hm : ∀ {α : Type} {f : List Nat → En.P α}, (∀ ys e, f ys = .bad e → 0 < e) → ∀ (n : Nat) (l : List α) (ys : List Nat) (e : Nat), En.many f n l ys = .bad e → 0 < e := by
    intro α f hf n
    induction n with
    | zero => intro l ys e h; unfold En.many at h; cases h
    | succ n ih =>
      intro l ys e h
      cases h1 : f ys with
      | bad k => rw [En.many_bad h1] at h; injection h with h; subst h; exact hf _ _ h1
      | ok a r => rw [En.many_next h1] at h; exact ih _ _ _ h
  unfold En.parts at h
  cases h1 : En.num 98 xs with
  | bad k => rw [h1] at h; injection h with h; subst h; exact hn h1
  | ok c r =>
  rw [h1] at h; dsimp only at h
  cases h2 : En.num 113 r with
  | bad k => rw [h2] at h; injection h with h; subst h; exact hn h2
  | ok n r =>
  rw [h2] at h; dsimp only at h
  cases h3 : En.num 98 r with
  | bad k => rw [h3] at h; injection h with h; subst h; exact hn h3
  | ok a r =>
  rw [h3] at h; dsimp only at h
  cases h4 : En.num 98 r with
  | bad k => rw [h4] at h; injection h with h; subst h; exact hn h4
  | ok nu r =>
  rw [h4] at h; dsimp only at h
  cases h5 : En.many En.rdUp nu [] r with
  | bad k => rw [h5] at h; injection h with h; subst h; exact hm (fun ys e h => hu h) _ _ _ _ h5
  | ok us r =>
  rw [h5] at h; dsimp only at h
  cases h6 : En.num 98 r with
  | bad k => rw [h6] at h; injection h with h; subst h; exact hn h6
  | ok no r =>
  rw [h6] at h; dsimp only at h
  cases h7 : En.many En.txt no [] r with
  | bad k => rw [h7] at h; injection h with h; subst h; exact hm (fun ys e h => ht h) _ _ _ _ h7
  | ok os r => rw [h7] at h; cases h
theorem eread_enters (args : Array Value) (w : World) : (callFunc 31 args).run Tryz.prog w = .ok (.enter 31 args) w := by kernel_rfl
/-- what octets.Take of an entry answers -/
def TakeEPost (xs : List Nat) (a : Nat → Addr) (w : World) (e : Ending) (w' : World) : Prop :=
  Below w.heap.size w w' ∧ (En.late xs ≠ 0 → e = .returned (.tuple #[.agg zE, ev (a (En.late xs - 1))])) ∧ (En.late xs = 0 → ∃ cs m en U cu O co ts, e = .returned (.tuple #[.agg cs, .nilIface]) ∧ w.heap.size ≤ m ∧ En.parts xs = .ok en [] ∧ EnO m w' en cs U cu O co ts)
theorem takeE_any (xs : List Nat) (a : Nat → Addr) (A : Option Addr) (c : Nat) (w : World) (hv : Rd w (.slice A xs.length c) xs) (hb : Oc.bytes xs) (hz : xs.length ≤ 100000) (hS : ESL w a) :
    Calls Tryz.prog 30 #[.slice A xs.length c, .func (.func 31) #[] #[]] w (TakeEPost xs a w) := by
  have hread : ∀ (w2 : World) (i r : Nat), InAt w w2 i r xs → Calls Tryz.prog 31 (#[.pointer (some ⟨i, 0, none⟩)] ++ #[]) w2 fun e w' => EReadPost xs a w w2 i r e w' := fun w2 i r hi => eread_any i r xs a w w2 hi hb hz hS.s hi.all.2.1
  cases hp : En.parts xs with
  | bad k =>
    have hk := En.bad_pos hp
    have hl : En.late xs = k := by unfold En.late; rw [hp]
    refine (takeE_bad 31 #[] w w A xs.length c xs (a (k - 1)) eread_enters (Below.refl _ _) hv (fun w2 i r _ _ hi _ => (hread w2 i r hi).mono fun e w' hq => hq.1 k hp)).mono ?_
    rintro e w' ⟨rfl, hbl⟩
    exact ⟨hbl, fun _ => by rw [hl], fun h => by omega⟩
  | ok en zs =>
    by_cases h0 : 0 < zs.length
    · have hl : En.late xs = 3 := by unfold En.late; rw [hp]; exact if_pos h0
      refine (takeE_long 31 #[] w w A xs.length c xs zs (a 2) eread_enters (Below.refl _ _) hv (fun w2 i r _ _ hi _ => (hread w2 i r hi).mono fun e w' hq => ?_) h0 hS.l).mono ?_
      · obtain ⟨cs, U, cu, O, co, ts, he, h1, h2, h3⟩ := hq.2 en zs hp
        exact ⟨cs, he, h1.size, h1.one, h2, h3⟩
      · rintro e w' ⟨rfl, hbl⟩
        exact ⟨hbl, fun _ => by rw [hl], fun h => by omega⟩
    · obtain rfl : zs = [] := List.eq_nil_of_length_eq_zero (by omega)
      have hl : En.late xs = 0 := by unfold En.late; rw [hp]; exact if_neg h0
      refine (takeE_ok 31 #[] w w A xs.length c xs (fun m cs w' => ∃ U cu O co ts, EnO m w' en cs U cu O co ts) eread_enters (Below.refl _ _) hv (fun w2 i r _ _ hi _ => (hread w2 i r hi).mono fun e w' hq => ?_) (fun m cs x y ⟨U, cu, O, co, ts, h⟩ hk => ⟨U, cu, O, co, ts, h.kpt hk⟩)).mono ?_
      · obtain ⟨cs, U, cu, O, co, ts, he, h1, h2, h3⟩ := hq.2 en [] hp
        exact ⟨cs, he, h1.size, h1.one, h2, h3, U, cu, O, co, ts, h1⟩
      · rintro e w' ⟨cs, m, rfl, _, hm, ⟨U, cu, O, co, ts, h1⟩, hbl⟩
        exact ⟨hbl, fun h => absurd hl h, fun _ => ⟨cs, m, en, U, cu, O, co, ts, rfl, hm, hp, h1⟩⟩
end Go.Proofs.YtjkneidoochfjaaGreatDoor
