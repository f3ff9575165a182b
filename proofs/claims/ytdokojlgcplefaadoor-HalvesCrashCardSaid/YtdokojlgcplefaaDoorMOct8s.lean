/- Fields as bytes by the document's own Write (cartageref02.Write). -/
import Derived.Test.YtdokojlgcplefaaDoorMOct4s
import Derived.WalkLawsBesides
import Derived.WalkSpells
namespace Go.Proofs.YtdokojlgcplefaaDoor
open Go Go.RowKit
theorem Pad.step {w : World} {s : Value} {ys : List Nat} {wr w' : World} (h : Pad w.heap.size w s ys wr) (k : Below wr.heap.size wr w') : Pad w.heap.size w s ys w' :=
  ⟨h.own.kept (row := none) ⟨k.os, k.tape, k.output, k.size, fun i hi _ => k.block i hi⟩ (by cases s.ownBlock with | none => exact Or.inl rfl | some _ => exact Or.inr (by simp)),
   ⟨k.os.trans h.bel.os, k.tape.trans h.bel.tape, k.output.trans h.bel.output, Nat.le_trans h.bel.size k.size, fun i hi => (k.block i (Nat.lt_of_lt_of_le hi h.bel.size)).trans (h.bel.block i hi)⟩⟩
theorem Pad.drewN {B : Nat} {w : World} {s : Value} {ys : List Nat} {wr : World} (h : Pad B w s ys wr) (n : Nat) : Pad B w s ys (wr.drewN n) := ⟨h.own, below_drewN h.bel n⟩
theorem Others.of_below {a b : World} (h : Below a.heap.size a b) : Others a b := fun p _ _ _ _ e => (h.block p (Array.getElem?_eq_some_iff.1 e).1).trans e
namespace Oc
theorem known_at {s : ByteArray} {k : Nat} (h : known s.data.toList = true) (hk : k < s.size) : isL s[k] = true := by
 unfold known at h
 exact List.all_eq_true.1 h s[k] (by simp [ByteArray.getElem_eq_getElem_data])
end Oc
end Go.Proofs.YtdokojlgcplefaaDoor
/- Reading by shapes: which fields bytes are; what was written is read again, and what is read was written so. -/
namespace Go.Proofs.YtdokojlgcplefaaDoor
open Go Go.RowKit
namespace Oc
def val (l : List Nat) : Nat := l.foldl (fun n b => n * 256 + b) 0
theorem val_snoc (l : List Nat) (x : Nat) : val (l ++ [x]) = val l * 256 + x := by simp [val]
theorem val_take {l : List Nat} {k : Nat} (h : k < l.length) : val (l.take (k + 1)) = val (l.take k) * 256 + l.getD k 0 := by
 rw [List.take_succ_eq_append_getElem h, val_snoc]; simp [List.getD, h]
def bytes (l : List Nat) : Prop := ∀ x ∈ l, x < 256
theorem bytes_of {l : List Nat} (h : Sha.Byte l) : bytes l := fun x hx => by
 obtain ⟨i, hi, rfl⟩ := List.mem_iff_getElem.1 hx
 have := h i
 simpa [List.getD, hi] using this
theorem bytes_take {l : List Nat} (h : bytes l) (k : Nat) : bytes (l.take k) := fun x hx => h x (List.mem_of_mem_take hx)
theorem bytes_drop {l : List Nat} (h : bytes l) (k : Nat) : bytes (l.drop k) := fun x hx => h x (List.mem_of_mem_drop hx)
theorem val_lt : ∀ (s : Nat) (l : List Nat), bytes l → l.length = s → val l < 256 ^ s
 | 0, l, _, h => by rw [List.eq_nil_of_length_eq_zero h]; simp [val]
 | s + 1, l, hb, h => by
  have hne : l ≠ [] := by rintro rfl; simp at h
  rw [← List.dropLast_concat_getLast hne] at hb ⊢
  have h1 := val_lt s l.dropLast (fun x hx => hb x (List.mem_append_left _ hx)) (by simp [h])
  have h2 := hb (l.getLast hne) (by simp)
  rw [val_snoc, Nat.pow_succ]
  omega
theorem nums_succ' (s n : Nat) : nums (s + 1) n = nums s (n / 256) ++ [n % 256] := by
 unfold nums
 rw [List.range_succ, List.map_append]
 congr 1
 ·apply List.map_congr_left
  intro i hi
  have hi := List.mem_range.1 hi
  have e : 8 * (s + 1 - 1 - i) = 8 + 8 * (s - 1 - i) := by omega
  rw [e, Nat.pow_add, Nat.div_div_eq_div_mul]
 ·simp
theorem val_nums : ∀ (s n : Nat), n < 256 ^ s → val (nums s n) = n
 | 0, n, h => by simp at h; subst h; simp [nums, val]
 | s + 1, n, h => by
  rw [nums_succ', val_snoc, val_nums s (n / 256) (by rw [Nat.pow_succ] at h; omega)]
  omega
theorem nums_bytes (s n : Nat) : bytes (nums s n) := fun x hx => by
 obtain ⟨i, _, rfl⟩ := List.mem_map.1 hx
 exact Nat.mod_lt _ (by omega)
def zs (c : Nat) : Nat := (nsize c).toNat
def mostN (c : Nat) : Nat := (most c).toNat
inductive Stp where
 | bad (e : Nat)
 | ok (n : Nat) (x : List Nat) (k : Nat)
def step (c : Nat) (bs : List Nat) : Stp :=
 if c = 111 then (if bs.length < 32 then .bad 2 else .ok 0 (bs.take 32) 32)
 else if c = 116 then (if bs.length < 2 then .bad 2 else if bs.length < 2 + val (bs.take 2) then .bad 2 else .ok 0 ((bs.drop 2).take (val (bs.take 2))) (2 + val (bs.take 2)))
 else if bs.length < zs c then .bad 2 else if mostN c < val (bs.take (zs c)) then .bad 1 else .ok (val (bs.take (zs c))) [] (zs c)
inductive Got where
 | bad (e : Nat)
 | ok (l : List (Nat × List Nat)) (p : Nat)
def Got.next (bs : List Nat) (g : Got) (c : Nat) : Got :=
 match g with
 | .bad e => .bad e
 | .ok l p => match step c (bs.drop p) with
  | .bad e => .bad e
  | .ok n x k => .ok (l ++ [(n, x)]) (p + k)
def reads (s : List Nat) (bs : List Nat) : Got := s.foldl (Got.next bs) (.ok [] 0)
theorem reads_take {s bs : List Nat} {k : Nat} (h : k < s.length) : reads (s.take (k + 1)) bs = (reads (s.take k) bs).next bs s[k] := by
 unfold reads
 rw [List.take_succ_eq_append_getElem h, List.foldl_append]
 rfl
theorem next_bad (bs : List Nat) (e : Nat) : ∀ (s : List Nat), s.foldl (Got.next bs) (.bad e) = .bad e
 | [] => rfl
 | _ :: s => next_bad bs e s
theorem reads_bad {s bs : List Nat} {k e : Nat} (h : reads (s.take k) bs = .bad e) : reads s bs = .bad e := by
 unfold reads at h ⊢
 rw [← List.take_append_drop k s, List.foldl_append, h]
 exact next_bad bs e _
theorem next_ok (bs : List Nat) : ∀ (s : List Nat) (l0 : List (Nat × List Nat)) (p0 : Nat) (l : List (Nat × List Nat)) (p : Nat), s.foldl (Got.next bs) (.ok l0 p0) = .ok l p → ∃ l1, l = l0 ++ l1 ∧ l1.length = s.length
 | [], l0, p0, l, p, h => by
  injection h with h1 h2
  exact ⟨[], by simp [h1], rfl⟩
 | c :: s, l0, p0, l, p, h => by
  rw [List.foldl_cons, Got.next] at h
  cases hs : step c (bs.drop p0) with
  | bad e =>
   rw [hs] at h
   rw [next_bad] at h
   cases h
  | ok n x k =>
   rw [hs] at h
   obtain ⟨l1, h1, h2⟩ := next_ok bs s _ _ l p h
   exact ⟨(n, x) :: l1, by rw [h1]; simp, by simp [h2]⟩
theorem reads_len {s bs : List Nat} {l : List (Nat × List Nat)} {p : Nat} (h : reads s bs = .ok l p) : l.length = s.length := by
 obtain ⟨l1, h1, h2⟩ := next_ok bs s _ _ l p h
 rw [h1]; simpa using h2
theorem reads_pre {s bs : List Nat} {l : List (Nat × List Nat)} {p : Nat} (h : reads s bs = .ok l p) (k : Nat) (hk : k ≤ s.length) : ∃ pk, reads (s.take k) bs = .ok (l.take k) pk := by
 cases hr : reads (s.take k) bs with
 | bad e => rw [reads_bad hr] at h; cases h
 | ok lk pk =>
  have h1 := reads_len hr
  rw [List.length_take, Nat.min_eq_left hk] at h1
  have h2 := h
  unfold reads at h2 hr
  rw [← List.take_append_drop k s, List.foldl_append, hr] at h2
  obtain ⟨l1, h3, _⟩ := next_ok bs _ _ _ l p h2
  refine ⟨pk, ?_⟩
  rw [h3, List.take_left' h1]
theorem letter {c : Nat} (h : 0 ≤ size c) : c = 98 ∨ c = 119 ∨ c = 113 ∨ c = 111 ∨ c = 116 := by
 unfold size at h
 by_cases h1 : c = 98; · exact Or.inl h1
 by_cases h2 : c = 119; · exact Or.inr (Or.inl h2)
 by_cases h3 : c = 113; · exact Or.inr (Or.inr (Or.inl h3))
 by_cases h4 : c = 111; · exact Or.inr (Or.inr (Or.inr (Or.inl h4)))
 by_cases h5 : c = 116; · exact Or.inr (Or.inr (Or.inr (Or.inr h5)))
 rw [if_neg h1, if_neg h2, if_neg h3, if_neg h4, if_neg h5] at h
 omega
theorem zs_most {c : Nat} (h : 0 ≤ size c) (h1 : c ≠ 111) (h2 : c ≠ 116) : mostN c < 256 ^ zs c ∧ most c = mostN c := by
 rcases letter h with rfl | rfl | rfl | rfl | rfl
 ·exact ⟨by decide, rfl⟩
 ·exact ⟨by decide, rfl⟩
 ·exact ⟨by decide, rfl⟩
 ·exact absurd rfl h1
 ·exact absurd rfl h2
def says (f : Fld) : Int × List Nat := (f.n, f.bs)
def lays (q : Nat × List Nat) : Int × List Nat := ((q.1 : Int), q.2)
end Oc
end Go.Proofs.YtdokojlgcplefaaDoor
/- Reading, from below: how an In ends (end, Fail), goes on (next), what is left (Left), a copy of bytes (bytes.Clone). -/
namespace Go.Proofs.YtdokojlgcplefaaDoor
open Go Go.RowKit
abbrev stopV (r : Nat) : Value := .iface 137 (.agg #[.pointer (some ⟨r, 0, none⟩)])
structure Rdg (w : World) (i r : Nat) (v : Value) : Prop where
 i_ : Blk w i 127 #[.pointer (some ⟨r, 0, none⟩)]
 r_ : Blk w r 121 #[v, .bool true, .bool false, .nilIface]
 ne : i ≠ r
def Dead (w : World) (r : Nat) (e : Value) : Prop := ∃ v, Blk w r 121 #[v, .bool true, .bool true, e]
theorem Dead.grown {w w' : World} {r : Nat} {e : Value} (h : Dead w r e) (k : Below w.heap.size w w') : Dead w' r e := by
 obtain ⟨v, h⟩ := h
 exact ⟨v, h.below k h.lt⟩
def Fails (w : World) (r : Nat) (er : Value) (e : Ending) (w' : World) : Prop := e = .panicked [{ v := stopV r, recovered := false }] ∧ Dead w' r er ∧ w.grownBy w' (some r)
def InAt (w0 w : World) (i r : Nat) (xs : List Nat) : Prop := ∃ v, Rdg w i r v ∧ Rd w0 v xs ∧ Below w0.heap.size w0 w ∧ w0.heap.size ≤ r ∧ w0.heap.size ≤ i
theorem below_then {w0 w w' : World} (h : Below w0.heap.size w0 w) (k : Below w.heap.size w w') : Below w0.heap.size w0 w' :=
 ⟨k.os.trans h.os, k.tape.trans h.tape, k.output.trans h.output, Nat.le_trans h.size k.size, fun i hi => (k.block i (Nat.lt_of_lt_of_le hi h.size)).trans (h.block i hi)⟩
theorem InAt.below {w0 w w' : World} {i r : Nat} {xs : List Nat} (h : InAt w0 w i r xs) (hb : Below w.heap.size w w') : InAt w0 w' i r xs := by
 obtain ⟨v, k, hr, hw, h1, h2⟩ := h
 exact ⟨v, ⟨k.i_.below hb k.i_.lt, k.r_.below hb k.r_.lt, k.ne⟩, hr, below_then hw hb, h1, h2⟩
theorem InAt.lt {w0 w : World} {i r : Nat} {xs : List Nat} (h : InAt w0 w i r xs) : r < w.heap.size := by
 obtain ⟨v, k, _⟩ := h
 exact k.r_.lt
theorem InAt.bel {w0 w : World} {i r : Nat} {xs : List Nat} (h : InAt w0 w i r xs) : Below w0.heap.size w0 w ∧ w0.heap.size ≤ r := by
 obtain ⟨v, k, hr, hw, h1, h2⟩ := h
 exact ⟨hw, h1⟩
theorem RdB.rd {w : World} {p : Nat} {v : Value} {xs : List Nat} (h : RdB w p v xs) : Rd w v xs := by
 obtain ⟨A, c, h1, h2, h3⟩ := h
 exact ⟨A, c, h1, h2, fun h0 => by obtain ⟨b, o, g1, _, g3, g4⟩ := h3 h0; exact ⟨b, o, g1, g3, g4⟩⟩
theorem Rd.cut {w : World} {A : Option Addr} {n c : Nat} {xs : List Nat} (h : Rd w (.slice A n c) xs) {k : Nat} (hk : k ≤ xs.length) :
  Rd w (.slice (if c = k then A else A.map (·.add k)) (n - k) (c - k)) (xs.drop k) := ((h.out (Nat.le_refl _)).cut hk).rd
theorem oend_any (r : Nat) (v : Value) (ae : Addr) (w : World) (h : Blk w r 121 #[v, .bool true, .bool false, .nilIface]) :
  Calls Tryd.prog 86 #[.pointer (some ⟨r, 0, none⟩), (ev ae)] w fun e w' => e = .returned (.tuple #[]) ∧ Blk w' r 121 #[v, .bool true, .bool true, (ev ae)] ∧ w.grownBy w' (some r) := by
 have c2 : w.cell? ⟨r, 2, none⟩ = some (.bool false) := h.cell 2
 have c3 : w.cell? ⟨r, 3, none⟩ = some .nilIface := h.cell 3
 have z2 := h.frozen 2
 have z3 := h.frozen 3
 have HB : Hid (Blk ((w.setCell ⟨r, 2, none⟩ (.bool true)).setCell ⟨r, 3, none⟩ (ev ae)) r 121 #[v, .bool true, .bool true, (ev ae)]) := Lib.hid (by
  have h2 := (h.set_ 2 (.bool true)).set_ 3 (ev ae)
  simp only [List.setIfInBounds_toArray, List.set_cons_zero, List.set_cons_succ] at h2
  exact h2)
 have HG : Hid (w.grownBy ((w.setCell ⟨r, 2, none⟩ (.bool true)).setCell ⟨r, 3, none⟩ (ev ae)) (some r)) := Lib.hid (only_setCell (p := ⟨r, 3, none⟩) (only_setCell (p := ⟨r, 2, none⟩) (World.grownBy.refl w (some r)) (Or.inl rfl) _) (Or.inl rfl) _)
 clear h
 go_enter Tryd.func86, Tryd.ntmps86
 go_wp2
 go_end0
 exact ⟨rfl, HB.out, HG.out⟩
theorem fail_any (i r : Nat) (v : Value) (ae : Addr) (w : World) (h : Rdg w i r v) :
  Calls Tryd.prog 75 #[.pointer (some ⟨i, 0, none⟩), ev ae] w (Fails w r (ev ae)) := by
 have c0 : w.cell? ⟨i, 0, none⟩ = some (.pointer (some ⟨r, 0, none⟩)) := h.i_.cell 0
 have c1 : w.cell? ⟨r, 1, none⟩ = some (.bool true) := h.r_.cell 1
 have CE := oend_any r v ae w h.r_
 have HI := Lib.hid h.i_
 have hne := h.ne
 clear h
 go_enter Tryd.func75, Tryd.ntmps75
 go_wp2_with (go_at_call 86; refine CE.mono ?_; rintro e w' ⟨rfl, hB, hG⟩; have HB := Lib.hid hB; have HG := Lib.hid hG; have c2 : w'.cell? ⟨i, 0, none⟩ = some (.pointer (some ⟨r, 0, none⟩)) := (HI.out.grown hG (by intro e; injection e with e; exact hne e)).cell 0; clear hB hG)
 exact ⟨rfl, rfl, ⟨v, HB.out⟩, HG.out⟩
theorem left_any (i r : Nat) (xs : List Nat) (w0 w : World) (h : InAt w0 w i r xs) :
  Calls Tryd.prog 65 #[.pointer (some ⟨i, 0, none⟩)] w fun e w' => e = .returned (.int .i64 (xs.length : Int)) ∧ w = w' := by
 obtain ⟨v, h, hr, _⟩ := h
 obtain ⟨A, c, rfl, _, _⟩ := hr
 have c0 : w.cell? ⟨i, 0, none⟩ = some (.pointer (some ⟨r, 0, none⟩)) := h.i_.cell 0
 have c1 : w.cell? ⟨r, 0, none⟩ = some (.slice A xs.length c) := h.r_.cell 0
 clear h
 go_enter Tryd.func65, Tryd.ntmps65
 go_wp2
 go_ret
 exact ⟨rfl, rfl⟩
theorem Rd.cutHi {w : World} {A : Option Addr} {n c : Nat} {xs : List Nat} (h : Rd w (.slice A n c) xs) {k : Nat} (hk : k ≤ xs.length) : Rd w (.slice A k c) (xs.take k) := by
 obtain ⟨A', c', hv, hc, hA⟩ := h
 injection hv with e1 e2 e3
 subst e1 e2 e3
 have hl : (xs.take k).length = k := by rw [List.length_take]; omega
 refine ⟨_, _, by rw [hl], by rw [hl]; omega, fun h0 => ?_⟩
 rw [hl] at h0
 obtain ⟨b, o, ha, hlt, hx⟩ := hA (by omega)
 refine ⟨b, o, ha, hlt, fun i hi => ?_⟩
 rw [hl] at hi
 rw [hx i (by omega)]
 simp [List.getD, hi]
theorem run_sliceHi {P : Program} {t e : TypeId} (ht : P.underlying t = some (.slice e)) (hi : (P.info? e).map (·.size) = some 1) (A : Option Addr) (len cap h : Nat) (h1 : h ≤ cap)
  {x : Int} (el : x = h) (w : World) :
  (Instr.slice t (.slice A len cap) none (some (.int .i64 x)) none).run P w = .ok (.slice A h cap) w := by
 subst el
 cases hq : P.info? e with
 | none => simp [hq] at hi
 | some i =>
  have hs : i.size = 1 := by simpa [hq] using hi
  have hn : ((h : Nat) : Int) ≤ cap := by omega
  cases A <;> simp [Instr.slice, run_underlying ht, Instr.sliceBounds, run_sliceBound, sizeOf, typeInfo, hq, hn, Addr.add]
theorem run_sliceLoS {P : Program} {t e : TypeId} (ht : P.underlying t = some (.slice e)) (hi : (P.info? e).map (·.size) = some 1) (A : Option Addr) (len cap l : Nat) (h1 : l ≤ len)
  {lo : Int} (el : lo = l) (w : World) :
  (Instr.slice t (.slice A len cap) (some (.int .i64 lo)) none none).run P w = .ok (.slice (if cap = l then A else A.map (·.add l)) (len - l) (cap - l)) w := by
 subst el
 cases hq : P.info? e with
 | none => simp [hq] at hi
 | some i =>
  have hs : i.size = 1 := by simpa [hq] using hi
  have hn : ((l : Nat) : Int) ≤ len := by omega
  simp [Instr.slice, run_underlying ht, Instr.sliceBounds, run_sliceBound, sizeOf, typeInfo, hq, hs, hn]
theorem next_ok (i r n : Nat) (xs : List Nat) (w0 w : World) (h : InAt w0 w i r xs) (hn : n ≤ xs.length) :
  Calls Tryd.prog 64 #[.pointer (some ⟨i, 0, none⟩), .int .i64 (n : Int)] w fun e w' => ∃ v, e = .returned v ∧ Rd w0 v (xs.take n) ∧ InAt w0 w' i r (xs.drop n) ∧ w.grownBy w' (some r) := by
 obtain ⟨v, h, hr, hw0, hr0, hi0⟩ := h
 have HR := Lib.hid hr
 obtain ⟨A, c, rfl, hc, hA⟩ := hr
 clear hA
 have c0 : w.cell? ⟨i, 0, none⟩ = some (.pointer (some ⟨r, 0, none⟩)) := h.i_.cell 0
 have c1 : w.cell? ⟨r, 0, none⟩ = some (.slice A xs.length c) := h.r_.cell 0
 have c2 : w.cell? ⟨r, 1, none⟩ = some (.bool true) := h.r_.cell 1
 have c3 : w.cell? ⟨r, 2, none⟩ = some (.bool false) := h.r_.cell 2
 have z0 := h.r_.frozen 0
 have i1 : ¬ (xs.length : Int) < (n : Int) := by omega
 have q1 : ∀ w', (Instr.slice 39 (.slice A xs.length c) none (some (.int .i64 (n : Int))) none).run Tryd.prog w' = .ok (.slice A n c) w' := fun w' => run_sliceHi Tryd.underlying39 (by kernel_rfl) A xs.length c n (by omega) rfl w'
 have q2 : ∀ w', (Instr.slice 39 (.slice A xs.length c) (some (.int .i64 (n : Int))) none none).run Tryd.prog w' = .ok (.slice (if c = n then A else A.map (·.add n)) (xs.length - n) (c - n)) w' := fun w' => run_sliceLoS Tryd.underlying39 (by kernel_rfl) A xs.length c n hn rfl w'
 obtain ⟨A2, hA2⟩ : ∃ A2, A2 = (if c = n then A else A.map (·.add n)) := ⟨_, rfl⟩
 rw [← hA2] at q2
 have HG : ∀ m, Hid (w.grownBy ((w.setCell ⟨r, 0, none⟩ (.slice A2 (xs.length - n) (c - n))).drewN m) (some r)) := fun m => Lib.hid (only_drewN (only_setCell (World.grownBy.refl w _) (Or.inl rfl) _) m)
 have HI : ∀ m, Hid (InAt w0 ((w.setCell ⟨r, 0, none⟩ (.slice A2 (xs.length - n) (c - n))).drewN m) i r (xs.drop n)) := fun m => Lib.hid ⟨_, ⟨(h.i_.far h.ne _).drewN m, (h.r_.set_ 0 _).drewN m, h.ne⟩, by have hq := HR.out.cut hn; rw [← hA2] at hq; exact hq, below_of_only hw0 (HG m).out hr0, hr0, hi0⟩
 have HV : Hid (Rd w0 (.slice A n c) (xs.take n)) := Lib.hid (HR.out.cutHi hn)
 clear h hA2
 go_enter Tryd.func64, Tryd.ntmps64
 go_wp2
 go_region
 go_wp2
 go_ret
 exact ⟨_, rfl, HV.out, (HI 1).out, (HG 1).out⟩
end Go.Proofs.YtdokojlgcplefaaDoor
/- Reading, from below: an In that has too few bytes (next); a number (number), a copy of bytes (bytes.Clone). -/
namespace Go.Proofs.YtdokojlgcplefaaDoor
open Go Go.RowKit
theorem next_short (i r n : Nat) (aS : Addr) (xs : List Nat) (w0 w : World) (h : InAt w0 w i r xs) (hn : xs.length < n) (hS : w.cell? ⟨6, 0, none⟩ = some (ev aS)) :
  Calls Tryd.prog 64 #[.pointer (some ⟨i, 0, none⟩), .int .i64 (n : Int)] w (Fails w r (ev aS)) := by
 obtain ⟨v, h, hr, _⟩ := h
 obtain ⟨A, c, rfl, hc, hA⟩ := hr
 clear hA
 have c0 : w.cell? ⟨i, 0, none⟩ = some (.pointer (some ⟨r, 0, none⟩)) := h.i_.cell 0
 have c1 : w.cell? ⟨r, 0, none⟩ = some (.slice A xs.length c) := h.r_.cell 0
 have c2 : w.cell? ⟨r, 1, none⟩ = some (.bool true) := h.r_.cell 1
 have c3 : w.cell? ⟨r, 2, none⟩ = some (.bool false) := h.r_.cell 2
 have i1 : (xs.length : Int) < (n : Int) := by omega
 have CF := fail_any i r _ aS w h
 clear h
 go_enter Tryd.func64, Tryd.ntmps64
 go_wp2_with (go_at_call 75; refine CF.mono ?_; rintro e w' ⟨rfl, hd, hg⟩)
 exact ⟨rfl, rfl, hd, hg⟩
theorem clone_any (v : Value) (xs : List Nat) (w : World) (hv : Rd w v xs) (hz : xs.length ≤ 1099511627776) :
  Calls Tryd.prog 27 #[v] w fun e w' => ∃ A c, e = .returned (.slice A xs.length c) ∧ Rd w' (.slice A xs.length c) xs ∧ (0 < xs.length → ∃ g cs, A = some ⟨g, 0, none⟩ ∧ w.heap.size ≤ g ∧ Blk w' g 5 cs) ∧ Below w.heap.size w w' := by
 have HV := Lib.hid hv
 obtain ⟨A, c, rfl, hc, hA⟩ := hv
 have qT : ∀ (w : World) (a : Option Addr) (n c n' c' : Nat), (binOp .eql 39 (.slice a n c) (.slice none n' c')).run Tryd.prog w = .ok (.bool a.isNone) w := fun w a n c n' c' => Lib.run_eql_slice_nil w _ _ a n c n' c' Tryd.underlying39
 cases A with
 | none =>
  have h0 : xs.length = 0 := by
   rcases Nat.eq_zero_or_pos xs.length with h | h
   ·exact h
   ·obtain ⟨b, o, ha, _⟩ := hA h
    cases ha
  have e := List.eq_nil_of_length_eq_zero h0
  subst e
  clear hA
  go_enter Tryd.func27, Tryd.ntmps27
  go_wp2
  go_ret
  exact ⟨_, _, rfl, ⟨_, _, rfl, Nat.le_refl _, fun h => absurd h (by simp)⟩, fun h => absurd h (by simp), Below.refl _ _⟩
 | some a =>
  clear hA
  obtain ⟨n, hn⟩ : ∃ n, n = xs.length := ⟨_, rfl⟩
  rw [← hn] at hc hz HV ⊢
  have HN := Lib.hid hn
  clear hn
  have HP : Hid (Pad w.heap.size w (.slice (some ⟨w.heap.size, 0, none⟩) 0 0) [] (w.alloc (.cells #[] 5))) := Lib.hid ⟨World.ownsRow_lit w #[] 0 (Nat.le_refl _) (by decide) rfl, (Below.refl _ _).alloc (Nat.le_refl _) _⟩
  have HR1 := Lib.hid (rd_alloc HV.out (.cells #[] 5))
  have HZ : Hid (([] : List Nat).length + xs.length ≤ 70368744177664) := Lib.hid (by rw [← HN.out]; simp; omega)
  go_enter Tryd.func27, Tryd.ntmps27
  go_wp2_with (refine wpList_appendB rfl (.tmp 5) (.tmp 6) rfl w.heap.size _ [] rfl HP.out.own HP.out.bel.size _ rfl xs HR1.out HZ.out ?_; intro v2 w2 ho2 hg2; rw [List.nil_append] at ho2; have HP2 : Hid (Pad w.heap.size w v2 xs w2) := Lib.hid ⟨ho2, below_own HP.out.bel HP.out.own (Nat.le_refl _) hg2⟩; clear ho2 hg2)
  go_ret
  obtain ⟨A2, c2, rfl⟩ := HP2.out.len
  refine ⟨A2, c2, by rw [HN.out]; rfl, by rw [HN.out]; exact HP2.out.rd, fun h0 => ?_, HP2.out.bel⟩
  rcases HP2.out.own.2 with ⟨_, h1⟩ | ⟨g, cap, cur, hv, hb, hh, _⟩
  ·rw [HN.out] at h0; omega
  ·injection hv with e1 e2 e3
   exact ⟨g, cur, e1, hb, hh⟩
theorem or_byte (n b : Nat) (hn : n < 72057594037927936) (hb : b < 256) : bits .or .u64 (((n * 256 : Nat)) : Int) (b : Int) = ((n * 256 + b : Nat) : Int) := by
 rw [u64_or (n * 256) b (by omega) (by omega)]
 have h := Nat.shiftLeft_add_eq_or_of_lt (i := 8) (b := b) (by omega) n
 rw [Nat.shiftLeft_eq] at h
 rw [show n * 256 = n * 2^8 from rfl, ← h]
end Go.Proofs.YtdokojlgcplefaaDoor
/- Reading numbers: (*In).number, (*In).Num. -/
namespace Go.Proofs.YtdokojlgcplefaaDoor
open Go Go.RowKit
theorem Rd.open_ {w : World} {v : Value} {ys : List Nat} {s : Nat} (h : Rd w v ys) (hs : ys.length = s) : ∃ A c, v = .slice A s c ∧ s ≤ c ∧ (0 < s → ∃ b o, A = some ⟨b, o, none⟩ ∧ ∀ i, i < s → w.cell? ⟨b, o + i, none⟩ = some (.int .u8 ((ys.getD i 0 : Nat) : Int))) := by
 subst hs
 obtain ⟨A, c, h1, h2, h3⟩ := h
 exact ⟨A, c, h1, h2, fun h0 => by obtain ⟨b, o, g1, _, g4⟩ := h3 h0; exact ⟨b, o, g1, g4⟩⟩
theorem val_small {ys : List Nat} (hb : Oc.bytes ys) {k : Nat} (hk : k ≤ 7) (hl : k ≤ ys.length) : Oc.val (ys.take k) < 72057594037927936 := by
 have h := Oc.val_lt k (ys.take k) (Oc.bytes_take hb k) (by rw [List.length_take]; omega)
 have h2 : 256 ^ k ≤ 256 ^ 7 := Nat.pow_le_pow_right (by decide) hk
 have h3 : (256 : Nat) ^ 7 = 72057594037927936 := by decide
 omega
set_option maxRecDepth 100000 in
theorem number_ok (i r s : Nat) (xs : List Nat) (w0 w : World) (h : InAt w0 w i r xs) (hs : s ≤ 8) (hl : s ≤ xs.length) (hb : Oc.bytes xs) :
  Calls Tryd.prog 87 #[.pointer (some ⟨i, 0, none⟩), .int .i64 (s : Int)] w fun e w' => e = .returned (.int .u64 ((Oc.val (xs.take s) : Nat) : Int)) ∧ InAt w0 w' i r (xs.drop s) ∧ w.grownBy w' (some r) := by
 have CN := next_ok i r s xs w0 w h hl
 have hyl : (xs.take s).length = s := by rw [List.length_take]; omega
 have HY := Lib.hid (Oc.bytes_take hb s)
 obtain ⟨ys, hys⟩ : ∃ ys, ys = xs.take s := ⟨_, rfl⟩
 rw [← hys] at CN hyl HY ⊢
 clear hys h
 go_enter Tryd.func87, Tryd.ntmps87
 go_wp2_with (go_at_call 64; refine CN.mono ?_; rintro e w1 ⟨v, rfl, hv, hi, hg⟩; obtain ⟨A, c, rfl, hc, hA⟩ := (hv.below hi.bel.1 (Nat.le_refl _)).open_ hyl; have HI := Lib.hid hi; have HG := Lib.hid hg; clear hi hg hv CN)
 go_loopw [5, 12] (fun n j wr => ∃ k : Nat, k ≤ s ∧ n = .int .u64 ((Oc.val (ys.take k) : Nat) : Int) ∧ j = .int .i64 k ∧ wr = w1) (fun _ j _ => s - (intOf j).toNat)
 case atStart => exact ⟨0, by omega, rfl, rfl, rfl⟩
 case round =>
  obtain ⟨k, hk, rfl, rfl, rfl⟩ := hrel
  by_cases hlt : k < s
  ·obtain ⟨b, o, rfl, hx⟩ := hA (by omega)
   have p1 := hx k hlt
   have hvt := Oc.val_take (l := ys) (k := k) (by omega)
   have hv7 := val_small HY.out (k := k) (by omega) (by omega)
   have hb1 : ys.getD k 0 < 256 := by
    have h1 : k < ys.length := by omega
    rw [List.getD, List.getElem?_eq_getElem h1]
    exact HY.out _ (List.getElem_mem h1)
   generalize Oc.val (ys.take k) = V at hvt hv7
   generalize ys.getD k 0 = x at p1 hvt hb1
   have HVT := Lib.hid hvt
   have HOR := Lib.hid (or_byte V x hv7 hb1)
   have i0 : ((k : Nat) : Int) < s := by omega
   have i1 : (0 : Int) ≤ ((k : Nat) : Int) := by omega
   clear hx hA hvt
   go_wp2
   go_roundw
   case rel => exact ⟨k + 1, by omega, by rw [HVT.out, ← HOR.out]; simp, by go_num, (by first | rfl | trivial)⟩
   case measure => simp [intOf]; omega
  ·obtain rfl : k = s := by omega
   have H : Hid (ys.take k = ys) := Lib.hid (List.take_of_length_le (by omega))
   go_wp2
   go_ret
   exact ⟨by rw [H.out]; rfl, HI.out, HG.out⟩
theorem number_short (i r s : Nat) (aS : Addr) (xs : List Nat) (w0 w : World) (h : InAt w0 w i r xs) (hl : xs.length < s) (hS : w.cell? ⟨6, 0, none⟩ = some (ev aS)) :
  Calls Tryd.prog 87 #[.pointer (some ⟨i, 0, none⟩), .int .i64 (s : Int)] w (Fails w r (ev aS)) := by
 have CN := next_short i r s aS xs w0 w h hl hS
 clear h
 go_enter Tryd.func87, Tryd.ntmps87
 go_wp2_with (go_at_call 64; refine CN.mono ?_; rintro e w1 ⟨rfl, hd, hg⟩)
 exact ⟨rfl, rfl, hd, hg⟩
theorem to_u64 (n : Nat) (h : n ≤ 4611686018427387903) : IntKind.u64.wrap (n : Int) = (n : Int) := by rw [wrap_u64]; omega
theorem to_i64 (n : Nat) (h : n ≤ 4611686018427387903) : IntKind.i64.wrap (n : Int) = (n : Int) := IntWalk.i64_in _ (by omega)
theorem inum_short (i r c z : Nat) (aS : Addr) (xs : List Nat) (w0 w : World) (h : InAt w0 w i r xs) (hc : Oc.nsize c = z) (hz : 0 < z) (hl : xs.length < z) (hS : w.cell? ⟨6, 0, none⟩ = some (ev aS)) :
  Calls Tryd.prog 78 #[.pointer (some ⟨i, 0, none⟩), .int .u8 ((c : Nat) : Int)] w (Fails w r (ev aS)) := by
 have CN := number_short i r z aS xs w0 w h hl hS
 have CM := number_any c
 rw [hc] at CM
 have b0 : ((z : Int) == 0) = false := by simp; omega
 clear h
 go_enter Tryd.func78, Tryd.ntmps78
 go_wp2_with (first | (go_at_call 80; refine (CM _).mono ?_; rintro e w' ⟨rfl, rfl⟩) | (go_at_call 87; refine CN.mono ?_; rintro e w' ⟨rfl, hd, hg⟩))
 exact ⟨rfl, rfl, hd, hg⟩
theorem inum_ok (i r c z : Nat) (xs : List Nat) (w0 w : World) (h : InAt w0 w i r xs) (hc : Oc.nsize c = z) (hz : 0 < z) (hz8 : z ≤ 8) (hl : z ≤ xs.length) (hb : Oc.bytes xs) (hm : Oc.val (xs.take z) ≤ Oc.mostN c) (hmm : Oc.most c = Oc.mostN c) :
  Calls Tryd.prog 78 #[.pointer (some ⟨i, 0, none⟩), .int .u8 ((c : Nat) : Int)] w fun e w' => e = .returned (.int .i64 ((Oc.val (xs.take z) : Nat) : Int)) ∧ InAt w0 w' i r (xs.drop z) ∧ w.grownBy w' (some r) := by
 have CN := number_ok i r z xs w0 w h hz8 hl hb
 have CM := number_any c
 have hle := Oc.most_le c
 rw [hc, hmm] at CM
 rw [hmm] at hle
 generalize Oc.mostN c = M at hm hle CM
 generalize Oc.val (xs.take z) = V at hm CN ⊢
 have q1 := to_u64 M (by omega)
 have q2 := to_i64 V (by omega)
 have b0 : ((z : Int) == 0) = false := by simp; omega
 have i1 : ¬ (M : Int) < (V : Int) := by omega
 clear h hmm
 go_enter Tryd.func78, Tryd.ntmps78
 go_wp2_with (first | (go_at_call 80; refine (CM _).mono ?_; rintro e w' ⟨rfl, rfl⟩) | (go_at_call 87; refine CN.mono ?_; rintro e w' ⟨rfl, hi, hg⟩; have HI := Lib.hid hi; have HG := Lib.hid hg; clear hi hg))
 go_ret
 exact ⟨rfl, HI.out, HG.out⟩
theorem inum_range (i r c z : Nat) (aR : Addr) (xs : List Nat) (w0 w : World) (h : InAt w0 w i r xs) (hc : Oc.nsize c = z) (hz : 0 < z) (hz8 : z ≤ 8) (hl : z ≤ xs.length) (hb : Oc.bytes xs) (hm : Oc.mostN c < Oc.val (xs.take z)) (hmm : Oc.most c = Oc.mostN c) (hr1 : r ≠ 0) (hR : w.cell? ⟨0, 0, none⟩ = some (ev aR)) :
  Calls Tryd.prog 78 #[.pointer (some ⟨i, 0, none⟩), .int .u8 ((c : Nat) : Int)] w (Fails w r (ev aR)) := by
 have CN := number_ok i r z xs w0 w h hz8 hl hb
 have CM := number_any c
 have hle := Oc.most_le c
 have hvl := Oc.val_lt z (xs.take z) (Oc.bytes_take hb z) (by rw [List.length_take]; omega)
 rw [hc, hmm] at CM
 rw [hmm] at hle
 generalize Oc.mostN c = M at hm hle CM
 generalize Oc.val (xs.take z) = V at hm CN hvl
 have q1 := to_u64 M (by omega)
 have b0 : ((z : Int) == 0) = false := by simp; omega
 have i1 : (M : Int) < (V : Int) := by omega
 clear h hmm hvl
 go_enter Tryd.func78, Tryd.ntmps78
 go_wp2_with (first | (go_at_call 80; refine (CM _).mono ?_; rintro e w' ⟨rfl, rfl⟩) | (go_at_call 87; refine CN.mono ?_; rintro e w1 ⟨rfl, hi, hg⟩; have pR : w1.cell? ⟨0, 0, none⟩ = some (ev aR) := hg.cell hR (fun e => hr1 (by injection e with e; exact e.symm)); obtain ⟨v1, hi1, _⟩ := hi; have CF := fail_any i r v1 aR w1 hi1; have HG := Lib.hid hg; clear hg hi1) | (go_at_call 75; refine CF.mono ?_; rintro e w' ⟨rfl, hd, hg⟩))
 exact ⟨rfl, rfl, hd, only_trans HG.out hg⟩
end Go.Proofs.YtdokojlgcplefaaDoor
