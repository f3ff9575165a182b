/- Reading, from below: how an In ends (end, Fail), goes on (next), what is left (Left), a copy of bytes (bytes.Clone). -/
import Derived.Test.YtbllilokcalbcaaDoorMOct4s
import Derived.WalkLawsBesides
import Derived.WalkSpells
namespace Go.Proofs.YtbllilokcalbcaaDoor
open Go Go.RowKit
/-- the panic's value -/
abbrev stopV (r : Nat) : Value := .iface 155 (.agg #[.pointer (some ⟨r, 0, none⟩)])
/-- An In at block i, and its reading at block r: v is what is left. -/
structure Rdg (w : World) (i r : Nat) (v : Value) : Prop where
  i_ : Blk w i 145 #[.pointer (some ⟨r, 0, none⟩)]
  r_ : Blk w r 139 #[v, .bool true, .bool false, .nilIface]
  ne : i ≠ r
/-- A reading that has ended by an error. -/
def Dead (w : World) (r : Nat) (e : Value) : Prop := ∃ v, Blk w r 139 #[v, .bool true, .bool true, e]
theorem Dead.grown {w w' : World} {r : Nat} {e : Value} (h : Dead w r e) (k : Below w.heap.size w w') : Dead w' r e := by
  obtain ⟨v, h⟩ := h
  exact ⟨v, h.below k h.lt⟩
/-- what a call ends by that can't go on -/
def Fails (w : World) (r : Nat) (er : Value) (e : Ending) (w' : World) : Prop := e = .panicked [{ v := stopV r, recovered := false }] ∧ Dead w' r er ∧ w.grownBy w' (some r)
/-- An In whose bytes xs are left; they lie in the world w0. -/
def InAt (w0 w : World) (i r : Nat) (xs : List Nat) : Prop := ∃ v, Rdg w i r v ∧ Rd w0 v xs ∧ Below w0.heap.size w0 w ∧ w0.heap.size ≤ r ∧ w0.heap.size ≤ i
theorem below_then {w0 w w' : World} (h : Below w0.heap.size w0 w) (k : Below w.heap.size w w') : Below w0.heap.size w0 w' :=
  ⟨k.os.trans h.os, k.tape.trans h.tape, k.output.trans h.output, Nat.le_trans h.size k.size, fun i hi => (k.block i (Nat.lt_of_lt_of_le hi h.size)).trans (h.block i hi)⟩
theorem InAt.below {w0 w w' : World} {i r : Nat} {xs : List Nat} (h : InAt w0 w i r xs) (hb : Below w.heap.size w w') : InAt w0 w' i r xs := by
  obtain ⟨v, k, hr, hw, h1, h2⟩ := h
  exact ⟨v, ⟨k.i_.below hb k.i_.lt, k.r_.below hb k.r_.lt, k.ne⟩, hr, below_then hw hb, h1, h2⟩
theorem InAt.lt {w0 w : World} {i r : Nat} {xs : List Nat} (h : InAt w0 w i r xs) : r < w.heap.size := by
  obtain ⟨v, k, _⟩ := h
  exact k.r_.lt
theorem InAt.bel {w0 w : World} {i r : Nat} {xs : List Nat} (h : InAt w0 w i r xs) : Below w0.heap.size w0 w ∧ w0.heap.size ≤ r := by
  obtain ⟨v, k, hr, hw, h1, h2⟩ := h
  exact ⟨hw, h1⟩
theorem RdB.rd {w : World} {p : Nat} {v : Value} {xs : List Nat} (h : RdB w p v xs) : Rd w v xs := by
  obtain ⟨A, c, h1, h2, h3⟩ := h
  exact ⟨A, c, h1, h2, fun h0 => by obtain ⟨b, o, g1, _, g3, g4⟩ := h3 h0; exact ⟨b, o, g1, g3, g4⟩⟩
theorem Rd.cut {w : World} {A : Option Addr} {n c : Nat} {xs : List Nat} (h : Rd w (.slice A n c) xs) {k : Nat} (hk : k ≤ xs.length) :
    Rd w (.slice (if c = k then A else A.map (·.add k)) (n - k) (c - k)) (xs.drop k) := ((h.out (Nat.le_refl _)).cut hk).rd
theorem oend_any (r : Nat) (v : Value) (ae : Addr) (w : World) (h : Blk w r 139 #[v, .bool true, .bool false, .nilIface]) :
    Calls Tryd.prog 93 #[.pointer (some ⟨r, 0, none⟩), (ev ae)] w fun e w' => e = .returned (.tuple #[]) ∧ Blk w' r 139 #[v, .bool true, .bool true, (ev ae)] ∧ w.grownBy w' (some r) := by
  have c2 : w.cell? ⟨r, 2, none⟩ = some (.bool false) := h.cell 2
  have c3 : w.cell? ⟨r, 3, none⟩ = some .nilIface := h.cell 3
  have z2 := h.frozen 2
  have z3 := h.frozen 3
  have HB : Hid (Blk ((w.setCell ⟨r, 2, none⟩ (.bool true)).setCell ⟨r, 3, none⟩ (ev ae)) r 139 #[v, .bool true, .bool true, (ev ae)]) := Lib.hid (by
    have h2 := (h.set_ 2 (.bool true)).set_ 3 (ev ae)
    simp only [List.setIfInBounds_toArray, List.set_cons_zero, List.set_cons_succ] at h2
    exact h2)
  have HG : Hid (w.grownBy ((w.setCell ⟨r, 2, none⟩ (.bool true)).setCell ⟨r, 3, none⟩ (ev ae)) (some r)) := Lib.hid (only_setCell (p := ⟨r, 3, none⟩) (only_setCell (p := ⟨r, 2, none⟩) (World.grownBy.refl w (some r)) (Or.inl rfl) _) (Or.inl rfl) _)
  clear h
  go_enter Tryd.func93, Tryd.ntmps93
  go_wp2
  go_end0
  exact ⟨rfl, HB.out, HG.out⟩
theorem fail_any (i r : Nat) (v : Value) (ae : Addr) (w : World) (h : Rdg w i r v) :
    Calls Tryd.prog 82 #[.pointer (some ⟨i, 0, none⟩), ev ae] w (Fails w r (ev ae)) := by
  have c0 : w.cell? ⟨i, 0, none⟩ = some (.pointer (some ⟨r, 0, none⟩)) := h.i_.cell 0
  have c1 : w.cell? ⟨r, 1, none⟩ = some (.bool true) := h.r_.cell 1
  have CE := oend_any r v ae w h.r_
  have HI := Lib.hid h.i_
  have hne := h.ne
  clear h
  go_enter Tryd.func82, Tryd.ntmps82
  go_wp2_with (go_at_call 93; refine CE.mono ?_; rintro e w' ⟨rfl, hB, hG⟩; have HB := Lib.hid hB; have HG := Lib.hid hG; have c2 : w'.cell? ⟨i, 0, none⟩ = some (.pointer (some ⟨r, 0, none⟩)) := (HI.out.grown hG (by intro e; injection e with e; exact hne e)).cell 0; clear hB hG)
  exact ⟨rfl, rfl, ⟨v, HB.out⟩, HG.out⟩
theorem left_any (i r : Nat) (xs : List Nat) (w0 w : World) (h : InAt w0 w i r xs) :
    Calls Tryd.prog 72 #[.pointer (some ⟨i, 0, none⟩)] w fun e w' => e = .returned (.int .i64 (xs.length : Int)) ∧ w = w' := by
  obtain ⟨v, h, hr, _⟩ := h
  obtain ⟨A, c, rfl, _, _⟩ := hr
  have c0 : w.cell? ⟨i, 0, none⟩ = some (.pointer (some ⟨r, 0, none⟩)) := h.i_.cell 0
  have c1 : w.cell? ⟨r, 0, none⟩ = some (.slice A xs.length c) := h.r_.cell 0
  clear h
  go_enter Tryd.func72, Tryd.ntmps72
  go_wp2
  go_ret
  exact ⟨rfl, rfl⟩
theorem Rd.cutHi {w : World} {A : Option Addr} {n c : Nat} {xs : List Nat} (h : Rd w (.slice A n c) xs) {k : Nat} (hk : k ≤ xs.length) : Rd w (.slice A k c) (xs.take k) := by
  obtain ⟨A', c', hv, hc, hA⟩ := h
  injection hv with e1 e2 e3
  subst e1 e2 e3
  have hl : (xs.take k).length = k := by rw [List.length_take]; omega
  refine ⟨_, _, by rw [hl], by rw [hl]; omega, fun h0 => ?_⟩
  rw [hl] at h0
  obtain ⟨b, o, ha, hlt, hx⟩ := hA (by omega)
  refine ⟨b, o, ha, hlt, fun i hi => ?_⟩
  rw [hl] at hi
  rw [hx i (by omega)]
  simp [List.getD, hi]
theorem run_sliceHi {P : Program} {t e : TypeId} (ht : P.underlying t = some (.slice e)) (hi : (P.info? e).map (·.size) = some 1) (A : Option Addr) (len cap h : Nat) (h1 : h ≤ cap)
    {x : Int} (el : x = h) (w : World) :
    (Instr.slice t (.slice A len cap) none (some (.int .i64 x)) none).run P w = .ok (.slice A h cap) w := by
  subst el
  cases hq : P.info? e with
  | none => simp [hq] at hi
  | some i =>
    have hs : i.size = 1 := by simpa [hq] using hi
    have hn : ((h : Nat) : Int) ≤ cap := by omega
    cases A <;> simp [Instr.slice, run_underlying ht, Instr.sliceBounds, run_sliceBound, sizeOf, typeInfo, hq, hn, Addr.add]
theorem run_sliceLoS {P : Program} {t e : TypeId} (ht : P.underlying t = some (.slice e)) (hi : (P.info? e).map (·.size) = some 1) (A : Option Addr) (len cap l : Nat) (h1 : l ≤ len)
    {lo : Int} (el : lo = l) (w : World) :
    (Instr.slice t (.slice A len cap) (some (.int .i64 lo)) none none).run P w = .ok (.slice (if cap = l then A else A.map (·.add l)) (len - l) (cap - l)) w := by
  subst el
  cases hq : P.info? e with
  | none => simp [hq] at hi
  | some i =>
    have hs : i.size = 1 := by simpa [hq] using hi
    have hn : ((l : Nat) : Int) ≤ len := by omega
    simp [Instr.slice, run_underlying ht, Instr.sliceBounds, run_sliceBound, sizeOf, typeInfo, hq, hs, hn]
theorem next_ok (i r n : Nat) (xs : List Nat) (w0 w : World) (h : InAt w0 w i r xs) (hn : n ≤ xs.length) :
    Calls Tryd.prog 71 #[.pointer (some ⟨i, 0, none⟩), .int .i64 (n : Int)] w fun e w' => ∃ v, e = .returned v ∧ Rd w0 v (xs.take n) ∧ InAt w0 w' i r (xs.drop n) ∧ w.grownBy w' (some r) := by
  obtain ⟨v, h, hr, hw0, hr0, hi0⟩ := h
  have HR := Lib.hid hr
  obtain ⟨A, c, rfl, hc, hA⟩ := hr
  clear hA
  have c0 : w.cell? ⟨i, 0, none⟩ = some (.pointer (some ⟨r, 0, none⟩)) := h.i_.cell 0
  have c1 : w.cell? ⟨r, 0, none⟩ = some (.slice A xs.length c) := h.r_.cell 0
  have c2 : w.cell? ⟨r, 1, none⟩ = some (.bool true) := h.r_.cell 1
  have c3 : w.cell? ⟨r, 2, none⟩ = some (.bool false) := h.r_.cell 2
  have z0 := h.r_.frozen 0
  have i1 : ¬ (xs.length : Int) < (n : Int) := by omega
  have q1 : ∀ w', (Instr.slice 39 (.slice A xs.length c) none (some (.int .i64 (n : Int))) none).run Tryd.prog w' = .ok (.slice A n c) w' := fun w' => run_sliceHi Tryd.underlying39 (by kernel_rfl) A xs.length c n (by omega) rfl w'
  have q2 : ∀ w', (Instr.slice 39 (.slice A xs.length c) (some (.int .i64 (n : Int))) none none).run Tryd.prog w' = .ok (.slice (if c = n then A else A.map (·.add n)) (xs.length - n) (c - n)) w' := fun w' => run_sliceLoS Tryd.underlying39 (by kernel_rfl) A xs.length c n hn rfl w'
  obtain ⟨A2, hA2⟩ : ∃ A2, A2 = (if c = n then A else A.map (·.add n)) := ⟨_, rfl⟩
  rw [← hA2] at q2
  have HG : ∀ m, Hid (w.grownBy ((w.setCell ⟨r, 0, none⟩ (.slice A2 (xs.length - n) (c - n))).drewN m) (some r)) := fun m => Lib.hid (only_drewN (only_setCell (World.grownBy.refl w _) (Or.inl rfl) _) m)
  have HI : ∀ m, Hid (InAt w0 ((w.setCell ⟨r, 0, none⟩ (.slice A2 (xs.length - n) (c - n))).drewN m) i r (xs.drop n)) := fun m => Lib.hid ⟨_, ⟨(h.i_.far h.ne _).drewN m, (h.r_.set_ 0 _).drewN m, h.ne⟩, by have hq := HR.out.cut hn; rw [← hA2] at hq; exact hq, below_of_only hw0 (HG m).out hr0, hr0, hi0⟩
  have HV : Hid (Rd w0 (.slice A n c) (xs.take n)) := Lib.hid (HR.out.cutHi hn)
  clear h hA2
  go_enter Tryd.func71, Tryd.ntmps71
  go_wp2
  go_region
  go_wp2
  go_ret
  exact ⟨_, rfl, HV.out, (HI 1).out, (HG 1).out⟩
end Go.Proofs.YtbllilokcalbcaaDoor
/- Reading, from below: an In that has too few bytes (next); a number (number), a copy of bytes (bytes.Clone). -/
namespace Go.Proofs.YtbllilokcalbcaaDoor
open Go Go.RowKit
theorem next_short (i r n : Nat) (aS : Addr) (xs : List Nat) (w0 w : World) (h : InAt w0 w i r xs) (hn : xs.length < n) (hS : w.cell? ⟨4, 0, none⟩ = some (ev aS)) :
    Calls Tryd.prog 71 #[.pointer (some ⟨i, 0, none⟩), .int .i64 (n : Int)] w (Fails w r (ev aS)) := by
  obtain ⟨v, h, hr, _⟩ := h
  obtain ⟨A, c, rfl, hc, hA⟩ := hr
  clear hA
  have c0 : w.cell? ⟨i, 0, none⟩ = some (.pointer (some ⟨r, 0, none⟩)) := h.i_.cell 0
  have c1 : w.cell? ⟨r, 0, none⟩ = some (.slice A xs.length c) := h.r_.cell 0
  have c2 : w.cell? ⟨r, 1, none⟩ = some (.bool true) := h.r_.cell 1
  have c3 : w.cell? ⟨r, 2, none⟩ = some (.bool false) := h.r_.cell 2
  have i1 : (xs.length : Int) < (n : Int) := by omega
  have CF := fail_any i r _ aS w h
  clear h
  go_enter Tryd.func71, Tryd.ntmps71
  go_wp2_with (go_at_call 82; refine CF.mono ?_; rintro e w' ⟨rfl, hd, hg⟩)
  exact ⟨rfl, rfl, hd, hg⟩
theorem clone_any (v : Value) (xs : List Nat) (w : World) (hv : Rd w v xs) (hz : xs.length ≤ 1099511627776) :
    Calls Tryd.prog 31 #[v] w fun e w' => ∃ A c, e = .returned (.slice A xs.length c) ∧ Rd w' (.slice A xs.length c) xs ∧ (0 < xs.length → ∃ g cs, A = some ⟨g, 0, none⟩ ∧ w.heap.size ≤ g ∧ Blk w' g 5 cs) ∧ Below w.heap.size w w' := by
  have HV := Lib.hid hv
  obtain ⟨A, c, rfl, hc, hA⟩ := hv
  have qT : ∀ (w : World) (a : Option Addr) (n c n' c' : Nat), (binOp .eql 39 (.slice a n c) (.slice none n' c')).run Tryd.prog w = .ok (.bool a.isNone) w := fun w a n c n' c' => Lib.run_eql_slice_nil w _ _ a n c n' c' Tryd.underlying39
  cases A with
  | none =>
    have h0 : xs.length = 0 := by
      rcases Nat.eq_zero_or_pos xs.length with h | h
      · exact h
      · obtain ⟨b, o, ha, _⟩ := hA h
        cases ha
    have e := List.eq_nil_of_length_eq_zero h0
    subst e
    clear hA
    go_enter Tryd.func31, Tryd.ntmps31
    go_wp2
    go_ret
    exact ⟨_, _, rfl, ⟨_, _, rfl, Nat.le_refl _, fun h => absurd h (by simp)⟩, fun h => absurd h (by simp), Below.refl _ _⟩
  | some a =>
    clear hA
    obtain ⟨n, hn⟩ : ∃ n, n = xs.length := ⟨_, rfl⟩
    rw [← hn] at hc hz HV ⊢
    have HN := Lib.hid hn
    clear hn
    have HP : Hid (Pad w.heap.size w (.slice (some ⟨w.heap.size, 0, none⟩) 0 0) [] (w.alloc (.cells #[] 5))) := Lib.hid ⟨World.ownsRow_lit w #[] 0 (Nat.le_refl _) (by decide) rfl, (Below.refl _ _).alloc (Nat.le_refl _) _⟩
    have HR1 := Lib.hid (rd_alloc HV.out (.cells #[] 5))
    have HZ : Hid (([] : List Nat).length + xs.length ≤ 70368744177664) := Lib.hid (by rw [← HN.out]; simp; omega)
    go_enter Tryd.func31, Tryd.ntmps31
    go_wp2_with (refine wpList_appendB rfl (.tmp 5) (.tmp 6) rfl w.heap.size _ [] rfl HP.out.own HP.out.bel.size _ rfl xs HR1.out HZ.out ?_; intro v2 w2 ho2 hg2; rw [List.nil_append] at ho2; have HP2 : Hid (Pad w.heap.size w v2 xs w2) := Lib.hid ⟨ho2, below_own HP.out.bel HP.out.own (Nat.le_refl _) hg2⟩; clear ho2 hg2)
    go_ret
    obtain ⟨A2, c2, rfl⟩ := HP2.out.len
    refine ⟨A2, c2, by rw [HN.out]; rfl, by rw [HN.out]; exact HP2.out.rd, fun h0 => ?_, HP2.out.bel⟩
    rcases HP2.out.own.2 with ⟨_, h1⟩ | ⟨g, cap, cur, hv, hb, hh, _⟩
    · rw [HN.out] at h0; omega
    · injection hv with e1 e2 e3
      exact ⟨g, cur, e1, hb, hh⟩
theorem or_byte (n b : Nat) (hn : n < 72057594037927936) (hb : b < 256) : bits .or .u64 (((n * 256 : Nat)) : Int) (b : Int) = ((n * 256 + b : Nat) : Int) := by
  rw [u64_or (n * 256) b (by omega) (by omega)]
  have h := Nat.shiftLeft_add_eq_or_of_lt (i := 8) (b := b) (by omega) n
  rw [Nat.shiftLeft_eq] at h
  rw [show n * 256 = n * 2^8 from rfl, ← h]
end Go.Proofs.YtbllilokcalbcaaDoor
/- Reading numbers: (*In).number, (*In).Num. -/
namespace Go.Proofs.YtbllilokcalbcaaDoor
open Go Go.RowKit
theorem Rd.open_ {w : World} {v : Value} {ys : List Nat} {s : Nat} (h : Rd w v ys) (hs : ys.length = s) : ∃ A c, v = .slice A s c ∧ s ≤ c ∧ (0 < s → ∃ b o, A = some ⟨b, o, none⟩ ∧ ∀ i, i < s → w.cell? ⟨b, o + i, none⟩ = some (.int .u8 ((ys.getD i 0 : Nat) : Int))) := by
  subst hs
  obtain ⟨A, c, h1, h2, h3⟩ := h
  exact ⟨A, c, h1, h2, fun h0 => by obtain ⟨b, o, g1, _, g4⟩ := h3 h0; exact ⟨b, o, g1, g4⟩⟩
theorem val_small {ys : List Nat} (hb : Oc.bytes ys) {k : Nat} (hk : k ≤ 7) (hl : k ≤ ys.length) : Oc.val (ys.take k) < 72057594037927936 := by
  have h := Oc.val_lt k (ys.take k) (Oc.bytes_take hb k) (by rw [List.length_take]; omega)
  have h2 : 256 ^ k ≤ 256 ^ 7 := Nat.pow_le_pow_right (by decide) hk
  have h3 : (256 : Nat) ^ 7 = 72057594037927936 := by decide
  omega
set_option maxRecDepth 100000 in
theorem number_ok (i r s : Nat) (xs : List Nat) (w0 w : World) (h : InAt w0 w i r xs) (hs : s ≤ 8) (hl : s ≤ xs.length) (hb : Oc.bytes xs) :
    Calls Tryd.prog 94 #[.pointer (some ⟨i, 0, none⟩), .int .i64 (s : Int)] w fun e w' => e = .returned (.int .u64 ((Oc.val (xs.take s) : Nat) : Int)) ∧ InAt w0 w' i r (xs.drop s) ∧ w.grownBy w' (some r) := by
  have CN := next_ok i r s xs w0 w h hl
  have hyl : (xs.take s).length = s := by rw [List.length_take]; omega
  have HY := Lib.hid (Oc.bytes_take hb s)
  obtain ⟨ys, hys⟩ : ∃ ys, ys = xs.take s := ⟨_, rfl⟩
  rw [← hys] at CN hyl HY ⊢
  clear hys h
  go_enter Tryd.func94, Tryd.ntmps94
  go_wp2_with (go_at_call 71; refine CN.mono ?_; rintro e w1 ⟨v, rfl, hv, hi, hg⟩; obtain ⟨A, c, rfl, hc, hA⟩ := (hv.below hi.bel.1 (Nat.le_refl _)).open_ hyl; have HI := Lib.hid hi; have HG := Lib.hid hg; clear hi hg hv CN)
  go_loopw [5, 12] (fun n j wr => ∃ k : Nat, k ≤ s ∧ n = .int .u64 ((Oc.val (ys.take k) : Nat) : Int) ∧ j = .int .i64 k ∧ wr = w1) (fun _ j _ => s - (intOf j).toNat)
  case atStart => exact ⟨0, by omega, rfl, rfl, rfl⟩
  case round =>
    obtain ⟨k, hk, rfl, rfl, rfl⟩ := hrel
    by_cases hlt : k < s
    · obtain ⟨b, o, rfl, hx⟩ := hA (by omega)
      have p1 := hx k hlt
      have hvt := Oc.val_take (l := ys) (k := k) (by omega)
      have hv7 := val_small HY.out (k := k) (by omega) (by omega)
      have hb1 : ys.getD k 0 < 256 := by
        have h1 : k < ys.length := by omega
        rw [List.getD, List.getElem?_eq_getElem h1]
        exact HY.out _ (List.getElem_mem h1)
      generalize Oc.val (ys.take k) = V at hvt hv7
      generalize ys.getD k 0 = x at p1 hvt hb1
      have HVT := Lib.hid hvt
      have HOR := Lib.hid (or_byte V x hv7 hb1)
      have i0 : ((k : Nat) : Int) < s := by omega
      have i1 : (0 : Int) ≤ ((k : Nat) : Int) := by omega
      clear hx hA hvt
      go_wp2
      go_roundw
      case rel => exact ⟨k + 1, by omega, by rw [HVT.out, ← HOR.out]; simp, by go_num, (by first | rfl | trivial)⟩
      case measure => simp [intOf]; omega
    · obtain rfl : k = s := by omega
      have H : Hid (ys.take k = ys) := Lib.hid (List.take_of_length_le (by omega))
      go_wp2
      go_ret
      exact ⟨by rw [H.out]; rfl, HI.out, HG.out⟩
theorem number_short (i r s : Nat) (aS : Addr) (xs : List Nat) (w0 w : World) (h : InAt w0 w i r xs) (hl : xs.length < s) (hS : w.cell? ⟨4, 0, none⟩ = some (ev aS)) :
    Calls Tryd.prog 94 #[.pointer (some ⟨i, 0, none⟩), .int .i64 (s : Int)] w (Fails w r (ev aS)) := by
  have CN := next_short i r s aS xs w0 w h hl hS
  clear h
  go_enter Tryd.func94, Tryd.ntmps94
  go_wp2_with (go_at_call 71; refine CN.mono ?_; rintro e w1 ⟨rfl, hd, hg⟩)
  exact ⟨rfl, rfl, hd, hg⟩
theorem to_u64 (n : Nat) (h : n ≤ 4611686018427387903) : IntKind.u64.wrap (n : Int) = (n : Int) := by rw [wrap_u64]; omega
theorem to_i64 (n : Nat) (h : n ≤ 4611686018427387903) : IntKind.i64.wrap (n : Int) = (n : Int) := IntWalk.i64_in _ (by omega)
theorem inum_kind (i r c : Nat) (aK : Addr) (xs : List Nat) (w0 w : World) (h : InAt w0 w i r xs) (hc : Oc.nsize c = 0) (hK : w.cell? ⟨9, 0, none⟩ = some (ev aK)) :
    Calls Tryd.prog 85 #[.pointer (some ⟨i, 0, none⟩), .int .u8 ((c : Nat) : Int)] w (Fails w r (ev aK)) := by
  obtain ⟨v, h, _⟩ := h
  have CF := fail_any i r v aK w h
  have CM := number_any c
  rw [hc] at CM
  clear h
  go_enter Tryd.func85, Tryd.ntmps85
  go_wp2_with (first | (go_at_call 87; refine (CM _).mono ?_; rintro e w' ⟨rfl, rfl⟩) | (go_at_call 82; refine CF.mono ?_; rintro e w' ⟨rfl, hd, hg⟩))
  exact ⟨rfl, rfl, hd, hg⟩
theorem inum_short (i r c z : Nat) (aS : Addr) (xs : List Nat) (w0 w : World) (h : InAt w0 w i r xs) (hc : Oc.nsize c = z) (hz : 0 < z) (hl : xs.length < z) (hS : w.cell? ⟨4, 0, none⟩ = some (ev aS)) :
    Calls Tryd.prog 85 #[.pointer (some ⟨i, 0, none⟩), .int .u8 ((c : Nat) : Int)] w (Fails w r (ev aS)) := by
  have CN := number_short i r z aS xs w0 w h hl hS
  have CM := number_any c
  rw [hc] at CM
  have b0 : ((z : Int) == 0) = false := by simp; omega
  clear h
  go_enter Tryd.func85, Tryd.ntmps85
  go_wp2_with (first | (go_at_call 87; refine (CM _).mono ?_; rintro e w' ⟨rfl, rfl⟩) | (go_at_call 94; refine CN.mono ?_; rintro e w' ⟨rfl, hd, hg⟩))
  exact ⟨rfl, rfl, hd, hg⟩
theorem inum_ok (i r c z : Nat) (xs : List Nat) (w0 w : World) (h : InAt w0 w i r xs) (hc : Oc.nsize c = z) (hz : 0 < z) (hz8 : z ≤ 8) (hl : z ≤ xs.length) (hb : Oc.bytes xs) (hm : Oc.val (xs.take z) ≤ Oc.mostN c) (hmm : Oc.most c = Oc.mostN c) :
    Calls Tryd.prog 85 #[.pointer (some ⟨i, 0, none⟩), .int .u8 ((c : Nat) : Int)] w fun e w' => e = .returned (.int .i64 ((Oc.val (xs.take z) : Nat) : Int)) ∧ InAt w0 w' i r (xs.drop z) ∧ w.grownBy w' (some r) := by
  have CN := number_ok i r z xs w0 w h hz8 hl hb
  have CM := number_any c
  have hle := Oc.most_le c
  rw [hc, hmm] at CM
  rw [hmm] at hle
  generalize Oc.mostN c = M at hm hle CM
  generalize Oc.val (xs.take z) = V at hm CN ⊢
  have q1 := to_u64 M (by omega)
  have q2 := to_i64 V (by omega)
  have b0 : ((z : Int) == 0) = false := by simp; omega
  have i1 : ¬ (M : Int) < (V : Int) := by omega
  clear h hmm
  go_enter Tryd.func85, Tryd.ntmps85
  go_wp2_with (first | (go_at_call 87; refine (CM _).mono ?_; rintro e w' ⟨rfl, rfl⟩) | (go_at_call 94; refine CN.mono ?_; rintro e w' ⟨rfl, hi, hg⟩; have HI := Lib.hid hi; have HG := Lib.hid hg; clear hi hg))
  go_ret
  exact ⟨rfl, HI.out, HG.out⟩
theorem inum_range (i r c z : Nat) (aR : Addr) (xs : List Nat) (w0 w : World) (h : InAt w0 w i r xs) (hc : Oc.nsize c = z) (hz : 0 < z) (hz8 : z ≤ 8) (hl : z ≤ xs.length) (hb : Oc.bytes xs) (hm : Oc.mostN c < Oc.val (xs.take z)) (hmm : Oc.most c = Oc.mostN c) (hr1 : r ≠ 0) (hR : w.cell? ⟨0, 0, none⟩ = some (ev aR)) :
    Calls Tryd.prog 85 #[.pointer (some ⟨i, 0, none⟩), .int .u8 ((c : Nat) : Int)] w (Fails w r (ev aR)) := by
  have CN := number_ok i r z xs w0 w h hz8 hl hb
  have CM := number_any c
  have hle := Oc.most_le c
  have hvl := Oc.val_lt z (xs.take z) (Oc.bytes_take hb z) (by rw [List.length_take]; omega)
  rw [hc, hmm] at CM
  rw [hmm] at hle
  generalize Oc.mostN c = M at hm hle CM
  generalize Oc.val (xs.take z) = V at hm CN hvl
  have q1 := to_u64 M (by omega)
  have b0 : ((z : Int) == 0) = false := by simp; omega
  have i1 : (M : Int) < (V : Int) := by omega
  clear h hmm hvl
  go_enter Tryd.func85, Tryd.ntmps85
  go_wp2_with (first | (go_at_call 87; refine (CM _).mono ?_; rintro e w' ⟨rfl, rfl⟩) | (go_at_call 94; refine CN.mono ?_; rintro e w1 ⟨rfl, hi, hg⟩; have pR : w1.cell? ⟨0, 0, none⟩ = some (ev aR) := hg.cell hR (fun e => hr1 (by injection e with e; exact e.symm)); obtain ⟨v1, hi1, _⟩ := hi; have CF := fail_any i r v1 aR w1 hi1; have HG := Lib.hid hg; clear hg hi1) | (go_at_call 82; refine CF.mono ?_; rintro e w' ⟨rfl, hd, hg⟩))
  exact ⟨rfl, rfl, hd, only_trans HG.out hg⟩
end Go.Proofs.YtbllilokcalbcaaDoor
/- Reading texts and objects' names: (*In).Text, (*In).Oid. -/
namespace Go.Proofs.YtbllilokcalbcaaDoor
open Go Go.RowKit
theorem text_short (i r : Nat) (aS : Addr) (xs : List Nat) (w0 w : World) (h : InAt w0 w i r xs) (hl : xs.length < 2) (hS : w.cell? ⟨4, 0, none⟩ = some (ev aS)) :
    Calls Tryd.prog 84 #[.pointer (some ⟨i, 0, none⟩)] w (Fails w r (ev aS)) := by
  have CN : Calls Tryd.prog 94 #[.pointer (some ⟨i, 0, none⟩), .int .i64 2] w (Fails w r (ev aS)) := number_short i r 2 aS xs w0 w h hl hS
  clear h
  go_enter Tryd.func84, Tryd.ntmps84
  go_wp2_with (go_at_call 94; refine CN.mono ?_; rintro e w1 ⟨rfl, hd, hg⟩)
  exact ⟨rfl, rfl, hd, hg⟩
theorem text_short2 (i r : Nat) (aS : Addr) (xs : List Nat) (w0 w : World) (h : InAt w0 w i r xs) (hl : 2 ≤ xs.length) (hl2 : xs.length < 2 + Oc.val (xs.take 2)) (hb : Oc.bytes xs) (hr1 : r ≠ 4) (hS : w.cell? ⟨4, 0, none⟩ = some (ev aS)) :
    Calls Tryd.prog 84 #[.pointer (some ⟨i, 0, none⟩)] w (Fails w r (ev aS)) := by
  have CN : Calls Tryd.prog 94 #[.pointer (some ⟨i, 0, none⟩), .int .i64 2] w _ := number_ok i r 2 xs w0 w h (by omega) hl hb
  have hvl := Oc.val_lt 2 (xs.take 2) (Oc.bytes_take hb 2) (by rw [List.length_take]; omega)
  generalize Oc.val (xs.take 2) = V at CN hvl hl2
  have q2 := to_i64 V (by omega)
  have hlV : (xs.drop 2).length < V := by rw [List.length_drop]; omega
  clear h
  go_enter Tryd.func84, Tryd.ntmps84
  go_wp2_with (first | (go_at_call 94; refine CN.mono ?_; rintro e w1 ⟨rfl, hi, hg⟩; have CX := next_short i r V aS _ w0 w1 hi hlV (hg.cell hS (fun e => hr1 (by injection e with e; exact e.symm))); have HG := Lib.hid hg; clear hg hi) | (go_at_call 71; refine CX.mono ?_; rintro e w2 ⟨rfl, hd, hg⟩))
  exact ⟨rfl, rfl, hd, only_trans HG.out hg⟩
/-- what was read lies in a row of bytes of its own -/
def Own (B : Nat) (w : World) (A : Option Addr) (n c : Nat) (xs : List Nat) (t : TypeId) : Prop := Rd w (.slice A n c) xs ∧ xs.length = n ∧ (0 < n → ∃ g cs, A = some ⟨g, 0, none⟩ ∧ B ≤ g ∧ Blk w g t cs)
theorem text_ok (i r : Nat) (xs : List Nat) (w0 w : World) (h : InAt w0 w i r xs) (hl : 2 ≤ xs.length) (hl2 : 2 + Oc.val (xs.take 2) ≤ xs.length) (hb : Oc.bytes xs) (_hrl : r < w.heap.size) :
    Calls Tryd.prog 84 #[.pointer (some ⟨i, 0, none⟩)] w fun e w' => ∃ A c, e = .returned (.slice A (Oc.val (xs.take 2)) c) ∧ Own w.heap.size w' A (Oc.val (xs.take 2)) c ((xs.drop 2).take (Oc.val (xs.take 2))) 5 ∧ InAt w0 w' i r (xs.drop (2 + Oc.val (xs.take 2))) ∧ w.grownBy w' (some r) := by
  have CN : Calls Tryd.prog 94 #[.pointer (some ⟨i, 0, none⟩), .int .i64 2] w _ := number_ok i r 2 xs w0 w h (by omega) hl hb
  have hvl := Oc.val_lt 2 (xs.take 2) (Oc.bytes_take hb 2) (by rw [List.length_take]; omega)
  generalize Oc.val (xs.take 2) = V at CN hvl hl2 ⊢
  have q2 := to_i64 V (by omega)
  have hlV : V ≤ (xs.drop 2).length := by rw [List.length_drop]; omega
  have hyl : ((xs.drop 2).take V).length = V := by rw [List.length_take]; omega
  have HDD : Hid ((xs.drop 2).drop V = xs.drop (2 + V)) := Lib.hid (by rw [List.drop_drop])
  obtain ⟨ys, hys⟩ : ∃ ys, ys = (xs.drop 2).take V := ⟨_, rfl⟩
  rw [← hys] at hyl ⊢
  have HYS := Lib.hid hys
  clear h hys
  go_enter Tryd.func84, Tryd.ntmps84
  go_wp2_with (first | (go_at_call 94; refine CN.mono ?_; rintro e w1 ⟨rfl, hi, hg⟩; have CX := next_ok i r V _ w0 w1 hi hlV; have HG := Lib.hid hg; clear hg hi) | (go_at_call 71; refine CX.mono ?_; rintro e w2 ⟨v, rfl, hv, hi, hg⟩; have HI2 := Lib.hid hi; have HG2 := Lib.hid hg; rw [← HYS.out] at hv; have CC := clone_any v ys w2 (hv.below hi.bel.1 (Nat.le_refl _)) (by omega); clear hg hi hv) | (go_at_call 31; refine CC.mono ?_; rintro e w3 ⟨A, c, rfl, hr, hn, hbl⟩; have HR3 := Lib.hid hr; have HN3 := Lib.hid hn; have HB3 := Lib.hid hbl; clear hr hn hbl))
  go_ret
  have hg1 := only_trans HG.out HG2.out
  refine ⟨A, c, by rw [← hyl]; rfl, ⟨by rw [← hyl]; exact HR3.out, hyl, fun h0 => ?_⟩, ?_, only_trans hg1 (only_of_below HB3.out _)⟩
  · obtain ⟨g, cs, e1, e2, e3⟩ := HN3.out (by omega)
    exact ⟨g, cs, e1, Nat.le_trans hg1.size e2, e3⟩
  · rw [← HDD.out]
    exact HI2.out.below HB3.out
end Go.Proofs.YtbllilokcalbcaaDoor
/- Reading an object's name: (*In).Oid. -/
namespace Go.Proofs.YtbllilokcalbcaaDoor
open Go Go.RowKit
theorem oid_size : (Tryd.prog.info? 134).map (·.size) = some 32 := by kernel_rfl
theorem oid_zeros : (Tryd.prog.info? 134).map (fun i => i.zero) = some (some (.agg (u8s (List.replicate 32 0)))) := by kernel_rfl
abbrev oidBox (w : World) : World := w.alloc (.cells (u8s (List.replicate 32 0)) 134)
theorem only_setRow' {a w : World} {row : Option Nat} (h : a.grownBy w row) {g' : Nat} (hp : a.heap.size ≤ g') (cs : Array Value) : a.grownBy (w.setRow g' cs) row :=
  only_step h rfl rfl rfl (by simp [World.setRow]) fun i hi hne => setRow_other w g' i cs (by omega)
/-- copy of 32 bytes over a whole row -/
theorem wp_copy32 {o : Oper} {a : Act} {w : World} {K : Act → World → Prop} {Q : Exit → Act → World → Prop} (d s : Operand)
    (ho : o.op = .call { callee := .builtin .copy, args := #[d, s], argTypes := #[39, 39] }) (g : Nat) (t : TypeId) (zs : List Nat) (hg : Blk w g t (u8s zs)) (hz : zs.length = 32)
    (hd : a.eval d = .slice (some ⟨g, 0, none⟩) 32 32) (ad : Addr) (c : Nat) (hs : a.eval s = .slice (some ad) 32 c) (ys : List Nat) (hy : ys.length = 32)
    (hsrc : ∀ i, i < 32 → w.cell? (ad.add i) = some (.int .u8 ((ys.getD i 0 : Nat) : Int))) (h : K (a.put o.dst (.int .i64 32)) (w.setRow g (u8s ys))) : o.wp Tryd.prog a w K Q := by
  have hrun := run_copy_row (P := Tryd.prog) w 39 39 o.type 5 g 0 32 32 ad 32 c (u8s zs) t (cellsB ys) Tryd.underlying39 (by kernel_rfl) hg (by rw [cellsB_len, hy]; rfl) (fun j v hj => by
    have hjl : j < ys.length := by have := (List.getElem?_eq_some_iff.1 hj).1; rwa [cellsB_len] at this
    rw [cellsB_get hjl] at hj
    rw [hsrc j (by omega), hj]) (by rw [cellsB_len, u8s_size]; omega) (cellsB_one _)
  have e : ((u8s zs).toList.take 0 ++ cellsB ys ++ (u8s zs).toList.drop (0 + (cellsB ys).length)).toArray = u8s ys := by
    rw [cellsB_len, hy]
    simp [u8s, cellsB, hz]
  rw [e, cellsB_len, hy] at hrun
  unfold Oper.wp
  simp [execOp, ho, resolve, invoke, builtin, hd, hs, hrun, Result.andThen]
  exact h
theorem below_boxes (w : World) : Below w.heap.size w (oidBox (oidBox w)) := ((Below.refl _ _).alloc (Nat.le_refl _) _).alloc ((Below.refl _ _).alloc (Nat.le_refl _) _).size _
theorem oid_short (i r : Nat) (aS : Addr) (xs : List Nat) (w0 w : World) (h : InAt w0 w i r xs) (hl : xs.length < 32) (hS : w.cell? ⟨4, 0, none⟩ = some (ev aS)) :
    Calls Tryd.prog 83 #[.pointer (some ⟨i, 0, none⟩)] w (Fails w r (ev aS)) := by
  have hb := below_boxes w
  have CN : Calls Tryd.prog 71 #[.pointer (some ⟨i, 0, none⟩), .int .i64 32] (oidBox (oidBox w)).drew _ := next_short i r 32 aS xs w0 (oidBox (oidBox w)).drew (h.below (below_drewN hb 1)) hl ((below_drewN hb 1).cell (block_lt_of_cell hS) |>.trans hS)
  have HB := Lib.hid (below_drewN hb 1)
  clear h hb
  go_enter Tryd.func83, Tryd.ntmps83
  go_wp2
  refine wp_region_held (S := fun _ => True) (by kernel_rfl) ?_
  change wpAnyH _ _ _ _ _ _ _ _ (oidBox (oidBox w)).drew
  refine wpAnyH_take (i := 0) (v := ?_) rfl (by kernel_rfl) (by kernel_rfl) (by kernel_rfl) (fun _ _ _ h => h) (Or.inl ⟨by rfl, ?_⟩) trivial ?_
  rotate_left
  · intro w _; go_simp; with_reducible rfl
  try simp only [Act.put, List.getElem_toArray, List.getElem_cons_zero, List.setIfInBounds_toArray, List.set_cons_zero, List.set_cons_succ]
  refine wpAnyH_take (i := 1) (v := ?_) rfl (by kernel_rfl) (by kernel_rfl) (by kernel_rfl) (fun _ _ _ h => h) (Or.inl ⟨by rfl, ?_⟩) trivial ?_
  rotate_left
  · intro w _; go_simp; with_reducible rfl
  try simp only [Act.put, List.getElem_toArray, List.getElem_cons_zero, List.getElem_cons_succ, List.setIfInBounds_toArray, List.set_cons_zero, List.set_cons_succ]
  refine all_one (i := 2) (by kernel_rfl) rfl (by rfl) (fun K hK => ?_)
  go_simp
  refine CN.mono ?_
  rintro e w' ⟨rfl, hd, hg⟩
  exact ⟨rfl, rfl, hd, only_trans (only_of_below HB.out _) hg⟩
theorem oid_ok (i r : Nat) (xs : List Nat) (w0 w : World) (h : InAt w0 w i r xs) (hl : 32 ≤ xs.length) :
    Calls Tryd.prog 83 #[.pointer (some ⟨i, 0, none⟩)] w fun e w' => e = .returned (.agg (u8s (xs.take 32))) ∧ InAt w0 w' i r (xs.drop 32) ∧ w.grownBy w' (some r) := by
  have hb := below_boxes w
  have CN : Calls Tryd.prog 71 #[.pointer (some ⟨i, 0, none⟩), .int .i64 32] (oidBox (oidBox w)).drew _ := next_ok i r 32 xs w0 (oidBox (oidBox w)).drew (h.below (below_drewN hb 1)) hl
  have HB := Lib.hid (below_drewN hb 1)
  have hyl : (xs.take 32).length = 32 := by rw [List.length_take]; omega
  obtain ⟨ys, hys⟩ : ∃ ys, ys = xs.take 32 := ⟨_, rfl⟩
  rw [← hys] at CN hyl ⊢
  have HYL := Lib.hid hyl
  have HR0 : Hid (Blk (oidBox (oidBox w)).drew w.heap.size 134 (u8s (List.replicate 32 0))) := Lib.hid (((Blk.new w _ _).alloc _).drew)
  have HR1 : Hid (Blk (oidBox (oidBox w)).drew (w.heap.size + 1) 134 (u8s (List.replicate 32 0))) := Lib.hid (by
    have h := (Blk.new (oidBox w) 134 (u8s (List.replicate 32 0))).drew
    rwa [show (oidBox w).heap.size = w.heap.size + 1 by simp] at h)
  have HLT := Lib.hid h.lt
  have HLI : Hid (i < w.heap.size ∧ w0.heap.size ≤ w.heap.size) := Lib.hid (by obtain ⟨v, k, _, k2, _⟩ := h; exact ⟨k.i_.lt, k2.size⟩)
  clear h hb hys hyl
  go_enter Tryd.func83, Tryd.ntmps83
  go_wp2
  refine wp_region_held (S := fun _ => True) (by kernel_rfl) ?_
  change wpAnyH _ _ _ _ _ _ _ _ (oidBox (oidBox w)).drew
  refine wpAnyH_take (i := 0) (v := ?_) rfl (by kernel_rfl) (by kernel_rfl) (by kernel_rfl) (fun _ _ _ h => h) (Or.inl ⟨by rfl, ?_⟩) trivial ?_
  rotate_left
  · intro w _; go_simp; with_reducible rfl
  try simp only [Act.put, List.getElem_toArray, List.getElem_cons_zero, List.setIfInBounds_toArray, List.set_cons_zero, List.set_cons_succ]
  refine wpAnyH_take (i := 1) (v := ?_) rfl (by kernel_rfl) (by kernel_rfl) (by kernel_rfl) (fun _ _ _ h => h) (Or.inl ⟨by rfl, ?_⟩) trivial ?_
  rotate_left
  · intro w _; go_simp; with_reducible rfl
  try simp only [Act.put, List.getElem_toArray, List.getElem_cons_zero, List.getElem_cons_succ, List.setIfInBounds_toArray, List.set_cons_zero, List.set_cons_succ]
  refine all_one (i := 2) (by kernel_rfl) rfl (by rfl) (fun K hK => ?_)
  go_simp
  refine CN.mono ?_
  rintro e w1 ⟨v, rfl, hv, hi, hg⟩
  obtain ⟨A, c, rfl, hc, hA⟩ := (hv.below hi.bel.1 (Nat.le_refl _)).open_ HYL.out
  obtain ⟨b, o, rfl, hx⟩ := hA (by omega)
  have HX := Lib.hid hx
  have HI := Lib.hid hi
  have HG := Lib.hid (only_trans (only_of_below HB.out (some r)) hg)
  have HQ0 : Hid (Blk w1 w.heap.size 134 (u8s (List.replicate 32 0))) := Lib.hid (HR0.out.grown hg (fun e => by injection e with e; have := HLT.out; omega))
  have HQ1 : Hid (Blk w1 (w.heap.size + 1) 134 (u8s (List.replicate 32 0))) := Lib.hid (HR1.out.grown hg (fun e => by injection e with e; have := HLT.out; omega))
  clear hx hi hg hv hA
  dsimp only
  refine hK _ _ trivial ?_; clear hK K
  try simp only [Act.put, List.getElem_toArray, List.getElem_cons_zero, List.getElem_cons_succ, List.setIfInBounds_toArray, List.set_cons_zero, List.set_cons_succ]
  refine all_one (i := 3) (by kernel_rfl) rfl (by rfl) (fun K hK => ?_)
  refine wp_copy32 (.tmp 4) (.tmp 6) rfl (w.heap.size + 1) 134 (List.replicate 32 0) HQ1.out (by decide) rfl ⟨b, o, none⟩ c rfl ys HYL.out (fun j hj => by rw [Addr.add_mid]; exact HX.out j hj) ?_
  refine hK _ _ trivial ?_; clear hK K
  try simp only [Act.put, List.getElem_toArray, List.getElem_cons_zero, List.getElem_cons_succ, List.setIfInBounds_toArray, List.set_cons_zero, List.set_cons_succ]
  refine wpAnyH_done (by kernel_rfl) ?_ _
  have HW1 : Hid (Blk (w1.setRow (w.heap.size + 1) (u8s ys)) (w.heap.size + 1) 134 (u8s ys)) := Lib.hid (HQ1.out.row _)
  have HW0 : Hid (Blk (w1.setRow (w.heap.size + 1) (u8s ys)) w.heap.size 134 (u8s (List.replicate 32 0))) := Lib.hid (HQ0.out.farRow (by omega) _)
  go_wp2_with (first | (refine wpList_load_row rfl 134 (.tmp 3) rfl (w.heap.size + 1) rfl 134 (u8s ys) (0,0) _ HW1.out Tryd.underlying134 rfl (by rw [u8s_size, HYL.out]; exact oid_size) ?_) | (refine wpList_store_row rfl 134 (.tmp 2) (.tmp 8) rfl w.heap.size _ rfl rfl 134 _ HW0.out (by rw [u8s_size, HYL.out]; exact oid_size) (by rw [u8s_size, u8s_size, HYL.out]; rfl) (u8s_one _) ?_))
  have hlt := HLT.out
  refine bodyPost_ret (v := .agg (u8s ys)) (results_cell_row rfl _ _ w.heap.size 134 _ (0, 0) _ rfl (HW0.out.row _) Tryd.underlying134 rfl (by rw [u8s_size, HYL.out]; exact oid_size)) rfl ⟨rfl, ?_, only_setRow' (only_setRow' HG.out (by omega) _) (by omega) _⟩
  obtain ⟨v, k, hr, hw, h1, h2⟩ := HI.out
  have hli := HLI.out
  exact ⟨v, ⟨(k.i_.farRow (by omega) _).farRow (by omega) _, (k.r_.farRow (by omega) _).farRow (by omega) _, k.ne⟩, hr, below_row (below_row hw (by omega) _) (by omega) _, h1, h2⟩
end Go.Proofs.YtbllilokcalbcaaDoor
/- What the walk of (*In).fields keeps: the fields read so far lie in a row of the call's own, their bytes in blocks of their own. -/
namespace Go.Proofs.YtbllilokcalbcaaDoor
open Go Go.RowKit
def shN (s : ByteArray) : List Nat := s.data.toList.map (·.toNat)
theorem shN_len (s : ByteArray) : (shN s).length = s.size := by simp [shN]
theorem shN_get {s : ByteArray} {k : Nat} (h : k < s.size) : (shN s)[k]'(by rw [shN_len]; exact h) = s[k].toNat := by simp [shN, ByteArray.getElem_eq_getElem_data]
namespace Oc
theorem reads_ok_next {sh xs : List Nat} {k c n p m : Nat} {l : List (Nat × List Nat)} {x : List Nat} (h : reads (sh.take k) xs = .ok l p) (hk : k < sh.length) (hc : sh[k] = c) (hs : step c (xs.drop p) = .ok n x m) : reads (sh.take (k + 1)) xs = .ok (l ++ [(n, x)]) (p + m) := by
  rw [reads_take hk, h, Got.next, hc]
  simp only [hs]
theorem reads_bad_next {sh xs : List Nat} {k c p e : Nat} {l : List (Nat × List Nat)} (h : reads (sh.take k) xs = .ok l p) (hk : k < sh.length) (hc : sh[k] = c) (hs : step c (xs.drop p) = .bad e) : reads sh xs = .bad e := by
  refine reads_bad (k := k + 1) ?_
  rw [reads_take hk, h, Got.next, hc]
  simp only [hs]
end Oc
/-- A field whose bytes lie in a block of their own. -/
structure FOwn (B : Nat) (w : World) (f : Fld) : Prop where
  rd : Rd w (.slice f.A f.l f.c) f.bs
  len : f.bs.length = f.l
  own : 0 < f.l → ∃ g cs t, f.A = some ⟨g, 0, none⟩ ∧ B ≤ g ∧ Blk w g t cs ∧ t ≠ 100 ∧ t ≠ 139
def Kind (w : World) (row : Option Nat) : Prop := ∀ g, row = some g → ∃ cs t, Blk w g t cs ∧ (t = 100 ∨ t = 139)
theorem FOwn.step {B : Nat} {w w' : World} {f : Fld} {row : Option Nat} (h : FOwn B w f) (k : w.grownBy w' row) (hr : Kind w row) : FOwn B w' f := by
  have key : ∀ g cs t, Blk w g t cs → t ≠ 100 → t ≠ 139 → some g ≠ row := by
    rintro g cs t hB h1 h2 rfl
    obtain ⟨cs', t', hB', ht⟩ := hr g rfl
    have e := hB.symm.trans hB'
    injection e with e
    injection e with _ e _
    subst e
    exact ht.elim h1 h2
  refine ⟨?_, h.len, fun h0 => ?_⟩
  · obtain ⟨A', c', hv, hc, hA⟩ := h.rd
    refine ⟨A', c', hv, hc, fun h0 => ?_⟩
    obtain ⟨b, o, ha, hb, hx⟩ := hA h0
    injection hv with e1 e2 e3
    obtain ⟨g, cs, t, e4, _, hB, h1, h2⟩ := h.own (by rw [← h.len]; exact h0)
    rw [e1, ha] at e4
    injection e4 with e4
    injection e4 with e4 e5
    subst e4
    exact ⟨b, o, ha, Nat.lt_of_lt_of_le hb k.size, fun i hi => k.cell (hx i hi) (key b cs t hB h1 h2)⟩
  · obtain ⟨g, cs, t, e4, hg, hB, h1, h2⟩ := h.own h0
    exact ⟨g, cs, t, e4, hg, hB.grown k (key g cs t hB h1 h2), h1, h2⟩
theorem kind_none (w : World) : Kind w none := fun _ h => by cases h
theorem FOwn.below {B : Nat} {w w' : World} {f : Fld} (h : FOwn B w f) (hb : Below w.heap.size w w') : FOwn B w' f := h.step (only_of_below hb none) (kind_none w)
theorem kind_own {w : World} {B n : Nat} {v : Value} {cs : List Value} (h : w.ownsRow B 100 2 v n cs) : Kind w v.ownBlock := fun g hg => by
  rcases h.2 with ⟨rfl, _⟩ | ⟨g', cap, cur, rfl, _, hh, _⟩
  · cases hg
  · cases hg
    exact ⟨cur, _, hh, Or.inl rfl⟩
/-- The walk's state: k fields, and the bytes ys are left. -/
structure FX (w0 wf w : World) (i r : Nat) (v : Value) (k : Nat) (fs : List Fld) (ys : List Nat) : Prop where
  at_ : InAt w0 w i r ys
  row : w.ownsRow wf.heap.size 100 2 v k (cellsF fs)
  fld : ∀ f ∈ fs, FOwn wf.heap.size w f
  grw : wf.grownBy w (some r)
  old : r < wf.heap.size ∧ i < wf.heap.size ∧ w0.heap.size ≤ wf.heap.size
theorem InAt.kind {w0 w : World} {i r : Nat} {xs : List Nat} (h : InAt w0 w i r xs) : Kind w (some r) := fun g hg => by
  injection hg with hg
  subst hg
  obtain ⟨v, k, _⟩ := h
  exact ⟨_, _, k.r_, Or.inr rfl⟩
theorem own_ne {w : World} {B n r : Nat} {v : Value} {cs : List Value} {e : TypeId} (h : w.ownsRow B e 2 v n cs) (hr : r < B) : some r ≠ v.ownBlock := fun e => by
  have := (h.lt r e.symm).1
  omega
theorem FX.start {w0 w : World} {i r : Nat} {xs : List Nat} (h : InAt w0 w i r xs) : FX w0 w w i r (.slice none 0 0) 0 [] xs := by
  have h2 := h
  obtain ⟨v, k, hr, hw, h1, h3⟩ := h2
  exact ⟨h, ⟨by decide, .inl ⟨rfl, rfl⟩⟩, fun f hf => (by cases hf), World.grownBy.refl w _, k.r_.lt, k.i_.lt, hw.size⟩
section
variable {w0 wf w w' : World} {i r k : Nat} {v : Value} {fs : List Fld} {ys : List Nat}
theorem FX.read (h : FX w0 wf w i r v k fs ys) (hg : w.grownBy w' (some r)) {zs : List Nat} (hi : InAt w0 w' i r zs) : FX w0 wf w' i r v k fs zs :=
  ⟨hi, h.row.kept hg (by cases hv : v.ownBlock with | none => exact Or.inl rfl | some g => exact Or.inr (fun e => own_ne h.row h.old.1 (by rw [hv, e]))), fun f hf => (h.fld f hf).step hg h.at_.kind, only_trans h.grw hg, h.old⟩
theorem FX.below (h : FX w0 wf w i r v k fs ys) (hb : Below w.heap.size w w') : FX w0 wf w' i r v k fs ys :=
  ⟨h.at_.below hb, h.row.kept (only_of_below hb none) (by cases hv : v.ownBlock with | none => exact Or.inl rfl | some g => exact Or.inr (by simp)), fun f hf => (h.fld f hf).below hb, only_trans h.grw (only_of_below hb _), h.old⟩
theorem FX.app (h : FX w0 wf w i r v k fs ys) {v2 : Value} {f : Fld} (ho : w'.ownsRow wf.heap.size 100 2 v2 (k + 1) (cellsF fs ++ [.int .i64 f.n, .slice f.A f.l f.c])) (hg : w.grownBy w' v.ownBlock) (hf : FOwn wf.heap.size w f) : FX w0 wf w' i r v2 (k + 1) (fs ++ [f]) ys := by
  have hk := kind_own h.row
  have n1 := own_ne h.row h.old.1
  have n2 := own_ne h.row h.old.2.1
  obtain ⟨u, a, hr, hw, h1, h2⟩ := h.at_
  refine ⟨⟨u, ⟨a.i_.grown hg n2, a.r_.grown hg n1, a.ne⟩, hr, below_own hw h.row h.old.2.2 hg, h1, h2⟩, by simpa [cellsF] using ho, fun x hx => ?_, ?_, h.old⟩
  · rcases List.mem_append.1 hx with hx | hx
    · exact (h.fld x hx).step hg hk
    · rw [List.mem_singleton.1 hx]; exact hf.step hg hk
  · refine ⟨hg.os.trans h.grw.os, hg.tape.trans h.grw.tape, hg.output.trans h.grw.output, Nat.le_trans h.grw.size hg.size, fun j hj hne => ?_⟩
    rw [hg.block j (Nat.lt_of_lt_of_le hj h.grw.size) (own_ne h.row hj)]
    exact h.grw.block j hj hne
end
end Go.Proofs.YtbllilokcalbcaaDoor
/- The walk of (*In).fields. -/
namespace Go.Proofs.YtbllilokcalbcaaDoor
open Go Go.RowKit
/-- The error values that layer 2 knows. -/
def OSents (w : World) (a : Nat → Addr) : Prop := ∀ k, (k = 0 ∨ k = 1 ∨ k = 2 ∨ k = 3 ∨ k = 6) → SentAt w (sgs.getD k 0) (stexts.getD k []) (a k)
theorem OSents.below {w w' : World} {a : Nat → Addr} (h : OSents w a) {B : Nat} (hb : Below B w w') (hB : w.heap.size ≤ B) : OSents w' a := fun k hk => (h k hk).below hb hB
theorem Sents.o {w : World} {a : Nat → Addr} (h : Sents w a) : OSents w a := fun k hk => h k (by omega)
theorem fldO_info : (Tryd.prog.info? 100).map (fun i => (i.zero, i.size, i.bytes)) = some (some (.agg #[.int .i64 0, .slice none 0 0]), 2, 32) := by kernel_rfl
/-- What fields answers. -/
def FieldsPost (s : ByteArray) (xs : List Nat) (a : Nat → Addr) (w0 w : World) (i r : Nat) (e : Ending) (w' : World) : Prop :=
  (Oc.known s.data.toList = false → Fails w r (ev (a 6)) e w') ∧
  (Oc.known s.data.toList = true → ∀ c, Oc.reads (shN s) xs = .bad c → Fails w r (ev (a (c - 1))) e w') ∧
  (Oc.known s.data.toList = true → ∀ l p, Oc.reads (shN s) xs = .ok l p → ∃ v fs, e = .returned v ∧ fs.map Oc.says = l.map Oc.lays ∧ FX w0 w w' i r v s.size fs (xs.drop p))
theorem fails_from {w wr w' : World} {r : Nat} {er : Value} {e : Ending} (h : Fails wr r er e w') (g : w.grownBy wr (some r)) : Fails w r er e w' := ⟨h.1, h.2.1, only_trans g h.2.2⟩
theorem fld_num (B : Nat) (w : World) (n : Int) : FOwn B w ⟨n, none, 0, 0, []⟩ := ⟨⟨none, 0, rfl, Nat.le_refl _, fun h => absurd h (by simp)⟩, rfl, fun h => absurd h (by simp)⟩
theorem fld_own {B : Nat} {w : World} {A : Option Addr} {V c : Nat} {ys : List Nat} {B' : Nat} (h : Own B' w A V c ys 5) (hB : B ≤ B') : FOwn B w ⟨0, A, V, c, ys⟩ :=
  ⟨h.1, h.2.1, fun h0 => by obtain ⟨g, cs, e1, e2, e3⟩ := h.2.2 h0; exact ⟨g, cs, _, e1, Nat.le_trans hB e2, e3, by decide, by decide⟩⟩
theorem fld_oid {B : Nat} {w : World} (hB : B ≤ w.heap.size) {ys : List Nat} (hy : ys.length = 32) : FOwn B ((oidBox w).setRow w.heap.size (u8s ys)) ⟨0, some ⟨w.heap.size, 0, none⟩, 32, 32, ys⟩ := by
  have hb : Blk ((oidBox w).setRow w.heap.size (u8s ys)) w.heap.size 134 (u8s ys) := (Blk.new w _ _).row _
  refine ⟨⟨_, _, by rw [hy], by rw [hy]; exact Nat.le_refl _, fun _ => ⟨_, _, rfl, hb.lt, fun i hi => ?_⟩⟩, hy, fun _ => ⟨_, _, _, rfl, hB, hb, by decide, by decide⟩⟩
  rw [Nat.zero_add, hb.cell i, u8s_get _ _ hi]
theorem below_oid (w : World) (cs : Array Value) : Below w.heap.size w ((oidBox w).setRow w.heap.size cs) := below_row ((Below.refl _ _).alloc (Nat.le_refl _) _) (Nat.le_refl _) _
theorem step_num {c : Nat} (h1 : c ≠ 111) (h2 : c ≠ 116) (xs : List Nat) : Oc.step c xs = if xs.length < Oc.zs c then .bad 2 else if Oc.mostN c < Oc.val (xs.take (Oc.zs c)) then .bad 1 else .ok (Oc.val (xs.take (Oc.zs c))) [] (Oc.zs c) := by
  unfold Oc.step; rw [if_neg h1, if_neg h2]
theorem step_oid (xs : List Nat) : Oc.step 111 xs = if xs.length < 32 then .bad 2 else .ok 0 (xs.take 32) 32 := rfl
theorem step_text (xs : List Nat) : Oc.step 116 xs = if xs.length < 2 then .bad 2 else if xs.length < 2 + Oc.val (xs.take 2) then .bad 2 else .ok 0 ((xs.drop 2).take (Oc.val (xs.take 2))) (2 + Oc.val (xs.take 2)) := rfl
theorem says_snoc {fs : List Fld} {l : List (Nat × List Nat)} (h : fs.map Oc.says = l.map Oc.lays) {f : Fld} {n : Nat} {x : List Nat} (h1 : f.n = (n : Int)) (h2 : f.bs = x) : (fs ++ [f]).map Oc.says = (l ++ [(n, x)]).map Oc.lays := by
  rw [List.map_append, List.map_append, h]
  simp [Oc.says, Oc.lays, h1, h2]
theorem zs_pos {c : Nat} (h : 0 ≤ Oc.size c) (h1 : c ≠ 111) (h2 : c ≠ 116) : 0 < Oc.zs c ∧ Oc.zs c ≤ 8 ∧ Oc.nsize c = Oc.zs c := by
  rcases Oc.letter h with rfl | rfl | rfl | rfl | rfl
  · exact ⟨by decide, by decide, rfl⟩
  · exact ⟨by decide, by decide, rfl⟩
  · exact ⟨by decide, by decide, rfl⟩
  · exact absurd rfl h1
  · exact absurd rfl h2
theorem fieldsPost_bad {s : ByteArray} {xs : List Nat} {a : Nat → Addr} {w0 w : World} {i r c : Nat} {e : Ending} {w' : World} (hk : Oc.known s.data.toList = true) (hr : Oc.reads (shN s) xs = .bad c) (hf : Fails w r (ev (a (c - 1))) e w') : FieldsPost s xs a w0 w i r e w' :=
  ⟨fun h => (by rw [hk] at h; cases h), fun _ c' h => (by rw [hr] at h; injection h with h; subst h; exact hf), fun _ l p h => (by rw [hr] at h; cases h)⟩
/-- what the loop's relation says -/
def FRel (s : ByteArray) (xs : List Nat) (w0 wf wr : World) (i r : Nat) (v : Value) (k : Nat) : Prop :=
  ∃ l p fs, Oc.reads ((shN s).take k) xs = .ok l p ∧ fs.map Oc.says = l.map Oc.lays ∧ FX w0 wf wr i r v k fs (xs.drop p)
set_option maxRecDepth 100000 in
set_option maxHeartbeats 1000000 in
theorem fields_any (s : ByteArray) (i r : Nat) (xs : List Nat) (a : Nat → Addr) (w0 w : World) (h : InAt w0 w i r xs) (hs : s.size ≤ 1000) (hb : Oc.bytes xs) (hS : OSents w0 a) :
    Calls Tryd.prog 70 #[.pointer (some ⟨i, 0, none⟩), .string s] w (FieldsPost s xs a w0 w i r) := by
  have C1 := known_any s
  obtain ⟨kn, hkn⟩ : ∃ kn, kn = Oc.known s.data.toList := ⟨_, rfl⟩
  rw [← hkn] at C1
  have HKN := Lib.hid hkn
  clear hkn
  have HSE := Lib.hid hS
  have hSw := hS.below h.bel.1 (Nat.le_refl _)
  cases kn
  · have pK : w.cell? ⟨9, 0, none⟩ = some (ev (a 6)) := (hSw 6 (by omega)).var
    obtain ⟨v, hR, _⟩ := h
    have CF := fail_any i r v (a 6) w hR
    clear hR hS hSw
    go_enter Tryd.func70, Tryd.ntmps70
    go_wp2_with (first | (go_at_call 73; refine (C1 _ (by omega)).mono ?_; rintro e w' ⟨rfl, rfl⟩) | (go_at_call 82; refine CF.mono ?_; rintro e w' ⟨rfl, hd, hg⟩))
    exact ⟨rfl, fun _ => ⟨rfl, hd, hg⟩, fun h => (by rw [← HKN.out] at h; cases h), fun h => (by rw [← HKN.out] at h; cases h)⟩
  · have H0 : Hid (FRel s xs w0 w w i r (.slice none 0 0) 0) := Lib.hid ⟨[], 0, [], rfl, rfl, FX.start h⟩
    have HBY := Lib.hid hb
    clear hS hSw hb h
    go_enter Tryd.func70, Tryd.ntmps70
    go_wp2_with (go_at_call 73; refine (C1 _ (by omega)).mono ?_; rintro e w' ⟨rfl, rfl⟩)
    go_loopw [5, 17] (fun v j wr => ∃ k : Nat, k ≤ s.size ∧ j = .int .i64 k ∧ Hid (FRel s xs w0 w wr i r v k)) (fun _ j _ => s.size - (intOf j).toNat)
    case atStart => exact ⟨0, Nat.zero_le _, rfl, H0⟩
    case round =>
      obtain ⟨k, hk, rfl, HR⟩ := hrel
      by_cases hlt : k < s.size
      · obtain ⟨l, p, fs, h1, h2, h3⟩ := HR.out
        have hks : k < (shN s).length := by rw [shN_len]; exact hlt
        have hL : 0 ≤ Oc.size s[k].toNat := of_decide_eq_true (Oc.known_at HKN.out.symm hlt)
        have hnext := fun (n m : Nat) (x : List Nat) (hst : Oc.step s[k].toNat (xs.drop p) = .ok n x m) => Oc.reads_ok_next h1 hks (shN_get hlt) hst
        have hbad := fun (e : Nat) (hst : Oc.step s[k].toNat (xs.drop p) = .bad e) => Oc.reads_bad_next h1 hks (shN_get hlt) hst
        have hys := Oc.bytes_drop HBY.out p
        have hSr := HSE.out.below h3.at_.bel.1 (Nat.le_refl _)
        have pS : wr.cell? ⟨4, 0, none⟩ = some (ev (a 1)) := (hSr 1 (by omega)).var
        have pR : wr.cell? ⟨0, 0, none⟩ = some (ev (a 0)) := (hSr 0 (by omega)).var
        have hrS : r ≠ 4 := fun e => by have g1 := h3.at_.bel.2; have g2 := (HSE.out 1 (by omega)).lt; have g3 : sgs.getD 1 0 = 4 := rfl; omega
        have hrR : r ≠ 0 := fun e => by have g1 := h3.at_.bel.2; have g2 := (HSE.out 0 (by omega)).lt; have g3 : sgs.getD 0 0 = 0 := rfl; omega
        have hrl : r < wr.heap.size := h3.at_.lt
        have HDR : ∀ m, Hid ((xs.drop p).drop m = xs.drop (p + m)) := fun m => Lib.hid (by rw [List.drop_drop])
        obtain ⟨ys, hyy⟩ : ∃ ys, ys = xs.drop p := ⟨_, rfl⟩
        rw [← hyy] at hnext hbad hys h3 HDR
        have HFX := Lib.hid h3
        have HSY := Lib.hid h2
        have HNX := Lib.hid hnext
        have HBD := Lib.hid hbad
        clear h1 hnext hbad hSr h2 hyy
        have iq0 : ((k : Nat) : Int) < s.size := by omega
        have iq1 : (0 : Int) ≤ ((k : Nat) : Int) := by omega
        obtain ⟨i0, hi0, hiz, his, hib⟩ := info_parts fldO_info
        have hat := h3.at_
        clear h3 hks
        by_cases c1 : s[k].toNat = 111
        · have bq1 : (s[k].toNat : Int) = 111 := by omega
          rw [c1] at HNX HBD
          by_cases hn : ys.length < 32
          · have CF := oid_short i r (a 1) ys w0 wr hat hn pS
            have HB := Lib.hid (HBD.out 2 (by rw [step_oid, if_pos hn]))
            clear hat pS pR hi0 hiz his hib HNX HBD
            go_wp2_with (go_at_call 83; refine CF.mono ?_; rintro e w' ⟨rfl, hd, hg⟩)
            exact ⟨rfl, fieldsPost_bad HKN.out.symm HB.out ⟨rfl, hd, only_trans HFX.out.grw hg⟩⟩
          · have CF := oid_ok i r ys w0 wr hat (by omega)
            have hNX := HNX.out 0 32 (ys.take 32) (by rw [step_oid, if_neg hn])
            have hol : (ys.take 32).length = 32 := by rw [List.length_take]; omega
            obtain ⟨os, hos⟩ : ∃ os, os = ys.take 32 := ⟨_, rfl⟩
            rw [← hos] at CF hNX hol
            have HDR := HDR 32
            have HOL := Lib.hid hol
            clear HNX
            have HNX := Lib.hid hNX
            clear hat pS pR HBD hNX hos hol
            go_wp2_with (first
              | (go_at_call 83; refine CF.mono ?_; rintro e w1 ⟨rfl, hi, hg⟩; have HX1 := Lib.hid (HFX.out.read hg hi); have HBX : Hid (Blk (oidBox w1) w1.heap.size 134 (u8s (List.replicate 32 0))) := Lib.hid (Blk.new w1 _ _); have HXB : Hid (FX w0 w (((oidBox w1).setRow w1.heap.size (u8s os)).alloc (.cells #[.int .i64 0, .slice (some ⟨w1.heap.size, 0, none⟩) 32 32] 100)) i r u5 k fs (ys.drop 32)) := Lib.hid ((HX1.out.below (below_oid w1 _)).below ((Below.refl _ _).alloc (Nat.le_refl _) _)); have HFO : Hid (FOwn w.heap.size (((oidBox w1).setRow w1.heap.size (u8s os)).alloc (.cells #[.int .i64 0, .slice (some ⟨w1.heap.size, 0, none⟩) 32 32] 100)) ⟨0, some ⟨w1.heap.size, 0, none⟩, 32, 32, os⟩) := Lib.hid ((fld_oid HX1.out.grw.size HOL.out).below ((Below.refl _ _).alloc (Nat.le_refl _) _)); have HY : Hid (Blk (((oidBox w1).setRow w1.heap.size (u8s os)).alloc (.cells #[.int .i64 0, .slice (some ⟨w1.heap.size, 0, none⟩) 32 32] 100)) (w1.heap.size + 1) 100 #[.int .i64 0, .slice (some ⟨w1.heap.size, 0, none⟩) 32 32]) := Lib.hid (by have h := Blk.new ((oidBox w1).setRow w1.heap.size (u8s os)) 100 #[.int .i64 0, .slice (some ⟨w1.heap.size, 0, none⟩) 32 32]; rwa [show ((oidBox w1).setRow w1.heap.size (u8s os)).heap.size = w1.heap.size + 1 by simp [World.setRow]] at h); clear hi hg)
              | (refine wpList_store_row rfl 134 (.tmp 8) (.tmp 34) rfl w1.heap.size _ rfl rfl 134 _ HBX.out (by rw [u8s_size, HOL.out]; exact oid_size) (by rw [u8s_size, u8s_size, HOL.out]; rfl) (u8s_one _) ?_)
              | (refine wpList_append_own _ rfl (.tmp 35) (.tmp 38) 96 rfl w.heap.size 100 i0 _ 2 32 Tryd.underlying96 hi0 hiz his hib rfl (by decide) _ k _ rfl HXB.out.row ⟨w1.heap.size + 1, 0, none⟩ 1 1 [.int .i64 0, .slice (some ⟨w1.heap.size, 0, none⟩) 32 32] rfl rfl (fun j u hj => by rw [Addr.add_mid, Nat.zero_add]; exact (HY.out.cell j).trans (by simpa using hj)) (fun u hu => by simp at hu; rcases hu with rfl | rfl <;> rfl) (by unfold maxLen; omega) (by omega) HXB.out.grw.size ?_; intro v' w2 hown hgrow _; have HN : Hid (FRel s xs w0 w w2 i r v' (k + 1)) := Lib.hid ⟨_, _, _, HNX.out, says_snoc HSY.out rfl rfl, by rw [← HDR.out]; exact FX.app HXB.out hown hgrow HFO.out⟩; clear hown hgrow))
            go_roundw
            case rel => exact ⟨k + 1, by omega, by go_num, HN⟩
            case measure => simp [intOf]; omega
        · by_cases c2 : s[k].toNat = 116
          · have bq1 : ((s[k].toNat : Int) == 111) = false := by simp; omega
            have bq2 : (s[k].toNat : Int) = 116 := by omega
            rw [c2] at HNX HBD
            by_cases hn : ys.length < 2
            · have CF := text_short i r (a 1) ys w0 wr hat hn pS
              have HB := Lib.hid (HBD.out 2 (by rw [step_text, if_pos hn]))
              clear hat pS pR hi0 hiz his hib HNX HBD
              go_wp2_with (go_at_call 84; refine CF.mono ?_; rintro e w' ⟨rfl, hd, hg⟩)
              exact ⟨rfl, fieldsPost_bad HKN.out.symm HB.out ⟨rfl, hd, only_trans HFX.out.grw hg⟩⟩
            · by_cases hn2 : ys.length < 2 + Oc.val (ys.take 2)
              · have CF := text_short2 i r (a 1) ys w0 wr hat (by omega) hn2 hys hrS pS
                have HB := Lib.hid (HBD.out 2 (by rw [step_text, if_neg hn, if_pos hn2]))
                clear hat pS pR hi0 hiz his hib HNX HBD
                go_wp2_with (go_at_call 84; refine CF.mono ?_; rintro e w' ⟨rfl, hd, hg⟩)
                exact ⟨rfl, fieldsPost_bad HKN.out.symm HB.out ⟨rfl, hd, only_trans HFX.out.grw hg⟩⟩
              · have CF := text_ok i r ys w0 wr hat (by omega) (by omega) hys hrl
                have hNX := HNX.out 0 (2 + Oc.val (ys.take 2)) ((ys.drop 2).take (Oc.val (ys.take 2))) (by rw [step_text, if_neg hn, if_neg hn2])
                have HDR := HDR (2 + Oc.val (ys.take 2))
                clear HNX
                have hvl := Oc.val_lt 2 (ys.take 2) (Oc.bytes_take hys 2) (by rw [List.length_take]; omega)
                generalize Oc.val (ys.take 2) = V at CF hNX HDR hvl hn2
                obtain ⟨zs, hzs⟩ : ∃ zs, zs = (ys.drop 2).take V := ⟨_, rfl⟩
                rw [← hzs] at CF hNX
                have HNX := Lib.hid hNX
                clear hat pS pR HBD hNX hzs hn2
                go_wp2_with (first
                  | (go_at_call 84; refine CF.mono ?_; rintro e w1 ⟨A, c, rfl, how, hi, hg⟩; have HXB : Hid (FX w0 w (w1.alloc (.cells #[.int .i64 0, .slice A V c] 100)) i r u5 k fs (ys.drop (2 + V))) := Lib.hid ((HFX.out.read hg hi).below ((Below.refl _ _).alloc (Nat.le_refl _) _)); have HFO : Hid (FOwn w.heap.size (w1.alloc (.cells #[.int .i64 0, .slice A V c] 100)) ⟨0, A, V, c, zs⟩) := Lib.hid ((fld_own how HFX.out.grw.size).below ((Below.refl _ _).alloc (Nat.le_refl _) _)); have HY : Hid (Blk (w1.alloc (.cells #[.int .i64 0, .slice A V c] 100)) w1.heap.size 100 #[.int .i64 0, .slice A V c]) := Lib.hid (Blk.new w1 _ _); clear hi hg how)
                  | (refine wpList_append_own _ rfl (.tmp 42) (.tmp 46) 96 rfl w.heap.size 100 i0 _ 2 32 Tryd.underlying96 hi0 hiz his hib rfl (by decide) _ k _ rfl HXB.out.row ⟨w1.heap.size, 0, none⟩ 1 1 [.int .i64 0, .slice A V c] rfl rfl (fun j u hj => by rw [Addr.add_mid, Nat.zero_add]; exact (HY.out.cell j).trans (by simpa using hj)) (fun u hu => by simp at hu; rcases hu with rfl | rfl <;> rfl) (by unfold maxLen; omega) (by omega) HXB.out.grw.size ?_; intro v' w2 hown hgrow _; have HN : Hid (FRel s xs w0 w w2 i r v' (k + 1)) := Lib.hid ⟨_, _, _, HNX.out, says_snoc HSY.out rfl rfl, by rw [← HDR.out]; exact FX.app HXB.out hown hgrow HFO.out⟩; clear hown hgrow))
                go_roundw
                case rel => exact ⟨k + 1, by omega, by go_num, HN⟩
                case measure => simp [intOf]; omega
          · have bq1 : ((s[k].toNat : Int) == 111) = false := by simp; omega
            have bq2 : ((s[k].toNat : Int) == 116) = false := by simp; omega
            have hstep := step_num c1 c2 ys
            obtain ⟨hz0, hz8, hnz⟩ := zs_pos hL c1 c2
            obtain ⟨_, hmm⟩ := Oc.zs_most hL c1 c2
            have CS := fun (hl : ys.length < Oc.zs (s[k]'hlt).toNat) => inum_short i r s[k].toNat (Oc.zs s[k].toNat) (a 1) ys w0 wr hat hnz hz0 hl pS
            have CO := fun (hl : Oc.zs (s[k]'hlt).toNat ≤ ys.length) (hm : Oc.val (ys.take (Oc.zs (s[k]'hlt).toNat)) ≤ Oc.mostN (s[k]'hlt).toNat) => inum_ok i r s[k].toNat (Oc.zs s[k].toNat) ys w0 wr hat hnz hz0 hz8 hl hys hm hmm
            have CR := fun (hl : Oc.zs (s[k]'hlt).toNat ≤ ys.length) (hm : Oc.mostN (s[k]'hlt).toNat < Oc.val (ys.take (Oc.zs (s[k]'hlt).toNat))) => inum_range i r s[k].toNat (Oc.zs s[k].toNat) (a 0) ys w0 wr hat hnz hz0 hz8 hl hys hm hmm hrR pR
            generalize Oc.zs s[k].toNat = z at hstep hz0 hz8 CS CO CR hnz
            generalize Oc.mostN s[k].toNat = M at hstep CO CR
            clear hnz hmm
            by_cases hn : ys.length < z
            · have CF := CS hn
              have HB := Lib.hid (HBD.out 2 (by rw [hstep, if_pos hn]))
              clear hat pS pR hi0 hiz his hib HNX HBD CS CO CR hstep
              go_wp2_with (go_at_call 85; refine CF.mono ?_; rintro e w' ⟨rfl, hd, hg⟩)
              exact ⟨rfl, fieldsPost_bad HKN.out.symm HB.out ⟨rfl, hd, only_trans HFX.out.grw hg⟩⟩
            · by_cases hm : M < Oc.val (ys.take z)
              · have CF := CR (by omega) hm
                have HB := Lib.hid (HBD.out 1 (by rw [hstep, if_neg hn, if_pos hm]))
                clear hat pS pR hi0 hiz his hib HNX HBD CS CO CR hstep hm
                go_wp2_with (go_at_call 85; refine CF.mono ?_; rintro e w' ⟨rfl, hd, hg⟩)
                exact ⟨rfl, fieldsPost_bad HKN.out.symm HB.out ⟨rfl, hd, only_trans HFX.out.grw hg⟩⟩
              · have CF := CO (by omega) (by omega)
                have hNX := HNX.out (Oc.val (ys.take z)) z [] (by rw [hstep, if_neg hn, if_neg hm])
                have HDR := HDR z
                clear HNX CS CO CR hstep hm
                generalize Oc.val (ys.take z) = V at CF hNX
                have HNX := Lib.hid hNX
                clear hat pS pR HBD hNX
                go_wp2_with (first
                  | (go_at_call 85; refine CF.mono ?_; rintro e w1 ⟨rfl, hi, hg⟩; have HXB : Hid (FX w0 w (w1.alloc (.cells #[.int .i64 (V : Int), .slice none 0 0] 100)) i r u5 k fs (ys.drop z)) := Lib.hid ((HFX.out.read hg hi).below ((Below.refl _ _).alloc (Nat.le_refl _) _)); have HFO : Hid (FOwn w.heap.size (w1.alloc (.cells #[.int .i64 (V : Int), .slice none 0 0] 100)) ⟨(V : Int), none, 0, 0, []⟩) := Lib.hid (fld_num _ _ _); have HY : Hid (Blk (w1.alloc (.cells #[.int .i64 (V : Int), .slice none 0 0] 100)) w1.heap.size 100 #[.int .i64 (V : Int), .slice none 0 0]) := Lib.hid (Blk.new w1 _ _); clear hi hg)
                  | (refine wpList_append_own _ rfl (.tmp 24) (.tmp 29) 96 rfl w.heap.size 100 i0 _ 2 32 Tryd.underlying96 hi0 hiz his hib rfl (by decide) _ k _ rfl HXB.out.row ⟨w1.heap.size, 0, none⟩ 1 1 [.int .i64 (V : Int), .slice none 0 0] rfl rfl (fun j u hj => by rw [Addr.add_mid, Nat.zero_add]; exact (HY.out.cell j).trans (by simpa using hj)) (fun u hu => by simp at hu; rcases hu with rfl | rfl <;> rfl) (by unfold maxLen; omega) (by omega) HXB.out.grw.size ?_; intro v' w2 hown hgrow _; have HN : Hid (FRel s xs w0 w w2 i r v' (k + 1)) := Lib.hid ⟨_, _, _, HNX.out, says_snoc HSY.out rfl rfl, by rw [← HDR.out]; exact FX.app HXB.out hown hgrow HFO.out⟩; clear hown hgrow))
                go_roundw
                case rel => exact ⟨k + 1, by omega, by go_num, HN⟩
                case measure => simp [intOf]; omega
      · obtain rfl : k = s.size := by omega
        have H : Hid (FieldsPost s xs a w0 w i r (.returned u5) wr) := Lib.hid ⟨fun h => (by rw [← HKN.out] at h; cases h), fun _ c hc => (by obtain ⟨l, p, fs, h1, _⟩ := HR.out; rw [List.take_of_length_le (by rw [shN_len]; exact Nat.le_refl _)] at h1; rw [h1] at hc; cases hc), fun _ l p hc => (by obtain ⟨l', p', fs, h1, h2, h3⟩ := HR.out; rw [List.take_of_length_le (by rw [shN_len]; exact Nat.le_refl _)] at h1; rw [h1] at hc; injection hc with e1 e2; subst e1; subst e2; exact ⟨_, fs, rfl, h2, h3⟩)⟩
        go_wp2
        go_ret
        exact H.out
end Go.Proofs.YtbllilokcalbcaaDoor
