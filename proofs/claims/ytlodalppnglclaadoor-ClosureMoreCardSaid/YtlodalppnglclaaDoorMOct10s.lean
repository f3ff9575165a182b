/- Reading, from below: how an In ends (end, Fail), goes on (next), what is left (Left), a copy of bytes (bytes.Clone). -/
import Derived.Test.YtlodalppnglclaaDoorMLawOpenBs
import Derived.WalkLawsBesides
import Derived.WalkSpells
namespace Go.Proofs.YtlodalppnglclaaDoor
open Go Go.RowKit
/-- the panic's value -/
abbrev stopV (r : Nat) : Value := .iface 145 (.agg #[.pointer (some ⟨r, 0, none⟩)])
/-- An In at block i, and its reading at block r: v is what is left. -/
structure Rdg (w : World) (i r : Nat) (v : Value) : Prop where
  i_ : Blk w i 146 #[.pointer (some ⟨r, 0, none⟩)]
  r_ : Blk w r 126 #[v, .bool true, .bool false, .nilIface]
  ne : i ≠ r
/-- A reading that has ended by an error. -/
def Dead (w : World) (r : Nat) (e : Value) : Prop := ∃ v, Blk w r 126 #[v, .bool true, .bool true, e]
theorem Dead.grown {w w' : World} {r : Nat} {e : Value} (h : Dead w r e) (k : Below w.heap.size w w') : Dead w' r e := by
  obtain ⟨v, h⟩ := h
  exact ⟨v, h.below k h.lt⟩
/-- what a call ends by that can't go on -/
def Fails (w : World) (r : Nat) (er : Value) (e : Ending) (w' : World) : Prop := e = .panicked [{ v := stopV r, recovered := false }] ∧ Dead w' r er ∧ w.grownBy w' (some r)
/-- An In whose bytes xs are left; they lie in the world w0. -/
def InAt (w0 w : World) (i r : Nat) (xs : List Nat) : Prop := ∃ v, Rdg w i r v ∧ Rd w0 v xs ∧ Below w0.heap.size w0 w ∧ w0.heap.size ≤ r ∧ w0.heap.size ≤ i
theorem below_then {w0 w w' : World} (h : Below w0.heap.size w0 w) (k : Below w.heap.size w w') : Below w0.heap.size w0 w' :=
  ⟨k.os.trans h.os, k.tape.trans h.tape, k.output.trans h.output, Nat.le_trans h.size k.size, fun i hi => (k.block i (Nat.lt_of_lt_of_le hi h.size)).trans (h.block i hi)⟩
theorem InAt.below {w0 w w' : World} {i r : Nat} {xs : List Nat} (h : InAt w0 w i r xs) (hb : Below w.heap.size w w') : InAt w0 w' i r xs := by
  obtain ⟨v, k, hr, hw, h1, h2⟩ := h
  exact ⟨v, ⟨k.i_.below hb k.i_.lt, k.r_.below hb k.r_.lt, k.ne⟩, hr, below_then hw hb, h1, h2⟩
theorem InAt.lt {w0 w : World} {i r : Nat} {xs : List Nat} (h : InAt w0 w i r xs) : r < w.heap.size := by
  obtain ⟨v, k, _⟩ := h
  exact k.r_.lt
theorem InAt.bel {w0 w : World} {i r : Nat} {xs : List Nat} (h : InAt w0 w i r xs) : Below w0.heap.size w0 w ∧ w0.heap.size ≤ r := by
  obtain ⟨v, k, hr, hw, h1, h2⟩ := h
  exact ⟨hw, h1⟩
theorem RdB.rd {w : World} {p : Nat} {v : Value} {xs : List Nat} (h : RdB w p v xs) : Rd w v xs := by
  obtain ⟨A, c, h1, h2, h3⟩ := h
  exact ⟨A, c, h1, h2, fun h0 => by obtain ⟨b, o, g1, _, g3, g4⟩ := h3 h0; exact ⟨b, o, g1, g3, g4⟩⟩
theorem Rd.cut {w : World} {A : Option Addr} {n c : Nat} {xs : List Nat} (h : Rd w (.slice A n c) xs) {k : Nat} (hk : k ≤ xs.length) :
    Rd w (.slice (if c = k then A else A.map (·.add k)) (n - k) (c - k)) (xs.drop k) := ((h.out (Nat.le_refl _)).cut hk).rd
theorem oend_any (r : Nat) (v : Value) (ae : Addr) (w : World) (h : Blk w r 126 #[v, .bool true, .bool false, .nilIface]) :
    Calls Tryd.prog 91 #[.pointer (some ⟨r, 0, none⟩), (ev ae)] w fun e w' => e = .returned (.tuple #[]) ∧ Blk w' r 126 #[v, .bool true, .bool true, (ev ae)] ∧ w.grownBy w' (some r) := by
  have c2 : w.cell? ⟨r, 2, none⟩ = some (.bool false) := h.cell 2
  have c3 : w.cell? ⟨r, 3, none⟩ = some .nilIface := h.cell 3
  have z2 := h.frozen 2
  have z3 := h.frozen 3
  have HB : Hid (Blk ((w.setCell ⟨r, 2, none⟩ (.bool true)).setCell ⟨r, 3, none⟩ (ev ae)) r 126 #[v, .bool true, .bool true, (ev ae)]) := Lib.hid (by
    have h2 := (h.set_ 2 (.bool true)).set_ 3 (ev ae)
    simp only [List.setIfInBounds_toArray, List.set_cons_zero, List.set_cons_succ] at h2
    exact h2)
  have HG : Hid (w.grownBy ((w.setCell ⟨r, 2, none⟩ (.bool true)).setCell ⟨r, 3, none⟩ (ev ae)) (some r)) := Lib.hid (only_setCell (p := ⟨r, 3, none⟩) (only_setCell (p := ⟨r, 2, none⟩) (World.grownBy.refl w (some r)) (Or.inl rfl) _) (Or.inl rfl) _)
  clear h
  go_enter Tryd.func91, Tryd.ntmps91
  go_wp2
  go_end0
  exact ⟨rfl, HB.out, HG.out⟩
theorem fail_any (i r : Nat) (v : Value) (ae : Addr) (w : World) (h : Rdg w i r v) :
    Calls Tryd.prog 78 #[.pointer (some ⟨i, 0, none⟩), ev ae] w (Fails w r (ev ae)) := by
  have c0 : w.cell? ⟨i, 0, none⟩ = some (.pointer (some ⟨r, 0, none⟩)) := h.i_.cell 0
  have c1 : w.cell? ⟨r, 1, none⟩ = some (.bool true) := h.r_.cell 1
  have CE := oend_any r v ae w h.r_
  have HI := Lib.hid h.i_
  have hne := h.ne
  clear h
  go_enter Tryd.func78, Tryd.ntmps78
  go_wp2_with (go_at_call 91; refine CE.mono ?_; rintro e w' ⟨rfl, hB, hG⟩; have HB := Lib.hid hB; have HG := Lib.hid hG; have c2 : w'.cell? ⟨i, 0, none⟩ = some (.pointer (some ⟨r, 0, none⟩)) := (HI.out.grown hG (by intro e; injection e with e; exact hne e)).cell 0; clear hB hG)
  exact ⟨rfl, rfl, ⟨v, HB.out⟩, HG.out⟩
theorem left_any (i r : Nat) (xs : List Nat) (w0 w : World) (h : InAt w0 w i r xs) :
    Calls Tryd.prog 76 #[.pointer (some ⟨i, 0, none⟩)] w fun e w' => e = .returned (.int .i64 (xs.length : Int)) ∧ w = w' := by
  obtain ⟨v, h, hr, _⟩ := h
  obtain ⟨A, c, rfl, _, _⟩ := hr
  have c0 : w.cell? ⟨i, 0, none⟩ = some (.pointer (some ⟨r, 0, none⟩)) := h.i_.cell 0
  have c1 : w.cell? ⟨r, 0, none⟩ = some (.slice A xs.length c) := h.r_.cell 0
  clear h
  go_enter Tryd.func76, Tryd.ntmps76
  go_wp2
  go_ret
  exact ⟨rfl, rfl⟩
theorem Rd.cutHi {w : World} {A : Option Addr} {n c : Nat} {xs : List Nat} (h : Rd w (.slice A n c) xs) {k : Nat} (hk : k ≤ xs.length) : Rd w (.slice A k c) (xs.take k) := by
  obtain ⟨A', c', hv, hc, hA⟩ := h
  injection hv with e1 e2 e3
  subst e1 e2 e3
  have hl : (xs.take k).length = k := by rw [List.length_take]; omega
  refine ⟨_, _, by rw [hl], by rw [hl]; omega, fun h0 => ?_⟩
  rw [hl] at h0
  obtain ⟨b, o, ha, hlt, hx⟩ := hA (by omega)
  refine ⟨b, o, ha, hlt, fun i hi => ?_⟩
  rw [hl] at hi
  rw [hx i (by omega)]
  simp [List.getD, hi]
theorem run_sliceHi {P : Program} {t e : TypeId} (ht : P.underlying t = some (.slice e)) (hi : (P.info? e).map (·.size) = some 1) (A : Option Addr) (len cap h : Nat) (h1 : h ≤ cap)
    {x : Int} (el : x = h) (w : World) :
    (Instr.slice t (.slice A len cap) none (some (.int .i64 x)) none).run P w = .ok (.slice A h cap) w := by
  subst el
  cases hq : P.info? e with
  | none => simp [hq] at hi
  | some i =>
    have hs : i.size = 1 := by simpa [hq] using hi
    have hn : ((h : Nat) : Int) ≤ cap := by omega
    cases A <;> simp [Instr.slice, run_underlying ht, Instr.sliceBounds, run_sliceBound, sizeOf, typeInfo, hq, hn, Addr.add]
theorem run_sliceLoS {P : Program} {t e : TypeId} (ht : P.underlying t = some (.slice e)) (hi : (P.info? e).map (·.size) = some 1) (A : Option Addr) (len cap l : Nat) (h1 : l ≤ len)
    {lo : Int} (el : lo = l) (w : World) :
    (Instr.slice t (.slice A len cap) (some (.int .i64 lo)) none none).run P w = .ok (.slice (if cap = l then A else A.map (·.add l)) (len - l) (cap - l)) w := by
  subst el
  cases hq : P.info? e with
  | none => simp [hq] at hi
  | some i =>
    have hs : i.size = 1 := by simpa [hq] using hi
    have hn : ((l : Nat) : Int) ≤ len := by omega
    simp [Instr.slice, run_underlying ht, Instr.sliceBounds, run_sliceBound, sizeOf, typeInfo, hq, hs, hn]
theorem next_ok (i r n : Nat) (xs : List Nat) (w0 w : World) (h : InAt w0 w i r xs) (hn : n ≤ xs.length) :
    Calls Tryd.prog 95 #[.pointer (some ⟨i, 0, none⟩), .int .i64 (n : Int)] w fun e w' => ∃ v, e = .returned v ∧ Rd w0 v (xs.take n) ∧ InAt w0 w' i r (xs.drop n) ∧ w.grownBy w' (some r) := by
  obtain ⟨v, h, hr, hw0, hr0, hi0⟩ := h
  have HR := Lib.hid hr
  obtain ⟨A, c, rfl, hc, hA⟩ := hr
  clear hA
  have c0 : w.cell? ⟨i, 0, none⟩ = some (.pointer (some ⟨r, 0, none⟩)) := h.i_.cell 0
  have c1 : w.cell? ⟨r, 0, none⟩ = some (.slice A xs.length c) := h.r_.cell 0
  have c2 : w.cell? ⟨r, 1, none⟩ = some (.bool true) := h.r_.cell 1
  have c3 : w.cell? ⟨r, 2, none⟩ = some (.bool false) := h.r_.cell 2
  have z0 := h.r_.frozen 0
  have i1 : ¬ (xs.length : Int) < (n : Int) := by omega
  have q1 : ∀ w', (Instr.slice 40 (.slice A xs.length c) none (some (.int .i64 (n : Int))) none).run Tryd.prog w' = .ok (.slice A n c) w' := fun w' => run_sliceHi Tryd.underlying40 (by kernel_rfl) A xs.length c n (by omega) rfl w'
  have q2 : ∀ w', (Instr.slice 40 (.slice A xs.length c) (some (.int .i64 (n : Int))) none none).run Tryd.prog w' = .ok (.slice (if c = n then A else A.map (·.add n)) (xs.length - n) (c - n)) w' := fun w' => run_sliceLoS Tryd.underlying40 (by kernel_rfl) A xs.length c n hn rfl w'
  obtain ⟨A2, hA2⟩ : ∃ A2, A2 = (if c = n then A else A.map (·.add n)) := ⟨_, rfl⟩
  rw [← hA2] at q2
  have HG : ∀ m, Hid (w.grownBy ((w.setCell ⟨r, 0, none⟩ (.slice A2 (xs.length - n) (c - n))).drewN m) (some r)) := fun m => Lib.hid (only_drewN (only_setCell (World.grownBy.refl w _) (Or.inl rfl) _) m)
  have HI : ∀ m, Hid (InAt w0 ((w.setCell ⟨r, 0, none⟩ (.slice A2 (xs.length - n) (c - n))).drewN m) i r (xs.drop n)) := fun m => Lib.hid ⟨_, ⟨(h.i_.far h.ne _).drewN m, (h.r_.set_ 0 _).drewN m, h.ne⟩, by have hq := HR.out.cut hn; rw [← hA2] at hq; exact hq, below_of_only hw0 (HG m).out hr0, hr0, hi0⟩
  have HV : Hid (Rd w0 (.slice A n c) (xs.take n)) := Lib.hid (HR.out.cutHi hn)
  clear h hA2
  go_enter Tryd.func95, Tryd.ntmps95
  go_wp2
  go_region
  go_wp2
  go_ret
  exact ⟨_, rfl, HV.out, (HI 1).out, (HG 1).out⟩
end Go.Proofs.YtlodalppnglclaaDoor
/- Reading, from below: an In that has too few bytes (next); a number (number), a copy of bytes (bytes.Clone). -/
namespace Go.Proofs.YtlodalppnglclaaDoor
open Go Go.RowKit
theorem next_short (i r n : Nat) (aS : Addr) (xs : List Nat) (w0 w : World) (h : InAt w0 w i r xs) (hn : xs.length < n) (hS : w.cell? ⟨8, 0, none⟩ = some (ev aS)) :
    Calls Tryd.prog 95 #[.pointer (some ⟨i, 0, none⟩), .int .i64 (n : Int)] w (Fails w r (ev aS)) := by
  obtain ⟨v, h, hr, _⟩ := h
  obtain ⟨A, c, rfl, hc, hA⟩ := hr
  clear hA
  have c0 : w.cell? ⟨i, 0, none⟩ = some (.pointer (some ⟨r, 0, none⟩)) := h.i_.cell 0
  have c1 : w.cell? ⟨r, 0, none⟩ = some (.slice A xs.length c) := h.r_.cell 0
  have c2 : w.cell? ⟨r, 1, none⟩ = some (.bool true) := h.r_.cell 1
  have c3 : w.cell? ⟨r, 2, none⟩ = some (.bool false) := h.r_.cell 2
  have i1 : (xs.length : Int) < (n : Int) := by omega
  have CF := fail_any i r _ aS w h
  clear h
  go_enter Tryd.func95, Tryd.ntmps95
  go_wp2_with (go_at_call 78; refine CF.mono ?_; rintro e w' ⟨rfl, hd, hg⟩)
  exact ⟨rfl, rfl, hd, hg⟩
theorem or_byte (n b : Nat) (hn : n < 72057594037927936) (hb : b < 256) : bits .or .u64 (((n * 256 : Nat)) : Int) (b : Int) = ((n * 256 + b : Nat) : Int) := by
  rw [u64_or (n * 256) b (by omega) (by omega)]
  have h := Nat.shiftLeft_add_eq_or_of_lt (i := 8) (b := b) (by omega) n
  rw [Nat.shiftLeft_eq] at h
  rw [show n * 256 = n * 2^8 from rfl, ← h]
end Go.Proofs.YtlodalppnglclaaDoor
/- Reading numbers: (*In).number, (*In).Num. -/
namespace Go.Proofs.YtlodalppnglclaaDoor
open Go Go.RowKit
theorem Rd.open_ {w : World} {v : Value} {ys : List Nat} {s : Nat} (h : Rd w v ys) (hs : ys.length = s) : ∃ A c, v = .slice A s c ∧ s ≤ c ∧ (0 < s → ∃ b o, A = some ⟨b, o, none⟩ ∧ ∀ i, i < s → w.cell? ⟨b, o + i, none⟩ = some (.int .u8 ((ys.getD i 0 : Nat) : Int))) := by
  subst hs
  obtain ⟨A, c, h1, h2, h3⟩ := h
  exact ⟨A, c, h1, h2, fun h0 => by obtain ⟨b, o, g1, _, g4⟩ := h3 h0; exact ⟨b, o, g1, g4⟩⟩
theorem val_small {ys : List Nat} (hb : Oc.bytes ys) {k : Nat} (hk : k ≤ 7) (hl : k ≤ ys.length) : Oc.val (ys.take k) < 72057594037927936 := by
  have h := Oc.val_lt k (ys.take k) (Oc.bytes_take hb k) (by rw [List.length_take]; omega)
  have h2 : 256 ^ k ≤ 256 ^ 7 := Nat.pow_le_pow_right (by decide) hk
  have h3 : (256 : Nat) ^ 7 = 72057594037927936 := by decide
  omega
set_option maxRecDepth 100000 in
theorem number_ok (i r s : Nat) (xs : List Nat) (w0 w : World) (h : InAt w0 w i r xs) (hs : s ≤ 8) (hl : s ≤ xs.length) (hb : Oc.bytes xs) :
    Calls Tryd.prog 94 #[.pointer (some ⟨i, 0, none⟩), .int .i64 (s : Int)] w fun e w' => e = .returned (.int .u64 ((Oc.val (xs.take s) : Nat) : Int)) ∧ InAt w0 w' i r (xs.drop s) ∧ w.grownBy w' (some r) := by
  have CN := next_ok i r s xs w0 w h hl
  have hyl : (xs.take s).length = s := by rw [List.length_take]; omega
  have HY := Lib.hid (Oc.bytes_take hb s)
  obtain ⟨ys, hys⟩ : ∃ ys, ys = xs.take s := ⟨_, rfl⟩
  rw [← hys] at CN hyl HY ⊢
  clear hys h
  go_enter Tryd.func94, Tryd.ntmps94
  go_wp2_with (go_at_call 95; refine CN.mono ?_; rintro e w1 ⟨v, rfl, hv, hi, hg⟩; obtain ⟨A, c, rfl, hc, hA⟩ := (hv.below hi.bel.1 (Nat.le_refl _)).open_ hyl; have HI := Lib.hid hi; have HG := Lib.hid hg; clear hi hg hv CN)
  go_loopw [5, 12] (fun n j wr => ∃ k : Nat, k ≤ s ∧ n = .int .u64 ((Oc.val (ys.take k) : Nat) : Int) ∧ j = .int .i64 k ∧ wr = w1) (fun _ j _ => s - (intOf j).toNat)
  case atStart => exact ⟨0, by omega, rfl, rfl, rfl⟩
  case round =>
    obtain ⟨k, hk, rfl, rfl, rfl⟩ := hrel
    by_cases hlt : k < s
    · obtain ⟨b, o, rfl, hx⟩ := hA (by omega)
      have p1 := hx k hlt
      have hvt := Oc.val_take (l := ys) (k := k) (by omega)
      have hv7 := val_small HY.out (k := k) (by omega) (by omega)
      have hb1 : ys.getD k 0 < 256 := by
        have h1 : k < ys.length := by omega
        rw [List.getD, List.getElem?_eq_getElem h1]
        exact HY.out _ (List.getElem_mem h1)
      generalize Oc.val (ys.take k) = V at hvt hv7
      generalize ys.getD k 0 = x at p1 hvt hb1
      have HVT := Lib.hid hvt
      have HOR := Lib.hid (or_byte V x hv7 hb1)
      have i0 : ((k : Nat) : Int) < s := by omega
      have i1 : (0 : Int) ≤ ((k : Nat) : Int) := by omega
      clear hx hA hvt
      go_wp2
      go_roundw
      case rel => exact ⟨k + 1, by omega, by rw [HVT.out, ← HOR.out]; simp, by go_num, (by first | rfl | trivial)⟩
      case measure => simp [intOf]; omega
    · obtain rfl : k = s := by omega
      have H : Hid (ys.take k = ys) := Lib.hid (List.take_of_length_le (by omega))
      go_wp2
      go_ret
      exact ⟨by rw [H.out]; rfl, HI.out, HG.out⟩
theorem number_short (i r s : Nat) (aS : Addr) (xs : List Nat) (w0 w : World) (h : InAt w0 w i r xs) (hl : xs.length < s) (hS : w.cell? ⟨8, 0, none⟩ = some (ev aS)) :
    Calls Tryd.prog 94 #[.pointer (some ⟨i, 0, none⟩), .int .i64 (s : Int)] w (Fails w r (ev aS)) := by
  have CN := next_short i r s aS xs w0 w h hl hS
  clear h
  go_enter Tryd.func94, Tryd.ntmps94
  go_wp2_with (go_at_call 95; refine CN.mono ?_; rintro e w1 ⟨rfl, hd, hg⟩)
  exact ⟨rfl, rfl, hd, hg⟩
theorem to_u64 (n : Nat) (h : n ≤ 4611686018427387903) : IntKind.u64.wrap (n : Int) = (n : Int) := by rw [wrap_u64]; omega
theorem to_i64 (n : Nat) (h : n ≤ 4611686018427387903) : IntKind.i64.wrap (n : Int) = (n : Int) := IntWalk.i64_in _ (by omega)
theorem inum_short (i r c z : Nat) (aS : Addr) (xs : List Nat) (w0 w : World) (h : InAt w0 w i r xs) (hc : Oc.nsize c = z) (hz : 0 < z) (hl : xs.length < z) (hS : w.cell? ⟨8, 0, none⟩ = some (ev aS)) :
    Calls Tryd.prog 74 #[.pointer (some ⟨i, 0, none⟩), .int .u8 ((c : Nat) : Int)] w (Fails w r (ev aS)) := by
  have CN := number_short i r z aS xs w0 w h hl hS
  have CM := number_any c
  rw [hc] at CM
  have b0 : ((z : Int) == 0) = false := by simp; omega
  clear h
  go_enter Tryd.func74, Tryd.ntmps74
  go_wp2_with (first | (go_at_call 93; refine (CM _).mono ?_; rintro e w' ⟨rfl, rfl⟩) | (go_at_call 94; refine CN.mono ?_; rintro e w' ⟨rfl, hd, hg⟩))
  exact ⟨rfl, rfl, hd, hg⟩
theorem inum_ok (i r c z : Nat) (xs : List Nat) (w0 w : World) (h : InAt w0 w i r xs) (hc : Oc.nsize c = z) (hz : 0 < z) (hz8 : z ≤ 8) (hl : z ≤ xs.length) (hb : Oc.bytes xs) (hm : Oc.val (xs.take z) ≤ Oc.mostN c) (hmm : Oc.most c = Oc.mostN c) :
    Calls Tryd.prog 74 #[.pointer (some ⟨i, 0, none⟩), .int .u8 ((c : Nat) : Int)] w fun e w' => e = .returned (.int .i64 ((Oc.val (xs.take z) : Nat) : Int)) ∧ InAt w0 w' i r (xs.drop z) ∧ w.grownBy w' (some r) := by
  have CN := number_ok i r z xs w0 w h hz8 hl hb
  have CM := number_any c
  have hle := Oc.most_le c
  rw [hc, hmm] at CM
  rw [hmm] at hle
  generalize Oc.mostN c = M at hm hle CM
  generalize Oc.val (xs.take z) = V at hm CN ⊢
  have q1 := to_u64 M (by omega)
  have q2 := to_i64 V (by omega)
  have b0 : ((z : Int) == 0) = false := by simp; omega
  have i1 : ¬ (M : Int) < (V : Int) := by omega
  clear h hmm
  go_enter Tryd.func74, Tryd.ntmps74
  go_wp2_with (first | (go_at_call 93; refine (CM _).mono ?_; rintro e w' ⟨rfl, rfl⟩) | (go_at_call 94; refine CN.mono ?_; rintro e w' ⟨rfl, hi, hg⟩; have HI := Lib.hid hi; have HG := Lib.hid hg; clear hi hg))
  go_ret
  exact ⟨rfl, HI.out, HG.out⟩
end Go.Proofs.YtlodalppnglclaaDoor
/- Reading texts and objects' names: (*In).Text, (*In).Oid. -/
namespace Go.Proofs.YtlodalppnglclaaDoor
open Go Go.RowKit
end Go.Proofs.YtlodalppnglclaaDoor
