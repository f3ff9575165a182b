/- Reading numbers: (*In).number, (*In).Num. -/
import Derived.Test.YtjkneidoochfjaaGreatDoorMOct8s
import Derived.Recover
import Derived.Lib.Builder
import Derived.Test.YtjkneidoochfjaaGreatDoorMOb1s
namespace Go.Proofs.YtjkneidoochfjaaGreatDoor
open Go Go.RowKit
theorem Rd.open_ {w : World} {v : Value} {ys : List Nat} {s : Nat} (h : Rd w v ys) (hs : ys.length = s) : ∃ A c, v = .slice A s c ∧ s ≤ c ∧ (0 < s → ∃ b o, A = some ⟨b, o, none⟩ ∧ ∀ i, i < s → w.cell? ⟨b, o + i, none⟩ = some (.int .u8 ((ys.getD i 0 : Nat) : Int))) := by
  subst hs
  obtain ⟨A, c, h1, h2, h3⟩ := h
  exact ⟨A, c, h1, h2, fun h0 => by obtain ⟨b, o, g1, _, g4⟩ := h3 h0; exact ⟨b, o, g1, g4⟩⟩
theorem val_small {ys : List Nat} (hb : Oc.bytes ys) {k : Nat} (hk : k ≤ 7) (hl : k ≤ ys.length) : Oc.val (ys.take k) < 72057594037927936 := by
  have h := Oc.val_lt k (ys.take k) (Oc.bytes_take hb k) (by rw [List.length_take]; omega)
  have h2 : 256 ^ k ≤ 256 ^ 7 := Nat.pow_le_pow_right (by decide) hk
  have h3 : (256 : Nat) ^ 7 = 72057594037927936 := by decide
  omega
set_option maxRecDepth 100000 in
theorem number_ok (i r s : Nat) (xs : List Nat) (w0 w : World) (h : InAt w0 w i r xs) (hs : s ≤ 8) (hl : s ≤ xs.length) (hb : Oc.bytes xs) :
    Calls Tryz.prog 87 #[.pointer (some ⟨i, 0, none⟩), .int .i64 (s : Int)] w fun e w' => e = .returned (.int .u64 ((Oc.val (xs.take s) : Nat) : Int)) ∧ InAt w0 w' i r (xs.drop s) ∧ w.grownBy w' (some r) := by
  have CN := next_ok i r s xs w0 w h hl
  have hyl : (xs.take s).length = s := by rw [List.length_take]; omega
  have HY := Lib.hid (Oc.bytes_take hb s)
  obtain ⟨ys, hys⟩ : ∃ ys, ys = xs.take s := ⟨_, rfl⟩
  rw [← hys] at CN hyl HY ⊢
  clear hys h
  go_enter Tryz.func87, Tryz.ntmps87
  go_wp2_with (go_at_call 88; refine CN.mono ?_; rintro e w1 ⟨v, rfl, hv, hi, hg⟩; obtain ⟨A, c, rfl, hc, hA⟩ := (hv.below hi.bel.1 (Nat.le_refl _)).open_ hyl; have HI := Lib.hid hi; have HG := Lib.hid hg; clear hi hg hv CN)
  go_loopw [5, 12] (fun n j wr => ∃ k : Nat, k ≤ s ∧ n = .int .u64 ((Oc.val (ys.take k) : Nat) : Int) ∧ j = .int .i64 k ∧ wr = w1) (fun _ j _ => s - (intOf j).toNat)
  case atStart => exact ⟨0, by omega, rfl, rfl, rfl⟩
  case round =>
    obtain ⟨k, hk, rfl, rfl, rfl⟩ := hrel
    by_cases hlt : k < s
    · obtain ⟨b, o, rfl, hx⟩ := hA (by omega)
      have p1 := hx k hlt
      have hvt := Oc.val_take (l := ys) (k := k) (by omega)
      have hv7 := val_small HY.out (k := k) (by omega) (by omega)
      have hb1 : ys.getD k 0 < 256 := by
        have h1 : k < ys.length := by omega
        rw [List.getD, List.getElem?_eq_getElem h1]
        exact HY.out _ (List.getElem_mem h1)
      generalize Oc.val (ys.take k) = V at hvt hv7
      generalize ys.getD k 0 = x at p1 hvt hb1
      have HVT := Lib.hid hvt
      have HOR := Lib.hid (or_byte V x hv7 hb1)
      have i0 : ((k : Nat) : Int) < s := by omega
      have i1 : (0 : Int) ≤ ((k : Nat) : Int) := by omega
      clear hx hA hvt
      go_wp2
      go_roundw
      case rel => exact ⟨k + 1, by omega, by rw [HVT.out, ← HOR.out]; simp, by go_num, (by first | rfl | trivial)⟩
      case measure => simp [intOf]; omega
    · obtain rfl : k = s := by omega
      have H : Hid (ys.take k = ys) := Lib.hid (List.take_of_length_le (by omega))
      go_wp2
      go_ret
      exact ⟨by rw [H.out]; rfl, HI.out, HG.out⟩
theorem number_short (i r s : Nat) (aS : Addr) (xs : List Nat) (w0 w : World) (h : InAt w0 w i r xs) (hl : xs.length < s) (hS : w.cell? ⟨3, 0, none⟩ = some (ev aS)) :
    Calls Tryz.prog 87 #[.pointer (some ⟨i, 0, none⟩), .int .i64 (s : Int)] w (Fails w r (ev aS)) := by
  have CN := next_short i r s aS xs w0 w h hl hS
  clear h
  go_enter Tryz.func87, Tryz.ntmps87
  go_wp2_with (go_at_call 88; refine CN.mono ?_; rintro e w1 ⟨rfl, hd, hg⟩)
  exact ⟨rfl, rfl, hd, hg⟩
theorem to_u64 (n : Nat) (h : n ≤ 4611686018427387903) : IntKind.u64.wrap (n : Int) = (n : Int) := by rw [wrap_u64]; omega
theorem to_i64 (n : Nat) (h : n ≤ 4611686018427387903) : IntKind.i64.wrap (n : Int) = (n : Int) := IntWalk.i64_in _ (by omega)
theorem inum_short (i r c z : Nat) (aS : Addr) (xs : List Nat) (w0 w : World) (h : InAt w0 w i r xs) (hc : Oc.nsize c = z) (hz : 0 < z) (hl : xs.length < z) (hS : w.cell? ⟨3, 0, none⟩ = some (ev aS)) :
    Calls Tryz.prog 59 #[.pointer (some ⟨i, 0, none⟩), .int .u8 ((c : Nat) : Int)] w (Fails w r (ev aS)) := by
  have CN := number_short i r z aS xs w0 w h hl hS
  have CM := number_any c
  rw [hc] at CM
  have b0 : ((z : Int) == 0) = false := by simp; omega
  clear h
  go_enter Tryz.func59, Tryz.ntmps59
  go_wp2_with (first | (go_at_call 85; refine (CM _).mono ?_; rintro e w' ⟨rfl, rfl⟩) | (go_at_call 87; refine CN.mono ?_; rintro e w' ⟨rfl, hd, hg⟩))
  exact ⟨rfl, rfl, hd, hg⟩
theorem inum_ok (i r c z : Nat) (xs : List Nat) (w0 w : World) (h : InAt w0 w i r xs) (hc : Oc.nsize c = z) (hz : 0 < z) (hz8 : z ≤ 8) (hl : z ≤ xs.length) (hb : Oc.bytes xs) (hm : Oc.val (xs.take z) ≤ Oc.mostN c) (hmm : Oc.most c = Oc.mostN c) :
    Calls Tryz.prog 59 #[.pointer (some ⟨i, 0, none⟩), .int .u8 ((c : Nat) : Int)] w fun e w' => e = .returned (.int .i64 ((Oc.val (xs.take z) : Nat) : Int)) ∧ InAt w0 w' i r (xs.drop z) ∧ w.grownBy w' (some r) := by
  have CN := number_ok i r z xs w0 w h hz8 hl hb
  have CM := number_any c
  have hle := Oc.most_le c
  rw [hc, hmm] at CM
  rw [hmm] at hle
  generalize Oc.mostN c = M at hm hle CM
  generalize Oc.val (xs.take z) = V at hm CN ⊢
  have q1 := to_u64 M (by omega)
  have q2 := to_i64 V (by omega)
  have b0 : ((z : Int) == 0) = false := by simp; omega
  have i1 : ¬ (M : Int) < (V : Int) := by omega
  clear h hmm
  go_enter Tryz.func59, Tryz.ntmps59
  go_wp2_with (first | (go_at_call 85; refine (CM _).mono ?_; rintro e w' ⟨rfl, rfl⟩) | (go_at_call 87; refine CN.mono ?_; rintro e w' ⟨rfl, hi, hg⟩; have HI := Lib.hid hi; have HG := Lib.hid hg; clear hi hg))
  go_ret
  exact ⟨rfl, HI.out, HG.out⟩
theorem inum_range (i r c z : Nat) (aR : Addr) (xs : List Nat) (w0 w : World) (h : InAt w0 w i r xs) (hc : Oc.nsize c = z) (hz : 0 < z) (hz8 : z ≤ 8) (hl : z ≤ xs.length) (hb : Oc.bytes xs) (hm : Oc.mostN c < Oc.val (xs.take z)) (hmm : Oc.most c = Oc.mostN c) (hr1 : r ≠ 2) (hR : w.cell? ⟨2, 0, none⟩ = some (ev aR)) :
    Calls Tryz.prog 59 #[.pointer (some ⟨i, 0, none⟩), .int .u8 ((c : Nat) : Int)] w (Fails w r (ev aR)) := by
  have CN := number_ok i r z xs w0 w h hz8 hl hb
  have CM := number_any c
  have hle := Oc.most_le c
  have hvl := Oc.val_lt z (xs.take z) (Oc.bytes_take hb z) (by rw [List.length_take]; omega)
  rw [hc, hmm] at CM
  rw [hmm] at hle
  generalize Oc.mostN c = M at hm hle CM
  generalize Oc.val (xs.take z) = V at hm CN hvl
  have q1 := to_u64 M (by omega)
  have b0 : ((z : Int) == 0) = false := by simp; omega
  have i1 : (M : Int) < (V : Int) := by omega
  clear h hmm hvl
  go_enter Tryz.func59, Tryz.ntmps59
  go_wp2_with (first | (go_at_call 85; refine (CM _).mono ?_; rintro e w' ⟨rfl, rfl⟩) | (go_at_call 87; refine CN.mono ?_; rintro e w1 ⟨rfl, hi, hg⟩; have pR : w1.cell? ⟨2, 0, none⟩ = some (ev aR) := hg.cell hR (fun e => hr1 (by injection e with e; exact e.symm)); obtain ⟨v1, hi1, _⟩ := hi; have CF := fail_any i r v1 aR w1 hi1; have HG := Lib.hid hg; clear hg hi1) | (go_at_call 86; refine CF.mono ?_; rintro e w' ⟨rfl, hd, hg⟩))
  exact ⟨rfl, rfl, hd, only_trans HG.out hg⟩
end Go.Proofs.YtjkneidoochfjaaGreatDoor
/- Reading texts and objects' names: (*In).Text, (*In).Oid. -/
namespace Go.Proofs.YtjkneidoochfjaaGreatDoor
open Go Go.RowKit
theorem text_short (i r : Nat) (aS : Addr) (xs : List Nat) (w0 w : World) (h : InAt w0 w i r xs) (hl : xs.length < 2) (hS : w.cell? ⟨3, 0, none⟩ = some (ev aS)) :
    Calls Tryz.prog 60 #[.pointer (some ⟨i, 0, none⟩)] w (Fails w r (ev aS)) := by
  have CN : Calls Tryz.prog 87 #[.pointer (some ⟨i, 0, none⟩), .int .i64 2] w (Fails w r (ev aS)) := number_short i r 2 aS xs w0 w h hl hS
  clear h
  go_enter Tryz.func60, Tryz.ntmps60
  go_wp2_with (go_at_call 87; refine CN.mono ?_; rintro e w1 ⟨rfl, hd, hg⟩)
  exact ⟨rfl, rfl, hd, hg⟩
theorem text_short2 (i r : Nat) (aS : Addr) (xs : List Nat) (w0 w : World) (h : InAt w0 w i r xs) (hl : 2 ≤ xs.length) (hl2 : xs.length < 2 + Oc.val (xs.take 2)) (hb : Oc.bytes xs) (hr1 : r ≠ 3) (hS : w.cell? ⟨3, 0, none⟩ = some (ev aS)) :
    Calls Tryz.prog 60 #[.pointer (some ⟨i, 0, none⟩)] w (Fails w r (ev aS)) := by
  have CN : Calls Tryz.prog 87 #[.pointer (some ⟨i, 0, none⟩), .int .i64 2] w _ := number_ok i r 2 xs w0 w h (by omega) hl hb
  have hvl := Oc.val_lt 2 (xs.take 2) (Oc.bytes_take hb 2) (by rw [List.length_take]; omega)
  generalize Oc.val (xs.take 2) = V at CN hvl hl2
  have q2 := to_i64 V (by omega)
  have hlV : (xs.drop 2).length < V := by rw [List.length_drop]; omega
  clear h
  go_enter Tryz.func60, Tryz.ntmps60
  go_wp2_with (first | (go_at_call 87; refine CN.mono ?_; rintro e w1 ⟨rfl, hi, hg⟩; have CX := next_short i r V aS _ w0 w1 hi hlV (hg.cell hS (fun e => hr1 (by injection e with e; exact e.symm))); have HG := Lib.hid hg; clear hg hi) | (go_at_call 88; refine CX.mono ?_; rintro e w2 ⟨rfl, hd, hg⟩))
  exact ⟨rfl, rfl, hd, only_trans HG.out hg⟩
/-- what was read lies in a row of bytes of its own -/
def Own (B : Nat) (w : World) (A : Option Addr) (n c : Nat) (xs : List Nat) (t : TypeId) : Prop := Rd w (.slice A n c) xs ∧ xs.length = n ∧ (0 < n → ∃ g cs, A = some ⟨g, 0, none⟩ ∧ B ≤ g ∧ Blk w g t cs)
theorem text_ok (i r : Nat) (xs : List Nat) (w0 w : World) (h : InAt w0 w i r xs) (hl : 2 ≤ xs.length) (hl2 : 2 + Oc.val (xs.take 2) ≤ xs.length) (hb : Oc.bytes xs) (_hrl : r < w.heap.size) :
    Calls Tryz.prog 60 #[.pointer (some ⟨i, 0, none⟩)] w fun e w' => ∃ A c, e = .returned (.slice A (Oc.val (xs.take 2)) c) ∧ Own w.heap.size w' A (Oc.val (xs.take 2)) c ((xs.drop 2).take (Oc.val (xs.take 2))) 5 ∧ InAt w0 w' i r (xs.drop (2 + Oc.val (xs.take 2))) ∧ w.grownBy w' (some r) := by
  have CN : Calls Tryz.prog 87 #[.pointer (some ⟨i, 0, none⟩), .int .i64 2] w _ := number_ok i r 2 xs w0 w h (by omega) hl hb
  have hvl := Oc.val_lt 2 (xs.take 2) (Oc.bytes_take hb 2) (by rw [List.length_take]; omega)
  generalize Oc.val (xs.take 2) = V at CN hvl hl2 ⊢
  have q2 := to_i64 V (by omega)
  have hlV : V ≤ (xs.drop 2).length := by rw [List.length_drop]; omega
  have hyl : ((xs.drop 2).take V).length = V := by rw [List.length_take]; omega
  have HDD : Hid ((xs.drop 2).drop V = xs.drop (2 + V)) := Lib.hid (by rw [List.drop_drop])
  obtain ⟨ys, hys⟩ : ∃ ys, ys = (xs.drop 2).take V := ⟨_, rfl⟩
  rw [← hys] at hyl ⊢
  have HYS := Lib.hid hys
  clear h hys
  go_enter Tryz.func60, Tryz.ntmps60
  go_wp2_with (first | (go_at_call 87; refine CN.mono ?_; rintro e w1 ⟨rfl, hi, hg⟩; have CX := next_ok i r V _ w0 w1 hi hlV; have HG := Lib.hid hg; clear hg hi) | (go_at_call 88; refine CX.mono ?_; rintro e w2 ⟨v, rfl, hv, hi, hg⟩; have HI2 := Lib.hid hi; have HG2 := Lib.hid hg; rw [← HYS.out] at hv; have CC := clone_any v ys w2 (hv.below hi.bel.1 (Nat.le_refl _)) (by omega); clear hg hi hv) | (go_at_call 68; refine CC.mono ?_; rintro e w3 ⟨A, c, rfl, hr, hn, hbl⟩; have HR3 := Lib.hid hr; have HN3 := Lib.hid hn; have HB3 := Lib.hid hbl; clear hr hn hbl))
  go_ret
  have hg1 := only_trans HG.out HG2.out
  refine ⟨A, c, by rw [← hyl]; rfl, ⟨by rw [← hyl]; exact HR3.out, hyl, fun h0 => ?_⟩, ?_, only_trans hg1 (only_of_below HB3.out _)⟩
  · obtain ⟨g, cs, e1, e2, e3⟩ := HN3.out (by omega)
    exact ⟨g, cs, e1, Nat.le_trans hg1.size e2, e3⟩
  · rw [← HDD.out]
    exact HI2.out.below HB3.out
end Go.Proofs.YtjkneidoochfjaaGreatDoor
/- Reading an object's name: (*In).Oid. -/
namespace Go.Proofs.YtjkneidoochfjaaGreatDoor
open Go Go.RowKit
theorem oid_size : (Tryz.prog.info? 54).map (·.size) = some 32 := by kernel_rfl
abbrev oidBox (w : World) : World := w.alloc (.cells (u8s (List.replicate 32 0)) 54)
theorem only_setRow' {a w : World} {row : Option Nat} (h : a.grownBy w row) {g' : Nat} (hp : a.heap.size ≤ g') (cs : Array Value) : a.grownBy (w.setRow g' cs) row :=
  only_step h rfl rfl rfl (by simp [World.setRow]) fun i hi hne => setRow_other w g' i cs (by omega)
/-- copy of 32 bytes over a whole row -/
theorem wp_copy32 {o : Oper} {a : Act} {w : World} {K : Act → World → Prop} {Q : Exit → Act → World → Prop} (d s : Operand)
    (ho : o.op = .call { callee := .builtin .copy, args := #[d, s], argTypes := #[32, 32] }) (g : Nat) (t : TypeId) (zs : List Nat) (hg : Blk w g t (u8s zs)) (hz : zs.length = 32)
    (hd : a.eval d = .slice (some ⟨g, 0, none⟩) 32 32) (ad : Addr) (c : Nat) (hs : a.eval s = .slice (some ad) 32 c) (ys : List Nat) (hy : ys.length = 32)
    (hsrc : ∀ i, i < 32 → w.cell? (ad.add i) = some (.int .u8 ((ys.getD i 0 : Nat) : Int))) (h : K (a.put o.dst (.int .i64 32)) (w.setRow g (u8s ys))) : o.wp Tryz.prog a w K Q := by
  have hrun := run_copy_row (P := Tryz.prog) w 32 32 o.type 5 g 0 32 32 ad 32 c (u8s zs) t (cellsB ys) Tryz.underlying32 (by kernel_rfl) hg (by rw [cellsB_len, hy]; rfl) (fun j v hj => by
    have hjl : j < ys.length := by have := (List.getElem?_eq_some_iff.1 hj).1; rwa [cellsB_len] at this
    rw [cellsB_get hjl] at hj
    rw [hsrc j (by omega), hj]) (by rw [cellsB_len, u8s_size]; omega) (cellsB_one _)
  have e : ((u8s zs).toList.take 0 ++ cellsB ys ++ (u8s zs).toList.drop (0 + (cellsB ys).length)).toArray = u8s ys := by
    rw [cellsB_len, hy]
    simp [u8s, cellsB, hz]
  rw [e, cellsB_len, hy] at hrun
  unfold Oper.wp
  simp [execOp, ho, resolve, invoke, builtin, hd, hs, hrun, Result.andThen]
  exact h
theorem below_boxes (w : World) : Below w.heap.size w (oidBox (oidBox w)) := ((Below.refl _ _).alloc (Nat.le_refl _) _).alloc ((Below.refl _ _).alloc (Nat.le_refl _) _).size _
theorem oid_short (i r : Nat) (aS : Addr) (xs : List Nat) (w0 w : World) (h : InAt w0 w i r xs) (hl : xs.length < 32) (hS : w.cell? ⟨3, 0, none⟩ = some (ev aS)) :
    Calls Tryz.prog 61 #[.pointer (some ⟨i, 0, none⟩)] w (Fails w r (ev aS)) := by
  have hb := below_boxes w
  have CN : Calls Tryz.prog 88 #[.pointer (some ⟨i, 0, none⟩), .int .i64 32] (oidBox (oidBox w)).drew _ := next_short i r 32 aS xs w0 (oidBox (oidBox w)).drew (h.below (below_drewN hb 1)) hl ((below_drewN hb 1).cell (block_lt_of_cell hS) |>.trans hS)
  have HB := Lib.hid (below_drewN hb 1)
  clear h hb
  go_enter Tryz.func61, Tryz.ntmps61
  go_wp2
  refine wp_region_held (S := fun _ => True) (by kernel_rfl) ?_
  change wpAnyH _ _ _ _ _ _ _ _ (oidBox (oidBox w)).drew
  refine wpAnyH_take (i := 0) (v := ?_) rfl (by kernel_rfl) (by kernel_rfl) (by kernel_rfl) (fun _ _ _ h => h) (Or.inl ⟨by rfl, ?_⟩) trivial ?_
  rotate_left
  · intro w _; go_simp; with_reducible rfl
  try simp only [Act.put, List.getElem_toArray, List.getElem_cons_zero, List.setIfInBounds_toArray, List.set_cons_zero, List.set_cons_succ]
  refine wpAnyH_take (i := 1) (v := ?_) rfl (by kernel_rfl) (by kernel_rfl) (by kernel_rfl) (fun _ _ _ h => h) (Or.inl ⟨by rfl, ?_⟩) trivial ?_
  rotate_left
  · intro w _; go_simp; with_reducible rfl
  try simp only [Act.put, List.getElem_toArray, List.getElem_cons_zero, List.getElem_cons_succ, List.setIfInBounds_toArray, List.set_cons_zero, List.set_cons_succ]
  refine all_one (i := 2) (by kernel_rfl) rfl (by rfl) (fun K hK => ?_)
  go_simp
  refine CN.mono ?_
  rintro e w' ⟨rfl, hd, hg⟩
  exact ⟨rfl, rfl, hd, only_trans (only_of_below HB.out _) hg⟩
theorem oid_ok (i r : Nat) (xs : List Nat) (w0 w : World) (h : InAt w0 w i r xs) (hl : 32 ≤ xs.length) :
    Calls Tryz.prog 61 #[.pointer (some ⟨i, 0, none⟩)] w fun e w' => e = .returned (.agg (u8s (xs.take 32))) ∧ InAt w0 w' i r (xs.drop 32) ∧ w.grownBy w' (some r) := by
  have hb := below_boxes w
  have CN : Calls Tryz.prog 88 #[.pointer (some ⟨i, 0, none⟩), .int .i64 32] (oidBox (oidBox w)).drew _ := next_ok i r 32 xs w0 (oidBox (oidBox w)).drew (h.below (below_drewN hb 1)) hl
  have HB := Lib.hid (below_drewN hb 1)
  have hyl : (xs.take 32).length = 32 := by rw [List.length_take]; omega
  obtain ⟨ys, hys⟩ : ∃ ys, ys = xs.take 32 := ⟨_, rfl⟩
  rw [← hys] at CN hyl ⊢
  have HYL := Lib.hid hyl
  have HR0 : Hid (Blk (oidBox (oidBox w)).drew w.heap.size 54 (u8s (List.replicate 32 0))) := Lib.hid (((Blk.new w _ _).alloc _).drew)
  have HR1 : Hid (Blk (oidBox (oidBox w)).drew (w.heap.size + 1) 54 (u8s (List.replicate 32 0))) := Lib.hid (by
    have h := (Blk.new (oidBox w) 54 (u8s (List.replicate 32 0))).drew
    rwa [show (oidBox w).heap.size = w.heap.size + 1 by simp] at h)
  have HLT := Lib.hid h.lt
  have HLI : Hid (i < w.heap.size ∧ w0.heap.size ≤ w.heap.size) := Lib.hid (by obtain ⟨v, k, _, k2, _⟩ := h; exact ⟨k.i_.lt, k2.size⟩)
  clear h hb hys hyl
  go_enter Tryz.func61, Tryz.ntmps61
  go_wp2
  refine wp_region_held (S := fun _ => True) (by kernel_rfl) ?_
  change wpAnyH _ _ _ _ _ _ _ _ (oidBox (oidBox w)).drew
  refine wpAnyH_take (i := 0) (v := ?_) rfl (by kernel_rfl) (by kernel_rfl) (by kernel_rfl) (fun _ _ _ h => h) (Or.inl ⟨by rfl, ?_⟩) trivial ?_
  rotate_left
  · intro w _; go_simp; with_reducible rfl
  try simp only [Act.put, List.getElem_toArray, List.getElem_cons_zero, List.setIfInBounds_toArray, List.set_cons_zero, List.set_cons_succ]
  refine wpAnyH_take (i := 1) (v := ?_) rfl (by kernel_rfl) (by kernel_rfl) (by kernel_rfl) (fun _ _ _ h => h) (Or.inl ⟨by rfl, ?_⟩) trivial ?_
  rotate_left
  · intro w _; go_simp; with_reducible rfl
  try simp only [Act.put, List.getElem_toArray, List.getElem_cons_zero, List.getElem_cons_succ, List.setIfInBounds_toArray, List.set_cons_zero, List.set_cons_succ]
  refine all_one (i := 2) (by kernel_rfl) rfl (by rfl) (fun K hK => ?_)
  go_simp
  refine CN.mono ?_
  rintro e w1 ⟨v, rfl, hv, hi, hg⟩
  obtain ⟨A, c, rfl, hc, hA⟩ := (hv.below hi.bel.1 (Nat.le_refl _)).open_ HYL.out
  obtain ⟨b, o, rfl, hx⟩ := hA (by omega)
  have HX := Lib.hid hx
  have HI := Lib.hid hi
  have HG := Lib.hid (only_trans (only_of_below HB.out (some r)) hg)
  have HQ0 : Hid (Blk w1 w.heap.size 54 (u8s (List.replicate 32 0))) := Lib.hid (HR0.out.grown hg (fun e => by injection e with e; have := HLT.out; omega))
  have HQ1 : Hid (Blk w1 (w.heap.size + 1) 54 (u8s (List.replicate 32 0))) := Lib.hid (HR1.out.grown hg (fun e => by injection e with e; have := HLT.out; omega))
  clear hx hi hg hv hA
  dsimp only
  refine hK _ _ trivial ?_; clear hK K
  try simp only [Act.put, List.getElem_toArray, List.getElem_cons_zero, List.getElem_cons_succ, List.setIfInBounds_toArray, List.set_cons_zero, List.set_cons_succ]
  refine all_one (i := 3) (by kernel_rfl) rfl (by rfl) (fun K hK => ?_)
  refine wp_copy32 (.tmp 4) (.tmp 6) rfl (w.heap.size + 1) 54 (List.replicate 32 0) HQ1.out (by decide) rfl ⟨b, o, none⟩ c rfl ys HYL.out (fun j hj => by rw [Addr.add_mid]; exact HX.out j hj) ?_
  refine hK _ _ trivial ?_; clear hK K
  try simp only [Act.put, List.getElem_toArray, List.getElem_cons_zero, List.getElem_cons_succ, List.setIfInBounds_toArray, List.set_cons_zero, List.set_cons_succ]
  refine wpAnyH_done (by kernel_rfl) ?_ _
  have HW1 : Hid (Blk (w1.setRow (w.heap.size + 1) (u8s ys)) (w.heap.size + 1) 54 (u8s ys)) := Lib.hid (HQ1.out.row _)
  have HW0 : Hid (Blk (w1.setRow (w.heap.size + 1) (u8s ys)) w.heap.size 54 (u8s (List.replicate 32 0))) := Lib.hid (HQ0.out.farRow (by omega) _)
  go_wp2_with (first | (refine wpList_load_row rfl 54 (.tmp 3) rfl (w.heap.size + 1) rfl 54 (u8s ys) (0,0) _ HW1.out Tryz.underlying54 rfl (by rw [u8s_size, HYL.out]; exact oid_size) ?_) | (refine wpList_store_row rfl 54 (.tmp 2) (.tmp 8) rfl w.heap.size _ rfl rfl 54 _ HW0.out (by rw [u8s_size, HYL.out]; exact oid_size) (by rw [u8s_size, u8s_size, HYL.out]; rfl) (u8s_one _) ?_))
  have hlt := HLT.out
  refine bodyPost_ret (v := .agg (u8s ys)) (results_cell_row rfl _ _ w.heap.size 54 _ (0, 0) _ rfl (HW0.out.row _) Tryz.underlying54 rfl (by rw [u8s_size, HYL.out]; exact oid_size)) rfl ⟨rfl, ?_, only_setRow' (only_setRow' HG.out (by omega) _) (by omega) _⟩
  obtain ⟨v, k, hr, hw, h1, h2⟩ := HI.out
  have hli := HLI.out
  exact ⟨v, ⟨(k.i_.farRow (by omega) _).farRow (by omega) _, (k.r_.farRow (by omega) _).farRow (by omega) _, k.ne⟩, hr, below_row (below_row hw (by omega) _) (by omega) _, h1, h2⟩
end Go.Proofs.YtjkneidoochfjaaGreatDoor
/- What the walk of (*In).fields keeps: the fields read so far lie in a row of the call's own, their bytes in blocks of their own. -/
namespace Go.Proofs.YtjkneidoochfjaaGreatDoor
open Go Go.RowKit
def shN (s : ByteArray) : List Nat := s.data.toList.map (·.toNat)
theorem shN_len (s : ByteArray) : (shN s).length = s.size := by simp [shN]
theorem shN_get {s : ByteArray} {k : Nat} (h : k < s.size) : (shN s)[k]'(by rw [shN_len]; exact h) = s[k].toNat := by simp [shN, ByteArray.getElem_eq_getElem_data]
namespace Oc
theorem reads_ok_next {sh xs : List Nat} {k c n p m : Nat} {l : List (Nat × List Nat)} {x : List Nat} (h : reads (sh.take k) xs = .ok l p) (hk : k < sh.length) (hc : sh[k] = c) (hs : step c (xs.drop p) = .ok n x m) : reads (sh.take (k + 1)) xs = .ok (l ++ [(n, x)]) (p + m) := by
  rw [reads_take hk, h, Got.next, hc]
  simp only [hs]
theorem reads_bad_next {sh xs : List Nat} {k c p e : Nat} {l : List (Nat × List Nat)} (h : reads (sh.take k) xs = .ok l p) (hk : k < sh.length) (hc : sh[k] = c) (hs : step c (xs.drop p) = .bad e) : reads sh xs = .bad e := by
  refine reads_bad (k := k + 1) ?_
  rw [reads_take hk, h, Got.next, hc]
  simp only [hs]
end Oc
/-- A field whose bytes lie in a block of their own. -/
structure FOwn (B : Nat) (w : World) (f : Fld) : Prop where
  rd : Rd w (.slice f.A f.l f.c) f.bs
  len : f.bs.length = f.l
  own : 0 < f.l → ∃ g cs t, f.A = some ⟨g, 0, none⟩ ∧ B ≤ g ∧ Blk w g t cs ∧ t ≠ 85 ∧ t ≠ 109
def Kind (w : World) (row : Option Nat) : Prop := ∀ g, row = some g → ∃ cs t, Blk w g t cs ∧ (t = 85 ∨ t = 109)
theorem FOwn.step {B : Nat} {w w' : World} {f : Fld} {row : Option Nat} (h : FOwn B w f) (k : w.grownBy w' row) (hr : Kind w row) : FOwn B w' f := by
  have key : ∀ g cs t, Blk w g t cs → t ≠ 85 → t ≠ 109 → some g ≠ row := by
    rintro g cs t hB h1 h2 rfl
    obtain ⟨cs', t', hB', ht⟩ := hr g rfl
    have e := hB.symm.trans hB'
    injection e with e
    injection e with _ e _
    subst e
    exact ht.elim h1 h2
  refine ⟨?_, h.len, fun h0 => ?_⟩
  · obtain ⟨A', c', hv, hc, hA⟩ := h.rd
    refine ⟨A', c', hv, hc, fun h0 => ?_⟩
    obtain ⟨b, o, ha, hb, hx⟩ := hA h0
    injection hv with e1 e2 e3
    obtain ⟨g, cs, t, e4, _, hB, h1, h2⟩ := h.own (by rw [← h.len]; exact h0)
    rw [e1, ha] at e4
    injection e4 with e4
    injection e4 with e4 e5
    subst e4
    exact ⟨b, o, ha, Nat.lt_of_lt_of_le hb k.size, fun i hi => k.cell (hx i hi) (key b cs t hB h1 h2)⟩
  · obtain ⟨g, cs, t, e4, hg, hB, h1, h2⟩ := h.own h0
    exact ⟨g, cs, t, e4, hg, hB.grown k (key g cs t hB h1 h2), h1, h2⟩
theorem kind_none (w : World) : Kind w none := fun _ h => by cases h
theorem FOwn.below {B : Nat} {w w' : World} {f : Fld} (h : FOwn B w f) (hb : Below w.heap.size w w') : FOwn B w' f := h.step (only_of_below hb none) (kind_none w)
theorem kind_own {w : World} {B n : Nat} {v : Value} {cs : List Value} (h : w.ownsRow B 85 2 v n cs) : Kind w v.ownBlock := fun g hg => by
  rcases h.2 with ⟨rfl, _⟩ | ⟨g', cap, cur, rfl, _, hh, _⟩
  · cases hg
  · cases hg
    exact ⟨cur, _, hh, Or.inl rfl⟩
/-- The walk's state: k fields, and the bytes ys are left. -/
structure FX (w0 wf w : World) (i r : Nat) (v : Value) (k : Nat) (fs : List Fld) (ys : List Nat) : Prop where
  at_ : InAt w0 w i r ys
  row : w.ownsRow wf.heap.size 85 2 v k (cellsF fs)
  fld : ∀ f ∈ fs, FOwn wf.heap.size w f
  grw : wf.grownBy w (some r)
  old : r < wf.heap.size ∧ i < wf.heap.size ∧ w0.heap.size ≤ wf.heap.size
theorem InAt.kind {w0 w : World} {i r : Nat} {xs : List Nat} (h : InAt w0 w i r xs) : Kind w (some r) := fun g hg => by
  injection hg with hg
  subst hg
  obtain ⟨v, k, _⟩ := h
  exact ⟨_, _, k.r_, Or.inr rfl⟩
theorem own_ne {w : World} {B n r : Nat} {v : Value} {cs : List Value} {e : TypeId} (h : w.ownsRow B e 2 v n cs) (hr : r < B) : some r ≠ v.ownBlock := fun e => by
  have := (h.lt r e.symm).1
  omega
theorem FX.start {w0 w : World} {i r : Nat} {xs : List Nat} (h : InAt w0 w i r xs) : FX w0 w w i r (.slice none 0 0) 0 [] xs := by
  have h2 := h
  obtain ⟨v, k, hr, hw, h1, h3⟩ := h2
  exact ⟨h, ⟨by decide, .inl ⟨rfl, rfl⟩⟩, fun f hf => (by cases hf), World.grownBy.refl w _, k.r_.lt, k.i_.lt, hw.size⟩
section
variable {w0 wf w w' : World} {i r k : Nat} {v : Value} {fs : List Fld} {ys : List Nat}
theorem FX.read (h : FX w0 wf w i r v k fs ys) (hg : w.grownBy w' (some r)) {zs : List Nat} (hi : InAt w0 w' i r zs) : FX w0 wf w' i r v k fs zs :=
  ⟨hi, h.row.kept hg (by cases hv : v.ownBlock with | none => exact Or.inl rfl | some g => exact Or.inr (fun e => own_ne h.row h.old.1 (by rw [hv, e]))), fun f hf => (h.fld f hf).step hg h.at_.kind, only_trans h.grw hg, h.old⟩
theorem FX.below (h : FX w0 wf w i r v k fs ys) (hb : Below w.heap.size w w') : FX w0 wf w' i r v k fs ys :=
  ⟨h.at_.below hb, h.row.kept (only_of_below hb none) (by cases hv : v.ownBlock with | none => exact Or.inl rfl | some g => exact Or.inr (by simp)), fun f hf => (h.fld f hf).below hb, only_trans h.grw (only_of_below hb _), h.old⟩
theorem FX.app (h : FX w0 wf w i r v k fs ys) {v2 : Value} {f : Fld} (ho : w'.ownsRow wf.heap.size 85 2 v2 (k + 1) (cellsF fs ++ [.int .i64 f.n, .slice f.A f.l f.c])) (hg : w.grownBy w' v.ownBlock) (hf : FOwn wf.heap.size w f) : FX w0 wf w' i r v2 (k + 1) (fs ++ [f]) ys := by
  have hk := kind_own h.row
  have n1 := own_ne h.row h.old.1
  have n2 := own_ne h.row h.old.2.1
  obtain ⟨u, a, hr, hw, h1, h2⟩ := h.at_
  refine ⟨⟨u, ⟨a.i_.grown hg n2, a.r_.grown hg n1, a.ne⟩, hr, below_own hw h.row h.old.2.2 hg, h1, h2⟩, by simpa [cellsF] using ho, fun x hx => ?_, ?_, h.old⟩
  · rcases List.mem_append.1 hx with hx | hx
    · exact (h.fld x hx).step hg hk
    · rw [List.mem_singleton.1 hx]; exact hf.step hg hk
  · refine ⟨hg.os.trans h.grw.os, hg.tape.trans h.grw.tape, hg.output.trans h.grw.output, Nat.le_trans h.grw.size hg.size, fun j hj hne => ?_⟩
    rw [hg.block j (Nat.lt_of_lt_of_le hj h.grw.size) (own_ne h.row hj)]
    exact h.grw.block j hj hne
end
end Go.Proofs.YtjkneidoochfjaaGreatDoor
/- The walk of (*In).fields. -/
namespace Go.Proofs.YtjkneidoochfjaaGreatDoor
open Go Go.RowKit
/-- The error values that layer 2 knows. -/
def OSents (w : World) (a : Nat → Addr) : Prop := ∀ k, (k = 0 ∨ k = 1 ∨ k = 2 ∨ k = 3 ∨ k = 6) → SentAt w (sgs.getD k 0) (stexts.getD k []) (a k)
theorem OSents.below {w w' : World} {a : Nat → Addr} (h : OSents w a) {B : Nat} (hb : Below B w w') (hB : w.heap.size ≤ B) : OSents w' a := fun k hk => (h k hk).below hb hB
theorem Sents.o {w : World} {a : Nat → Addr} (h : Sents w a) : OSents w a := fun k hk => h k (by omega)
theorem step_num {c : Nat} (h1 : c ≠ 111) (h2 : c ≠ 116) (xs : List Nat) : Oc.step c xs = if xs.length < Oc.zs c then .bad 2 else if Oc.mostN c < Oc.val (xs.take (Oc.zs c)) then .bad 1 else .ok (Oc.val (xs.take (Oc.zs c))) [] (Oc.zs c) := by
  unfold Oc.step; rw [if_neg h1, if_neg h2]
theorem step_oid (xs : List Nat) : Oc.step 111 xs = if xs.length < 32 then .bad 2 else .ok 0 (xs.take 32) 32 := rfl
theorem step_text (xs : List Nat) : Oc.step 116 xs = if xs.length < 2 then .bad 2 else if xs.length < 2 + Oc.val (xs.take 2) then .bad 2 else .ok 0 ((xs.drop 2).take (Oc.val (xs.take 2))) (2 + Oc.val (xs.take 2)) := rfl
theorem says_snoc {fs : List Fld} {l : List (Nat × List Nat)} (h : fs.map Oc.says = l.map Oc.lays) {f : Fld} {n : Nat} {x : List Nat} (h1 : f.n = (n : Int)) (h2 : f.bs = x) : (fs ++ [f]).map Oc.says = (l ++ [(n, x)]).map Oc.lays := by
  rw [List.map_append, List.map_append, h]
  simp [Oc.says, Oc.lays, h1, h2]
theorem zs_pos {c : Nat} (h : 0 ≤ Oc.size c) (h1 : c ≠ 111) (h2 : c ≠ 116) : 0 < Oc.zs c ∧ Oc.zs c ≤ 8 ∧ Oc.nsize c = Oc.zs c := by
  rcases Oc.letter h with rfl | rfl | rfl | rfl | rfl
  · exact ⟨by decide, by decide, rfl⟩
  · exact ⟨by decide, by decide, rfl⟩
  · exact ⟨by decide, by decide, rfl⟩
  · exact absurd rfl h1
  · exact absurd rfl h2
end Go.Proofs.YtjkneidoochfjaaGreatDoor
/- run: what is deferred, and run itself. -/
namespace Go.Proofs.YtjkneidoochfjaaGreatDoor
open Go Go.RowKit
theorem slots17 (x v : Value) : #[x] ++ (Array.replicate 17 undef).setIfInBounds 3 v = #[x, undef, undef, undef, v, undef, undef, undef, undef, undef, undef, undef, undef, undef, undef, undef, undef, undef] := by kernel_rfl
theorem stop_eql (r : Nat) (w : World) : (binOp .eql 20 (stopV r) .nilIface).run Tryz.prog w = .ok (.bool false) w := by kernel_rfl
theorem stop_assert (r : Nat) (w : World) : (Instr.typeAssert (stopV r) 20 142 true).run Tryz.prog w = .ok (.tuple #[.agg #[.pointer (some ⟨r, 0, none⟩)], .bool true]) w := by kernel_rfl
theorem stop_neq (r : Nat) (w : World) : (binOp .neq 107 (.pointer (some ⟨r, 0, none⟩)) (.pointer (some ⟨r, 0, none⟩))).run Tryz.prog w = .ok (.bool false) w := by
  cases h : Tryz.prog.info? 109 with
  | none =>
    have h2 : (Tryz.prog.info? 109).isSome = true := by kernel_rfl
    rw [h] at h2; cases h2
  | some j => exact Lib.run_neq_ptr_same w _ Tryz.underlying107 h
end Go.Proofs.YtjkneidoochfjaaGreatDoor
/- Take: what it answers, whatever reads. -/
namespace Go.Proofs.YtjkneidoochfjaaGreatDoor
open Go Go.RowKit
/-- all that stood before stands, but for the blocks of S -/
structure Kpt (S : Nat → Prop) (w w' : World) : Prop where
  os : w'.os = w.os
  tape : w'.tape = w.tape
  output : w'.output = w.output
  size : w.heap.size ≤ w'.heap.size
  block : ∀ b, b < w.heap.size → ¬ S b → w'.heap[b]? = w.heap[b]?
theorem Kpt.of_below {S : Nat → Prop} {w w' : World} (h : Below w.heap.size w w') : Kpt S w w' := ⟨h.os, h.tape, h.output, h.size, fun b hb _ => h.block b hb⟩
theorem Kpt.of_grown {S : Nat → Prop} {w w' : World} {r : Nat} (h : w.grownBy w' (some r)) (hr : S r) : Kpt S w w' := ⟨h.os, h.tape, h.output, h.size, fun b hb hs => h.block b hb (fun e => by injection e with e; subst e; exact hs hr)⟩
theorem Kpt.trans {S : Nat → Prop} {a b c : World} (h : Kpt S a b) (k : Kpt S b c) : Kpt S a c := ⟨k.os.trans h.os, k.tape.trans h.tape, k.output.trans h.output, Nat.le_trans h.size k.size, fun x hx hs => (k.block x (Nat.lt_of_lt_of_le hx h.size) hs).trans (h.block x hx hs)⟩
theorem Kpt.below {w w' : World} (h : Kpt (fun _ => False) w w') : Below w.heap.size w w' := ⟨h.os, h.tape, h.output, h.size, fun b hb => h.block b hb (fun h => h)⟩
/-- what has come to be since may turn -/
theorem Kpt.old {S T : Nat → Prop} {a b c : World} (h : Kpt S a b) (k : Kpt T b c) (hT : ∀ x, T x → x < a.heap.size → S x) : Kpt S a c :=
  ⟨k.os.trans h.os, k.tape.trans h.tape, k.output.trans h.output, Nat.le_trans h.size k.size, fun x hx hs => (k.block x (Nat.lt_of_lt_of_le hx h.size) (fun ht => hs (hT x ht hx))).trans (h.block x hx hs)⟩
theorem Kpt.blk {S : Nat → Prop} {w w' : World} (h : Kpt S w w') {g : Nat} {t : TypeId} {cs : Array Value} (hg : Blk w g t cs) (hs : ¬ S g) : Blk w' g t cs := (h.block g hg.lt hs).trans hg
theorem Kpt.cell {S : Nat → Prop} {w w' : World} (h : Kpt S w w') {p : Addr} {v : Value} (hp : w.cell? p = some v) (hs : ¬ S p.block) : w'.cell? p = some v := (World.cell?_of_block (h.block p.block (block_lt_of_cell hp) hs)).trans hp
/-- the world in which run is called: the reading, Take's variable -/
abbrev takeBox (w : World) (v : Value) : World := (w.alloc (.cells #[v, .bool true, .bool false, .nilIface] 109)).alloc (.cells #[.pointer (some ⟨w.heap.size, 0, none⟩)] 107)
theorem takeBox_size (w : World) (v : Value) : (takeBox w v).heap.size = w.heap.size + 2 := by simp
end Go.Proofs.YtjkneidoochfjaaGreatDoor
/- Take, whatever reads: what it answers. -/
namespace Go.Proofs.YtjkneidoochfjaaGreatDoor
open Go Go.RowKit
section
variable {S : Nat → Prop} {w0 w w1 w2 : World} {v : Value}
end
end Go.Proofs.YtjkneidoochfjaaGreatDoor
/- The chapter's example of layer 6: strange, rightEntries, aims, Wanted. -/
namespace Go.Proofs.YtjkneidoochfjaaGreatDoor
open Go Go.RowKit
abbrev zeros32 : List Nat := List.replicate 32 0
theorem zeros_id : Id32 zeros32 := ⟨by simp, fun i => by
  rw [List.getD_eq_getElem?_getD]
  by_cases h : i < 32
  · simp [h]
  · simp [h]⟩
end Go.Proofs.YtjkneidoochfjaaGreatDoor
/- The chapter's example of layer 6: front, Right, Bytes, alive. -/
namespace Go.Proofs.YtjkneidoochfjaaGreatDoor
open Go Go.RowKit
theorem ObC.drewN {w : World} {o : Ob} {cs : Array Value} {T E P : Option Addr} {tc ec pc : Nat} (h : ObC w o cs T tc E ec P pc) (n : Nat) : ObC (w.drewN n) o cs T tc E ec P pc := h.below (below_drewN (Below.refl _ _) n) (Nat.le_refl _)
/-- An object's box, and what stays of it. -/
structure Box (w0 w : World) (g : Nat) (t : TypeId) (cs : Array Value) : Prop where
  at_ : Blk w g t cs
  bel : Below w0.heap.size w0 w
theorem Box.go {w0 w w' : World} {g : Nat} {t : TypeId} {cs : Array Value} (h : Box w0 w g t cs) (k : Below w.heap.size w w') : Box w0 w' g t cs :=
  ⟨h.at_.below k h.at_.lt, ⟨k.os.trans h.bel.os, k.tape.trans h.bel.tape, k.output.trans h.bel.output, Nat.le_trans h.bel.size k.size, fun i hi => (k.block i (Nat.lt_of_lt_of_le hi h.bel.size)).trans (h.bel.block i hi)⟩⟩
theorem Box.new (w : World) (t : TypeId) (cs : Array Value) : Box w (w.alloc (.cells cs t)) w.heap.size t cs := ⟨Blk.new w t cs, (Below.refl _ _).alloc (Nat.le_refl _) _⟩
theorem Box.drew {w0 w : World} {g : Nat} {t : TypeId} {cs : Array Value} (h : Box w0 w g t cs) : Box w0 w.drew g t cs := ⟨h.at_.drew, below_drewN h.bel 1⟩
theorem below_next {a b c : World} (h : Below a.heap.size a b) (k : Below b.heap.size b c) : Below a.heap.size a c :=
  ⟨k.os.trans h.os, k.tape.trans h.tape, k.output.trans h.output, Nat.le_trans h.size k.size, fun i hi => (k.block i (Nat.lt_of_lt_of_le hi h.size)).trans (h.block i hi)⟩
end Go.Proofs.YtjkneidoochfjaaGreatDoor
