/- Reading, from below: an In that has too few bytes (next); a number (number), a copy of bytes (bytes.Clone). -/
import Derived.Test.YtgcgomdhdgjpdaaGreatDoorMOct5s
import Derived.Recover
import Derived.Lib.Builder
import Derived.Test.YtgcgomdhdgjpdaaGreatDoorMOb3s
namespace Go.Proofs.YtgcgomdhdgjpdaaGreatDoor
open Go Go.RowKit
theorem next_short (i r n : Nat) (aS : Addr) (xs : List Nat) (w0 w : World) (h : InAt w0 w i r xs) (hn : xs.length < n) (hS : w.cell? ⟨3, 0, none⟩ = some (ev aS)) :
  Calls Tryz.prog 180 #[.pointer (some ⟨i, 0, none⟩), .int .i64 (n : Int)] w (Fails w r (ev aS)) := by
 obtain ⟨v, h, hr, _⟩ := h
 obtain ⟨A, c, rfl, hc, hA⟩ := hr
 clear hA
 have c0 : w.cell? ⟨i, 0, none⟩ = some (.pointer (some ⟨r, 0, none⟩)) := h.i_.cell 0
 have c1 : w.cell? ⟨r, 0, none⟩ = some (.slice A xs.length c) := h.r_.cell 0
 have c2 : w.cell? ⟨r, 1, none⟩ = some (.bool true) := h.r_.cell 1
 have c3 : w.cell? ⟨r, 2, none⟩ = some (.bool false) := h.r_.cell 2
 have i1 : (xs.length : Int) < (n : Int) := by omega
 have CF := fail_any i r _ aS w h
 clear h
 go_enter Tryz.func180, Tryz.ntmps180
 go_wp2_with (go_at_call 165; refine CF.mono ?_; rintro e w' ⟨rfl, hd, hg⟩)
 exact ⟨rfl, rfl, hd, hg⟩
theorem clone_any (v : Value) (xs : List Nat) (w : World) (hv : Rd w v xs) (hz : xs.length ≤ 1099511627776) :
  Calls Tryz.prog 33 #[v] w fun e w' => ∃ A c, e = .returned (.slice A xs.length c) ∧ Rd w' (.slice A xs.length c) xs ∧ (0 < xs.length → ∃ g cs, A = some ⟨g, 0, none⟩ ∧ w.heap.size ≤ g ∧ Blk w' g 5 cs) ∧ Below w.heap.size w w' := by
 have HV := Lib.hid hv
 obtain ⟨A, c, rfl, hc, hA⟩ := hv
 have qT : ∀ (w : World) (a : Option Addr) (n c n' c' : Nat), (binOp .eql 46 (.slice a n c) (.slice none n' c')).run Tryz.prog w = .ok (.bool a.isNone) w := fun w a n c n' c' => Lib.run_eql_slice_nil w _ _ a n c n' c' Tryz.underlying46
 cases A with
 | none =>
  have h0 : xs.length = 0 := by
   rcases Nat.eq_zero_or_pos xs.length with h | h
   ·exact h
   ·obtain ⟨b, o, ha, _⟩ := hA h
    cases ha
  have e := List.eq_nil_of_length_eq_zero h0
  subst e
  clear hA
  go_enter Tryz.func33, Tryz.ntmps33
  go_wp2
  go_ret
  exact ⟨_, _, rfl, ⟨_, _, rfl, Nat.le_refl _, fun h => absurd h (by simp)⟩, fun h => absurd h (by simp), Below.refl _ _⟩
 | some a =>
  clear hA
  obtain ⟨n, hn⟩ : ∃ n, n = xs.length := ⟨_, rfl⟩
  rw [← hn] at hc hz HV ⊢
  have HN := Lib.hid hn
  clear hn
  have HP : Hid (Pad w.heap.size w (.slice (some ⟨w.heap.size, 0, none⟩) 0 0) [] (w.alloc (.cells #[] 5))) := Lib.hid ⟨World.ownsRow_lit w #[] 0 (Nat.le_refl _) (by decide) rfl, (Below.refl _ _).alloc (Nat.le_refl _) _⟩
  have HR1 := Lib.hid (rd_alloc HV.out (.cells #[] 5))
  have HZ : Hid (([] : List Nat).length + xs.length ≤ 70368744177664) := Lib.hid (by rw [← HN.out]; simp; omega)
  go_enter Tryz.func33, Tryz.ntmps33
  go_wp2_with (refine wpList_appendB rfl (.tmp 5) (.tmp 6) rfl w.heap.size _ [] rfl HP.out.own HP.out.bel.size _ rfl xs HR1.out HZ.out ?_; intro v2 w2 ho2 hg2; rw [List.nil_append] at ho2; have HP2 : Hid (Pad w.heap.size w v2 xs w2) := Lib.hid ⟨ho2, below_own HP.out.bel HP.out.own (Nat.le_refl _) hg2⟩; clear ho2 hg2)
  go_ret
  obtain ⟨A2, c2, rfl⟩ := HP2.out.len
  refine ⟨A2, c2, by rw [HN.out]; rfl, by rw [HN.out]; exact HP2.out.rd, fun h0 => ?_, HP2.out.bel⟩
  rcases HP2.out.own.2 with ⟨_, h1⟩ | ⟨g, cap, cur, hv, hb, hh, _⟩
  ·rw [HN.out] at h0; omega
  ·injection hv with e1 e2 e3
   exact ⟨g, cur, e1, hb, hh⟩
theorem or_byte (n b : Nat) (hn : n < 72057594037927936) (hb : b < 256) : bits .or .u64 (((n * 256 : Nat)) : Int) (b : Int) = ((n * 256 + b : Nat) : Int) := by
 rw [u64_or (n * 256) b (by omega) (by omega)]
 have h := Nat.shiftLeft_add_eq_or_of_lt (i := 8) (b := b) (by omega) n
 rw [Nat.shiftLeft_eq] at h
 rw [show n * 256 = n * 2^8 from rfl, ← h]
theorem Rd.open_ {w : World} {v : Value} {ys : List Nat} {s : Nat} (h : Rd w v ys) (hs : ys.length = s) : ∃ A c, v = .slice A s c ∧ s ≤ c ∧ (0 < s → ∃ b o, A = some ⟨b, o, none⟩ ∧ ∀ i, i < s → w.cell? ⟨b, o + i, none⟩ = some (.int .u8 ((ys.getD i 0 : Nat) : Int))) := by
 subst hs
 obtain ⟨A, c, h1, h2, h3⟩ := h
 exact ⟨A, c, h1, h2, fun h0 => by obtain ⟨b, o, g1, _, g4⟩ := h3 h0; exact ⟨b, o, g1, g4⟩⟩
theorem val_small {ys : List Nat} (hb : Oc.bytes ys) {k : Nat} (hk : k ≤ 7) (hl : k ≤ ys.length) : Oc.val (ys.take k) < 72057594037927936 := by
 have h := Oc.val_lt k (ys.take k) (Oc.bytes_take hb k) (by rw [List.length_take]; omega)
 have h2 : 256 ^ k ≤ 256 ^ 7 := Nat.pow_le_pow_right (by decide) hk
 have h3 : (256 : Nat) ^ 7 = 72057594037927936 := by decide
 omega
set_option maxRecDepth 100000 in
theorem number_ok (i r s : Nat) (xs : List Nat) (w0 w : World) (h : InAt w0 w i r xs) (hs : s ≤ 8) (hl : s ≤ xs.length) (hb : Oc.bytes xs) :
  Calls Tryz.prog 179 #[.pointer (some ⟨i, 0, none⟩), .int .i64 (s : Int)] w fun e w' => e = .returned (.int .u64 ((Oc.val (xs.take s) : Nat) : Int)) ∧ InAt w0 w' i r (xs.drop s) ∧ w.grownBy w' (some r) := by
 have CN := next_ok i r s xs w0 w h hl
 have hyl : (xs.take s).length = s := by rw [List.length_take]; omega
 have HY := Lib.hid (Oc.bytes_take hb s)
 obtain ⟨ys, hys⟩ : ∃ ys, ys = xs.take s := ⟨_, rfl⟩
 rw [← hys] at CN hyl HY ⊢
 clear hys h
 go_enter Tryz.func179, Tryz.ntmps179
 go_wp2_with (go_at_call 180; refine CN.mono ?_; rintro e w1 ⟨v, rfl, hv, hi, hg⟩; obtain ⟨A, c, rfl, hc, hA⟩ := (hv.below hi.bel.1 (Nat.le_refl _)).open_ hyl; have HI := Lib.hid hi; have HG := Lib.hid hg; clear hi hg hv CN)
 go_loopw [5, 12] (fun n j wr => ∃ k : Nat, k ≤ s ∧ n = .int .u64 ((Oc.val (ys.take k) : Nat) : Int) ∧ j = .int .i64 k ∧ wr = w1) (fun _ j _ => s - (intOf j).toNat)
 case atStart => exact ⟨0, by omega, rfl, rfl, rfl⟩
 case round =>
  obtain ⟨k, hk, rfl, rfl, rfl⟩ := hrel
  by_cases hlt : k < s
  ·obtain ⟨b, o, rfl, hx⟩ := hA (by omega)
   have p1 := hx k hlt
   have hvt := Oc.val_take (l := ys) (k := k) (by omega)
   have hv7 := val_small HY.out (k := k) (by omega) (by omega)
   have hb1 : ys.getD k 0 < 256 := by
    have h1 : k < ys.length := by omega
    rw [List.getD, List.getElem?_eq_getElem h1]
    exact HY.out _ (List.getElem_mem h1)
   generalize Oc.val (ys.take k) = V at hvt hv7
   generalize ys.getD k 0 = x at p1 hvt hb1
   have HVT := Lib.hid hvt
   have HOR := Lib.hid (or_byte V x hv7 hb1)
   have i0 : ((k : Nat) : Int) < s := by omega
   have i1 : (0 : Int) ≤ ((k : Nat) : Int) := by omega
   clear hx hA hvt
   go_wp2
   go_roundw
   case rel => exact ⟨k + 1, by omega, by rw [HVT.out, ← HOR.out]; simp, by go_num, (by first | rfl | trivial)⟩
   case measure => simp [intOf]; omega
  ·obtain rfl : k = s := by omega
   have H : Hid (ys.take k = ys) := Lib.hid (List.take_of_length_le (by omega))
   go_wp2
   go_ret
   exact ⟨by rw [H.out]; rfl, HI.out, HG.out⟩
theorem number_short (i r s : Nat) (aS : Addr) (xs : List Nat) (w0 w : World) (h : InAt w0 w i r xs) (hl : xs.length < s) (hS : w.cell? ⟨3, 0, none⟩ = some (ev aS)) :
  Calls Tryz.prog 179 #[.pointer (some ⟨i, 0, none⟩), .int .i64 (s : Int)] w (Fails w r (ev aS)) := by
 have CN := next_short i r s aS xs w0 w h hl hS
 clear h
 go_enter Tryz.func179, Tryz.ntmps179
 go_wp2_with (go_at_call 180; refine CN.mono ?_; rintro e w1 ⟨rfl, hd, hg⟩)
 exact ⟨rfl, rfl, hd, hg⟩
theorem to_u64 (n : Nat) (h : n ≤ 4611686018427387903) : IntKind.u64.wrap (n : Int) = (n : Int) := by rw [wrap_u64]; omega
theorem to_i64 (n : Nat) (h : n ≤ 4611686018427387903) : IntKind.i64.wrap (n : Int) = (n : Int) := IntWalk.i64_in _ (by omega)
theorem inum_short (i r c z : Nat) (aS : Addr) (xs : List Nat) (w0 w : World) (h : InAt w0 w i r xs) (hc : Oc.nsize c = z) (hz : 0 < z) (hl : xs.length < z) (hS : w.cell? ⟨3, 0, none⟩ = some (ev aS)) :
  Calls Tryz.prog 161 #[.pointer (some ⟨i, 0, none⟩), .int .u8 ((c : Nat) : Int)] w (Fails w r (ev aS)) := by
 have CN := number_short i r z aS xs w0 w h hl hS
 have CM := number_any c
 rw [hc] at CM
 have b0 : ((z : Int) == 0) = false := by simp; omega
 clear h
 go_enter Tryz.func161, Tryz.ntmps161
 go_wp2_with (first | (go_at_call 138; refine (CM _).mono ?_; rintro e w' ⟨rfl, rfl⟩) | (go_at_call 179; refine CN.mono ?_; rintro e w' ⟨rfl, hd, hg⟩))
 exact ⟨rfl, rfl, hd, hg⟩
theorem inum_ok (i r c z : Nat) (xs : List Nat) (w0 w : World) (h : InAt w0 w i r xs) (hc : Oc.nsize c = z) (hz : 0 < z) (hz8 : z ≤ 8) (hl : z ≤ xs.length) (hb : Oc.bytes xs) (hm : Oc.val (xs.take z) ≤ Oc.mostN c) (hmm : Oc.most c = Oc.mostN c) :
  Calls Tryz.prog 161 #[.pointer (some ⟨i, 0, none⟩), .int .u8 ((c : Nat) : Int)] w fun e w' => e = .returned (.int .i64 ((Oc.val (xs.take z) : Nat) : Int)) ∧ InAt w0 w' i r (xs.drop z) ∧ w.grownBy w' (some r) := by
 have CN := number_ok i r z xs w0 w h hz8 hl hb
 have CM := number_any c
 have hle := Oc.most_le c
 rw [hc, hmm] at CM
 rw [hmm] at hle
 generalize Oc.mostN c = M at hm hle CM
 generalize Oc.val (xs.take z) = V at hm CN ⊢
 have q1 := to_u64 M (by omega)
 have q2 := to_i64 V (by omega)
 have b0 : ((z : Int) == 0) = false := by simp; omega
 have i1 : ¬ (M : Int) < (V : Int) := by omega
 clear h hmm
 go_enter Tryz.func161, Tryz.ntmps161
 go_wp2_with (first | (go_at_call 138; refine (CM _).mono ?_; rintro e w' ⟨rfl, rfl⟩) | (go_at_call 179; refine CN.mono ?_; rintro e w' ⟨rfl, hi, hg⟩; have HI := Lib.hid hi; have HG := Lib.hid hg; clear hi hg))
 go_ret
 exact ⟨rfl, HI.out, HG.out⟩
def Own (B : Nat) (w : World) (A : Option Addr) (n c : Nat) (xs : List Nat) (t : TypeId) : Prop := Rd w (.slice A n c) xs ∧ xs.length = n ∧ (0 < n → ∃ g cs, A = some ⟨g, 0, none⟩ ∧ B ≤ g ∧ Blk w g t cs)
theorem oid_size : (Tryz.prog.info? 41).map (·.size) = some 32 := by kernel_rfl
abbrev oidBox (w : World) : World := w.alloc (.cells (u8s (List.replicate 32 0)) 41)
theorem only_setRow' {a w : World} {row : Option Nat} (h : a.grownBy w row) {g' : Nat} (hp : a.heap.size ≤ g') (cs : Array Value) : a.grownBy (w.setRow g' cs) row :=
 only_step h rfl rfl rfl (by simp [World.setRow]) fun i hi hne => setRow_other w g' i cs (by omega)
theorem wp_copy32 {o : Oper} {a : Act} {w : World} {K : Act → World → Prop} {Q : Exit → Act → World → Prop} (d s : Operand)
  (ho : o.op = .call { callee := .builtin .copy, args := #[d, s], argTypes := #[46, 46] }) (g : Nat) (t : TypeId) (zs : List Nat) (hg : Blk w g t (u8s zs)) (hz : zs.length = 32)
  (hd : a.eval d = .slice (some ⟨g, 0, none⟩) 32 32) (ad : Addr) (c : Nat) (hs : a.eval s = .slice (some ad) 32 c) (ys : List Nat) (hy : ys.length = 32)
  (hsrc : ∀ i, i < 32 → w.cell? (ad.add i) = some (.int .u8 ((ys.getD i 0 : Nat) : Int))) (h : K (a.put o.dst (.int .i64 32)) (w.setRow g (u8s ys))) : o.wp Tryz.prog a w K Q := by
 have hrun := run_copy_row (P := Tryz.prog) w 46 46 o.type 5 g 0 32 32 ad 32 c (u8s zs) t (cellsB ys) Tryz.underlying46 (by kernel_rfl) hg (by rw [cellsB_len, hy]; rfl) (fun j v hj => by
  have hjl : j < ys.length := by have := (List.getElem?_eq_some_iff.1 hj).1; rwa [cellsB_len] at this
  rw [cellsB_get hjl] at hj
  rw [hsrc j (by omega), hj]) (by rw [cellsB_len, u8s_size]; omega) (cellsB_one _)
 have e : ((u8s zs).toList.take 0 ++ cellsB ys ++ (u8s zs).toList.drop (0 + (cellsB ys).length)).toArray = u8s ys := by
  rw [cellsB_len, hy]
  simp [u8s, cellsB, hz]
 rw [e, cellsB_len, hy] at hrun
 unfold Oper.wp
 simp [execOp, ho, resolve, invoke, builtin, hd, hs, hrun, Result.andThen]
 exact h
theorem below_boxes (w : World) : Below w.heap.size w (oidBox (oidBox w)) := ((Below.refl _ _).alloc (Nat.le_refl _) _).alloc ((Below.refl _ _).alloc (Nat.le_refl _) _).size _
theorem oid_short (i r : Nat) (aS : Addr) (xs : List Nat) (w0 w : World) (h : InAt w0 w i r xs) (hl : xs.length < 32) (hS : w.cell? ⟨3, 0, none⟩ = some (ev aS)) :
  Calls Tryz.prog 164 #[.pointer (some ⟨i, 0, none⟩)] w (Fails w r (ev aS)) := by
 have hb := below_boxes w
 have CN : Calls Tryz.prog 180 #[.pointer (some ⟨i, 0, none⟩), .int .i64 32] (oidBox (oidBox w)).drew _ := next_short i r 32 aS xs w0 (oidBox (oidBox w)).drew (h.below (below_drewN hb 1)) hl ((below_drewN hb 1).cell (block_lt_of_cell hS) |>.trans hS)
 have HB := Lib.hid (below_drewN hb 1)
 clear h hb
 go_enter Tryz.func164, Tryz.ntmps164
 go_wp2
 refine wp_region_held (S := fun _ => True) (by kernel_rfl) ?_
 change wpAnyH _ _ _ _ _ _ _ _ (oidBox (oidBox w)).drew
 refine wpAnyH_take (i := 0) (v := ?_) rfl (by kernel_rfl) (by kernel_rfl) (by kernel_rfl) (fun _ _ _ h => h) (Or.inl ⟨by rfl, ?_⟩) trivial ?_
 rotate_left
 ·intro w _; go_simp; with_reducible rfl
 try simp only [Act.put, List.getElem_toArray, List.getElem_cons_zero, List.setIfInBounds_toArray, List.set_cons_zero, List.set_cons_succ]
 refine wpAnyH_take (i := 1) (v := ?_) rfl (by kernel_rfl) (by kernel_rfl) (by kernel_rfl) (fun _ _ _ h => h) (Or.inl ⟨by rfl, ?_⟩) trivial ?_
 rotate_left
 ·intro w _; go_simp; with_reducible rfl
 try simp only [Act.put, List.getElem_toArray, List.getElem_cons_zero, List.getElem_cons_succ, List.setIfInBounds_toArray, List.set_cons_zero, List.set_cons_succ]
 refine all_one (i := 2) (by kernel_rfl) rfl (by rfl) (fun K hK => ?_)
 go_simp
 refine CN.mono ?_
 rintro e w' ⟨rfl, hd, hg⟩
 exact ⟨rfl, rfl, hd, only_trans (only_of_below HB.out _) hg⟩
theorem oid_ok (i r : Nat) (xs : List Nat) (w0 w : World) (h : InAt w0 w i r xs) (hl : 32 ≤ xs.length) :
  Calls Tryz.prog 164 #[.pointer (some ⟨i, 0, none⟩)] w fun e w' => e = .returned (.agg (u8s (xs.take 32))) ∧ InAt w0 w' i r (xs.drop 32) ∧ w.grownBy w' (some r) := by
 have hb := below_boxes w
 have CN : Calls Tryz.prog 180 #[.pointer (some ⟨i, 0, none⟩), .int .i64 32] (oidBox (oidBox w)).drew _ := next_ok i r 32 xs w0 (oidBox (oidBox w)).drew (h.below (below_drewN hb 1)) hl
 have HB := Lib.hid (below_drewN hb 1)
 have hyl : (xs.take 32).length = 32 := by rw [List.length_take]; omega
 obtain ⟨ys, hys⟩ : ∃ ys, ys = xs.take 32 := ⟨_, rfl⟩
 rw [← hys] at CN hyl ⊢
 have HYL := Lib.hid hyl
 have HR0 : Hid (Blk (oidBox (oidBox w)).drew w.heap.size 41 (u8s (List.replicate 32 0))) := Lib.hid (((Blk.new w _ _).alloc _).drew)
 have HR1 : Hid (Blk (oidBox (oidBox w)).drew (w.heap.size + 1) 41 (u8s (List.replicate 32 0))) := Lib.hid (by
  have h := (Blk.new (oidBox w) 41 (u8s (List.replicate 32 0))).drew
  rwa [show (oidBox w).heap.size = w.heap.size + 1 by simp] at h)
 have HLT := Lib.hid h.lt
 have HLI : Hid (i < w.heap.size ∧ w0.heap.size ≤ w.heap.size) := Lib.hid (by obtain ⟨v, k, _, k2, _⟩ := h; exact ⟨k.i_.lt, k2.size⟩)
 clear h hb hys hyl
 go_enter Tryz.func164, Tryz.ntmps164
 go_wp2
 refine wp_region_held (S := fun _ => True) (by kernel_rfl) ?_
 change wpAnyH _ _ _ _ _ _ _ _ (oidBox (oidBox w)).drew
 refine wpAnyH_take (i := 0) (v := ?_) rfl (by kernel_rfl) (by kernel_rfl) (by kernel_rfl) (fun _ _ _ h => h) (Or.inl ⟨by rfl, ?_⟩) trivial ?_
 rotate_left
 ·intro w _; go_simp; with_reducible rfl
 try simp only [Act.put, List.getElem_toArray, List.getElem_cons_zero, List.setIfInBounds_toArray, List.set_cons_zero, List.set_cons_succ]
 refine wpAnyH_take (i := 1) (v := ?_) rfl (by kernel_rfl) (by kernel_rfl) (by kernel_rfl) (fun _ _ _ h => h) (Or.inl ⟨by rfl, ?_⟩) trivial ?_
 rotate_left
 ·intro w _; go_simp; with_reducible rfl
 try simp only [Act.put, List.getElem_toArray, List.getElem_cons_zero, List.getElem_cons_succ, List.setIfInBounds_toArray, List.set_cons_zero, List.set_cons_succ]
 refine all_one (i := 2) (by kernel_rfl) rfl (by rfl) (fun K hK => ?_)
 go_simp
 refine CN.mono ?_
 rintro e w1 ⟨v, rfl, hv, hi, hg⟩
 obtain ⟨A, c, rfl, hc, hA⟩ := (hv.below hi.bel.1 (Nat.le_refl _)).open_ HYL.out
 obtain ⟨b, o, rfl, hx⟩ := hA (by omega)
 have HX := Lib.hid hx
 have HI := Lib.hid hi
 have HG := Lib.hid (only_trans (only_of_below HB.out (some r)) hg)
 have HQ0 : Hid (Blk w1 w.heap.size 41 (u8s (List.replicate 32 0))) := Lib.hid (HR0.out.grown hg (fun e => by injection e with e; have := HLT.out; omega))
 have HQ1 : Hid (Blk w1 (w.heap.size + 1) 41 (u8s (List.replicate 32 0))) := Lib.hid (HR1.out.grown hg (fun e => by injection e with e; have := HLT.out; omega))
 clear hx hi hg hv hA
 dsimp only
 refine hK _ _ trivial ?_; clear hK K
 try simp only [Act.put, List.getElem_toArray, List.getElem_cons_zero, List.getElem_cons_succ, List.setIfInBounds_toArray, List.set_cons_zero, List.set_cons_succ]
 refine all_one (i := 3) (by kernel_rfl) rfl (by rfl) (fun K hK => ?_)
 refine wp_copy32 (.tmp 4) (.tmp 6) rfl (w.heap.size + 1) 41 (List.replicate 32 0) HQ1.out (by decide) rfl ⟨b, o, none⟩ c rfl ys HYL.out (fun j hj => by rw [Addr.add_mid]; exact HX.out j hj) ?_
 refine hK _ _ trivial ?_; clear hK K
 try simp only [Act.put, List.getElem_toArray, List.getElem_cons_zero, List.getElem_cons_succ, List.setIfInBounds_toArray, List.set_cons_zero, List.set_cons_succ]
 refine wpAnyH_done (by kernel_rfl) ?_ _
 have HW1 : Hid (Blk (w1.setRow (w.heap.size + 1) (u8s ys)) (w.heap.size + 1) 41 (u8s ys)) := Lib.hid (HQ1.out.row _)
 have HW0 : Hid (Blk (w1.setRow (w.heap.size + 1) (u8s ys)) w.heap.size 41 (u8s (List.replicate 32 0))) := Lib.hid (HQ0.out.farRow (by omega) _)
 go_wp2_with (first | (refine wpList_load_row rfl 41 (.tmp 3) rfl (w.heap.size + 1) rfl 41 (u8s ys) (0,0) _ HW1.out Tryz.underlying41 rfl (by rw [u8s_size, HYL.out]; exact oid_size) ?_) | (refine wpList_store_row rfl 41 (.tmp 2) (.tmp 8) rfl w.heap.size _ rfl rfl 41 _ HW0.out (by rw [u8s_size, HYL.out]; exact oid_size) (by rw [u8s_size, u8s_size, HYL.out]; rfl) (u8s_one _) ?_))
 have hlt := HLT.out
 refine bodyPost_ret (v := .agg (u8s ys)) (results_cell_row rfl _ _ w.heap.size 41 _ (0, 0) _ rfl (HW0.out.row _) Tryz.underlying41 rfl (by rw [u8s_size, HYL.out]; exact oid_size)) rfl ⟨rfl, ?_, only_setRow' (only_setRow' HG.out (by omega) _) (by omega) _⟩
 obtain ⟨v, k, hr, hw, h1, h2⟩ := HI.out
 have hli := HLI.out
 exact ⟨v, ⟨(k.i_.farRow (by omega) _).farRow (by omega) _, (k.r_.farRow (by omega) _).farRow (by omega) _, k.ne⟩, hr, below_row (below_row hw (by omega) _) (by omega) _, h1, h2⟩
namespace Oc
end Oc
structure FOwn (B : Nat) (w : World) (f : Fld) : Prop where
 rd : Rd w (.slice f.A f.l f.c) f.bs
 len : f.bs.length = f.l
 own : 0 < f.l → ∃ g cs t, f.A = some ⟨g, 0, none⟩ ∧ B ≤ g ∧ Blk w g t cs ∧ t ≠ 151 ∧ t ≠ 240
def Kind (w : World) (row : Option Nat) : Prop := ∀ g, row = some g → ∃ cs t, Blk w g t cs ∧ (t = 151 ∨ t = 240)
theorem FOwn.step {B : Nat} {w w' : World} {f : Fld} {row : Option Nat} (h : FOwn B w f) (k : w.grownBy w' row) (hr : Kind w row) : FOwn B w' f := by
 have key : ∀ g cs t, Blk w g t cs → t ≠ 151 → t ≠ 240 → some g ≠ row := by
  rintro g cs t hB h1 h2 rfl
  obtain ⟨cs', t', hB', ht⟩ := hr g rfl
  have e := hB.symm.trans hB'
  injection e with e
  injection e with _ e _
  subst e
  exact ht.elim h1 h2
 refine ⟨?_, h.len, fun h0 => ?_⟩
 ·obtain ⟨A', c', hv, hc, hA⟩ := h.rd
  refine ⟨A', c', hv, hc, fun h0 => ?_⟩
  obtain ⟨b, o, ha, hb, hx⟩ := hA h0
  injection hv with e1 e2 e3
  obtain ⟨g, cs, t, e4, _, hB, h1, h2⟩ := h.own (by rw [← h.len]; exact h0)
  rw [e1, ha] at e4
  injection e4 with e4
  injection e4 with e4 e5
  subst e4
  exact ⟨b, o, ha, Nat.lt_of_lt_of_le hb k.size, fun i hi => k.cell (hx i hi) (key b cs t hB h1 h2)⟩
 ·obtain ⟨g, cs, t, e4, hg, hB, h1, h2⟩ := h.own h0
  exact ⟨g, cs, t, e4, hg, hB.grown k (key g cs t hB h1 h2), h1, h2⟩
theorem kind_none (w : World) : Kind w none := fun _ h => by cases h
theorem FOwn.below {B : Nat} {w w' : World} {f : Fld} (h : FOwn B w f) (hb : Below w.heap.size w w') : FOwn B w' f := h.step (only_of_below hb none) (kind_none w)
theorem kind_own {w : World} {B n : Nat} {v : Value} {cs : List Value} (h : w.ownsRow B 151 2 v n cs) : Kind w v.ownBlock := fun g hg => by
 rcases h.2 with ⟨rfl, _⟩ | ⟨g', cap, cur, rfl, _, hh, _⟩
 ·cases hg
 ·cases hg
  exact ⟨cur, _, hh, Or.inl rfl⟩
structure FX (w0 wf w : World) (i r : Nat) (v : Value) (k : Nat) (fs : List Fld) (ys : List Nat) : Prop where
 at_ : InAt w0 w i r ys
 row : w.ownsRow wf.heap.size 151 2 v k (cellsF fs)
 fld : ∀ f ∈ fs, FOwn wf.heap.size w f
 grw : wf.grownBy w (some r)
 old : r < wf.heap.size ∧ i < wf.heap.size ∧ w0.heap.size ≤ wf.heap.size
theorem InAt.kind {w0 w : World} {i r : Nat} {xs : List Nat} (h : InAt w0 w i r xs) : Kind w (some r) := fun g hg => by
 injection hg with hg
 subst hg
 obtain ⟨v, k, _⟩ := h
 exact ⟨_, _, k.r_, Or.inr rfl⟩
theorem own_ne {w : World} {B n r : Nat} {v : Value} {cs : List Value} {e : TypeId} (h : w.ownsRow B e 2 v n cs) (hr : r < B) : some r ≠ v.ownBlock := fun e => by
 have := (h.lt r e.symm).1
 omega
theorem FX.start {w0 w : World} {i r : Nat} {xs : List Nat} (h : InAt w0 w i r xs) : FX w0 w w i r (.slice none 0 0) 0 [] xs := by
 have h2 := h
 obtain ⟨v, k, hr, hw, h1, h3⟩ := h2
 exact ⟨h, ⟨by decide, .inl ⟨rfl, rfl⟩⟩, fun f hf => (by cases hf), World.grownBy.refl w _, k.r_.lt, k.i_.lt, hw.size⟩
section
variable {w0 wf w w' : World} {i r k : Nat} {v : Value} {fs : List Fld} {ys : List Nat}
theorem FX.read (h : FX w0 wf w i r v k fs ys) (hg : w.grownBy w' (some r)) {zs : List Nat} (hi : InAt w0 w' i r zs) : FX w0 wf w' i r v k fs zs :=
 ⟨hi, h.row.kept hg (by cases hv : v.ownBlock with | none => exact Or.inl rfl | some g => exact Or.inr (fun e => own_ne h.row h.old.1 (by rw [hv, e]))), fun f hf => (h.fld f hf).step hg h.at_.kind, only_trans h.grw hg, h.old⟩
theorem FX.below (h : FX w0 wf w i r v k fs ys) (hb : Below w.heap.size w w') : FX w0 wf w' i r v k fs ys :=
 ⟨h.at_.below hb, h.row.kept (only_of_below hb none) (by cases hv : v.ownBlock with | none => exact Or.inl rfl | some g => exact Or.inr (by simp)), fun f hf => (h.fld f hf).below hb, only_trans h.grw (only_of_below hb _), h.old⟩
theorem FX.app (h : FX w0 wf w i r v k fs ys) {v2 : Value} {f : Fld} (ho : w'.ownsRow wf.heap.size 151 2 v2 (k + 1) (cellsF fs ++ [.int .i64 f.n, .slice f.A f.l f.c])) (hg : w.grownBy w' v.ownBlock) (hf : FOwn wf.heap.size w f) : FX w0 wf w' i r v2 (k + 1) (fs ++ [f]) ys := by
 have hk := kind_own h.row
 have n1 := own_ne h.row h.old.1
 have n2 := own_ne h.row h.old.2.1
 obtain ⟨u, a, hr, hw, h1, h2⟩ := h.at_
 refine ⟨⟨u, ⟨a.i_.grown hg n2, a.r_.grown hg n1, a.ne⟩, hr, below_own hw h.row h.old.2.2 hg, h1, h2⟩, by simpa [cellsF] using ho, fun x hx => ?_, ?_, h.old⟩
 ·rcases List.mem_append.1 hx with hx | hx
  ·exact (h.fld x hx).step hg hk
  ·rw [List.mem_singleton.1 hx]; exact hf.step hg hk
 ·refine ⟨hg.os.trans h.grw.os, hg.tape.trans h.grw.tape, hg.output.trans h.grw.output, Nat.le_trans h.grw.size hg.size, fun j hj hne => ?_⟩
  rw [hg.block j (Nat.lt_of_lt_of_le hj h.grw.size) (own_ne h.row hj)]
  exact h.grw.block j hj hne
end
end Go.Proofs.YtgcgomdhdgjpdaaGreatDoor
/- The walk of (*In).fields. -/
namespace Go.Proofs.YtgcgomdhdgjpdaaGreatDoor
open Go Go.RowKit
def OSents (w : World) (a : Nat → Addr) : Prop := ∀ k, (k = 0 ∨ k = 1 ∨ k = 2 ∨ k = 3 ∨ k = 6) → SentAt w (sgs.getD k 0) (stexts.getD k []) (a k)
theorem OSents.below {w w' : World} {a : Nat → Addr} (h : OSents w a) {B : Nat} (hb : Below B w w') (hB : w.heap.size ≤ B) : OSents w' a := fun k hk => (h k hk).below hb hB
theorem Sents.o {w : World} {a : Nat → Addr} (h : Sents w a) : OSents w a := fun k hk => h k (by omega)
theorem slots17 (x v : Value) : #[x] ++ (Array.replicate 17 undef).setIfInBounds 3 v = #[x, undef, undef, undef, v, undef, undef, undef, undef, undef, undef, undef, undef, undef, undef, undef, undef, undef] := by kernel_rfl
theorem stop_eql (r : Nat) (w : World) : (binOp .eql 20 (stopV r) .nilIface).run Tryz.prog w = .ok (.bool false) w := by kernel_rfl
theorem stop_assert (r : Nat) (w : World) : (Instr.typeAssert (stopV r) 20 257 true).run Tryz.prog w = .ok (.tuple #[.agg #[.pointer (some ⟨r, 0, none⟩)], .bool true]) w := by kernel_rfl
theorem stop_neq (r : Nat) (w : World) : (binOp .neq 238 (.pointer (some ⟨r, 0, none⟩)) (.pointer (some ⟨r, 0, none⟩))).run Tryz.prog w = .ok (.bool false) w := by
 cases h : Tryz.prog.info? 240 with
 | none =>
  have h2 : (Tryz.prog.info? 240).isSome = true := by kernel_rfl
  rw [h] at h2; cases h2
 | some j => exact Lib.run_neq_ptr_same w _ Tryz.underlying238 h
structure Kpt (S : Nat → Prop) (w w' : World) : Prop where
 os : w'.os = w.os
 tape : w'.tape = w.tape
 output : w'.output = w.output
 size : w.heap.size ≤ w'.heap.size
 block : ∀ b, b < w.heap.size → ¬ S b → w'.heap[b]? = w.heap[b]?
theorem Kpt.of_below {S : Nat → Prop} {w w' : World} (h : Below w.heap.size w w') : Kpt S w w' := ⟨h.os, h.tape, h.output, h.size, fun b hb _ => h.block b hb⟩
theorem Kpt.of_grown {S : Nat → Prop} {w w' : World} {r : Nat} (h : w.grownBy w' (some r)) (hr : S r) : Kpt S w w' := ⟨h.os, h.tape, h.output, h.size, fun b hb hs => h.block b hb (fun e => by injection e with e; subst e; exact hs hr)⟩
theorem Kpt.trans {S : Nat → Prop} {a b c : World} (h : Kpt S a b) (k : Kpt S b c) : Kpt S a c := ⟨k.os.trans h.os, k.tape.trans h.tape, k.output.trans h.output, Nat.le_trans h.size k.size, fun x hx hs => (k.block x (Nat.lt_of_lt_of_le hx h.size) hs).trans (h.block x hx hs)⟩
theorem Kpt.below {w w' : World} (h : Kpt (fun _ => False) w w') : Below w.heap.size w w' := ⟨h.os, h.tape, h.output, h.size, fun b hb => h.block b hb (fun h => h)⟩
theorem Kpt.old {S T : Nat → Prop} {a b c : World} (h : Kpt S a b) (k : Kpt T b c) (hT : ∀ x, T x → x < a.heap.size → S x) : Kpt S a c :=
 ⟨k.os.trans h.os, k.tape.trans h.tape, k.output.trans h.output, Nat.le_trans h.size k.size, fun x hx hs => (k.block x (Nat.lt_of_lt_of_le hx h.size) (fun ht => hs (hT x ht hx))).trans (h.block x hx hs)⟩
theorem Kpt.blk {S : Nat → Prop} {w w' : World} (h : Kpt S w w') {g : Nat} {t : TypeId} {cs : Array Value} (hg : Blk w g t cs) (hs : ¬ S g) : Blk w' g t cs := (h.block g hg.lt hs).trans hg
theorem Kpt.cell {S : Nat → Prop} {w w' : World} (h : Kpt S w w') {p : Addr} {v : Value} (hp : w.cell? p = some v) (hs : ¬ S p.block) : w'.cell? p = some v := (World.cell?_of_block (h.block p.block (block_lt_of_cell hp) hs)).trans hp
abbrev takeBox (w : World) (v : Value) : World := (w.alloc (.cells #[v, .bool true, .bool false, .nilIface] 240)).alloc (.cells #[.pointer (some ⟨w.heap.size, 0, none⟩)] 238)
theorem takeBox_size (w : World) (v : Value) : (takeBox w v).heap.size = w.heap.size + 2 := by simp
section
variable {S : Nat → Prop} {w0 w w1 w2 : World} {v : Value}
end
end Go.Proofs.YtgcgomdhdgjpdaaGreatDoor
/- The chapter's example of layer 6: strange, rightEntries, aims, Wanted. -/
namespace Go.Proofs.YtgcgomdhdgjpdaaGreatDoor
open Go Go.RowKit
abbrev zeros32 : List Nat := List.replicate 32 0
theorem zeros_id : Id32 zeros32 := ⟨by simp, fun i => by
 rw [List.getD_eq_getElem?_getD]
 by_cases h : i < 32
 ·simp [h]
 ·simp [h]⟩
theorem wanted_any (k : Int) (w : World) : Calls Tryz.prog 115 #[.int .i64 k] w fun e w' => e = .returned (.int .i64 (if k = 3 then 2 else 0)) ∧ w = w' := by
 by_cases h : k = 3
 ·subst h
  go_enter Tryz.func115, Tryz.ntmps115
  go_wp2
  go_ret
  exact ⟨rfl, rfl⟩
 ·have HV := Lib.hid (show (if k = 3 then (2 : Int) else 0) = 0 from if_neg h)
  go_enter Tryz.func115, Tryz.ntmps115
  go_wp2
  go_ret
  exact ⟨rfl, rfl⟩
theorem ObC.drewN {w : World} {o : Ob} {cs : Array Value} {T E P : Option Addr} {tc ec pc : Nat} (h : ObC w o cs T tc E ec P pc) (n : Nat) : ObC (w.drewN n) o cs T tc E ec P pc := h.below (below_drewN (Below.refl _ _) n) (Nat.le_refl _)
structure Box (w0 w : World) (g : Nat) (t : TypeId) (cs : Array Value) : Prop where
 at_ : Blk w g t cs
 bel : Below w0.heap.size w0 w
theorem Box.go {w0 w w' : World} {g : Nat} {t : TypeId} {cs : Array Value} (h : Box w0 w g t cs) (k : Below w.heap.size w w') : Box w0 w' g t cs :=
 ⟨h.at_.below k h.at_.lt, ⟨k.os.trans h.bel.os, k.tape.trans h.bel.tape, k.output.trans h.bel.output, Nat.le_trans h.bel.size k.size, fun i hi => (k.block i (Nat.lt_of_lt_of_le hi h.bel.size)).trans (h.bel.block i hi)⟩⟩
theorem Box.new (w : World) (t : TypeId) (cs : Array Value) : Box w (w.alloc (.cells cs t)) w.heap.size t cs := ⟨Blk.new w t cs, (Below.refl _ _).alloc (Nat.le_refl _) _⟩
theorem Box.drew {w0 w : World} {g : Nat} {t : TypeId} {cs : Array Value} (h : Box w0 w g t cs) : Box w0 w.drew g t cs := ⟨h.at_.drew, below_drewN h.bel 1⟩
theorem below_next {a b c : World} (h : Below a.heap.size a b) (k : Below b.heap.size b c) : Below a.heap.size a c :=
 ⟨k.os.trans h.os, k.tape.trans h.tape, k.output.trans h.output, Nat.le_trans h.size k.size, fun i hi => (k.block i (Nat.lt_of_lt_of_le hi h.size)).trans (h.block i hi)⟩
end Go.Proofs.YtgcgomdhdgjpdaaGreatDoor
