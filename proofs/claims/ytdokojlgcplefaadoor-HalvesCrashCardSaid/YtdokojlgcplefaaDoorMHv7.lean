/- Layer 5: rows of deeds, each done only behind the one ahead; a half is begun, made whole. -/
import Derived.Test.YtdokojlgcplefaaDoorMHv6
namespace Go.Proofs.YtdokojlgcplefaaDoor
open Go Go.RowKit
namespace Hv
abbrev M := Dk.D → Bool × Dk.D
def wrM (i : Nat) (bs : List Nat) : M := fun S => (Dk.done S, Dk.wrote S i bs)
def syM : M := fun S => (Dk.done S, Dk.syncs S)
def wipM (f i n : Nat) : M := fun S => ((wipeN f i n S).1, (wipeN f i n S).2.2)
def andM (a b : M) : M := fun S => if (a S).1 then b (a S).2 else (false, (a S).2)
def beginM (f z n : Nat) : M := andM (wrM f (headB n 1)) (andM syM (andM (wipM f 1 (z - 1)) syM))
def finishM (f n : Nat) : M := andM (wrM f (headB n 2)) syM
theorem andM_yes {a b : M} {S : Dk.D} (h : (a S).1 = true) : andM a b S = b (a S).2 := by unfold andM; rw [if_pos h]
theorem andM_no {a b : M} {S : Dk.D} (h : (a S).1 = false) : andM a b S = (false, (a S).2) := by unfold andM; rw [if_neg (by rw [h]; simp)]
end Hv
theorem rdB_of_blk {B : Nat} {w : World} {d k g : Nat} {S : Dk.D} {bs : List Nat} (h : DkX B w d S k) (hb : Blk w g 5 (u8s bs)) (o n c : Nat) (h1 : o + n ≤ bs.length) (h2 : n ≤ c) : RdB w d (.slice (some ⟨g, o, none⟩) n c) ((bs.drop o).take n) := by
 have hl : ((bs.drop o).take n).length = n := by rw [List.length_take, List.length_drop]; omega
 obtain ⟨ms, ml, v, h⟩ := h
 refine ⟨_, c, by rw [hl], by rw [hl]; exact h2, fun _ => ⟨g, o, rfl, h.other hb (by decide) (by decide) d (Or.inl rfl), hb.lt, fun i hi => ?_⟩⟩
 rw [hl] at hi
 rw [hb.cell (o + i), u8s_get _ _ (by omega)]
 congr 3
 simp only [List.getD, List.getElem?_take, if_pos hi, List.getElem?_drop]
theorem rdB_whole {B : Nat} {w : World} {d k g : Nat} {S : Dk.D} {bs : List Nat} (h : DkX B w d S k) (hb : Blk w g 5 (u8s bs)) (hl : bs.length = 32) : RdB w d (.slice (some ⟨g, 0, none⟩) 32 32) bs := by
 have := rdB_of_blk h hb 0 32 32 (by omega) (Nat.le_refl _)
 rwa [List.drop_zero, List.take_of_length_le (by omega)] at this
structure Env (B : Nat) (a : Nat → Addr) (w0 w : World) : Prop where
 sents : HSents w0 a
 tabs : Tabs w0
 low : w0.heap.size ≤ B
 bel : Below w0.heap.size w0 w
section
variable {B : Nat} {a : Nat → Addr} {w0 w w' : World}
theorem Env.below (h : Env B a w0 w) (hb : Below w.heap.size w w') : Env B a w0 w' := ⟨h.sents, h.tabs, h.low, below_then h.bel hb⟩
theorem Env.tfr (h : Env B a w0 w) (ht : TFr B w w') : Env B a w0 w' := ⟨h.sents, h.tabs, h.low, ht.run h.low h.bel⟩
theorem Env.s (h : Env B a w0 w) : HSents w a := h.sents.below h.bel (Nat.le_refl _)
theorem Env.t (h : Env B a w0 w) : Tabs w := h.tabs.below h.bel (Nat.le_refl _)
theorem Env.down (h : Env B a w0 w) : w.cell? ⟨2, 0, none⟩ = some (ev (a 15)) := (h.s 15 (by omega)).var
theorem Env.ne {d k : Nat} {S : Dk.D} (h : Env B a w0 w) (hd : DkX B w d S k) : d ≠ 2 := fun e => by
 have h1 := (h.sents 15 (by omega)).lt
 have h2 := hd.lt.1
 have h3 := h.low
 have h4 : sgs.getD 15 0 = 2 := rfl
 omega
end
set_option maxRecDepth 100000 in
theorem hfinish_bad {B d k : Nat} {S : Dk.D} (f z n : Nat) (a : Nat → Addr) (w0 w : World) (h : DkX B w d S k) (hi : f < S.size) (hk : k < 1000000) (hn : n ≤ Hv.top) (hE : Env B a w0 w) (hdn : Dk.done S = false) :
  Calls Tryd.prog 37 #[halfV d f z, .int .i64 (n : Int)] w fun e w' => e = outc false unitV (a 15) ∧ DkX B w' d (Dk.wrote S f (Hv.headB n 2)) (k + 1) ∧ TFr B w w' := by
 have HB0 : Hid (Below w.heap.size w (halfBox w d f z).drew) := Lib.hid (below_drewN (below_halfBox w d f z) 1)
 have HD0 := Lib.hid (h.below HB0.out)
 have HE0 := Lib.hid (hE.below HB0.out)
 have HX0 : Hid (Blk (halfBox w d f z).drew w.heap.size 56 #[.pointer (some ⟨d, 0, none⟩), .int .i64 (f : Int), .int .i64 (z : Int)]) := Lib.hid (Blk.new w _ _)
 have hn62 : n ≤ 4611686018427387903 := by have : n ≤ 1099511627776 := hn; omega
 clear h hE
 unfold halfV
 go_enter Tryd.func37, Tryd.ntmps37
 go_wp2_with fail
 refine wp_region_held (S := (fun w' => Blk w' w.heap.size 56 #[.pointer (some ⟨d, 0, none⟩), .int .i64 (f : Int), .int .i64 (z : Int)])) (by kernel_rfl) ?_
 change wpAnyH _ _ _ _ _ _ _ _ (halfBox w d f z).drew
 refine wpAnyH_take (i := 0) rfl (by kernel_rfl) (by kernel_rfl) (by kernel_rfl) (fun _ _ _ h => h) (takes_row 56 (.tmp 2) rfl (by rfl) w.heap.size rfl 56 _ _ (fun w' h => h) Tryd.underlying56 rfl (by kernel_rfl)) (HX0.out) ?_
 try simp only [Act.put, List.getElem_toArray, List.getElem_cons_zero, List.setIfInBounds_toArray, List.set_cons_zero, List.set_cons_succ]
 refine wpAnyH_take (i := 1) (v := ?_) rfl (by kernel_rfl) (by kernel_rfl) (by kernel_rfl) (fun _ _ _ h => h) (Or.inl ⟨by rfl, ?_⟩) (HX0.out) ?_
 rotate_left
 ·intro w _; go_simp; with_reducible rfl
 try simp only [Act.put, List.getElem_toArray, List.getElem_cons_zero, List.getElem_cons_succ, List.setIfInBounds_toArray, List.set_cons_zero, List.set_cons_succ]
 refine wpAnyH_take (i := 2) (v := ?_) rfl (by kernel_rfl) (by kernel_rfl) (by kernel_rfl) (fun _ _ _ h => h) (Or.inl ⟨by rfl, ?_⟩) (HX0.out) ?_
 rotate_left
 ·intro w _; go_simp; with_reducible rfl
 try simp only [Act.put, List.getElem_toArray, List.getElem_cons_zero, List.getElem_cons_succ, List.setIfInBounds_toArray, List.set_cons_zero, List.set_cons_succ]
 refine all_one (i := 3) (by kernel_rfl) rfl (by rfl) (fun K hK => ?_)
 go_simp
 refine (headBytes_any n 2 (a 6) (a 0) _ hn62 (by omega) HE0.out.t (HE0.out.s 6 (by omega)).var (HE0.out.s 0 (by omega)).var).mono ?_
 rintro e w1 ⟨g1, rfl, hk1, hg1, hb1⟩
 have HX1 := Lib.hid (HX0.out.below hb1 HX0.out.lt)
 have HD1 := Lib.hid (HD0.out.below hb1)
 have HE1 := Lib.hid (HE0.out.below hb1)
 have HT1 : Hid (TFr B w w1) := Lib.hid (TFr.below (below_then HB0.out hb1))
 have CW := xwrite_any f z 0 (some ⟨g1, 0, none⟩) 32 32 (Hv.headB n 2) (a 15) w1 HD1.out (by rw [Nat.add_zero]; exact hi) (by omega) (rdB_whole HD1.out hk1 (headB_len _ _)) (headB_byte _ _) (by omega) HE1.out.down (HE1.out.ne HD1.out)
 rw [hdn, Nat.add_zero] at CW
 clear hk1 hg1 hb1
 dsimp only
 refine hK _ _ (HX1.out) ?_; clear hK K
 try simp only [Act.put, List.getElem_toArray, List.getElem_cons_zero, List.getElem_cons_succ, List.setIfInBounds_toArray, List.set_cons_zero, List.set_cons_succ]
 refine all_one (i := 4) (by kernel_rfl) rfl (by rfl) (fun K hK => ?_)
 go_simp
 refine CW.mono ?_
 rintro e w2 ⟨rfl, hd2, ht2⟩
 exact ⟨rfl, rfl, hd2, HT1.out.trans ht2⟩
set_option maxRecDepth 100000 in
theorem hbegin_bad {B d k : Nat} {S : Dk.D} (f z n : Nat) (a : Nat → Addr) (w0 w : World) (h : DkX B w d S k) (hi : f < S.size) (hk : k < 1000000) (hn : n ≤ Hv.top) (hE : Env B a w0 w) (hdn : Dk.done S = false) :
  Calls Tryd.prog 36 #[halfV d f z, .int .i64 (n : Int)] w fun e w' => e = outc false unitV (a 15) ∧ DkX B w' d (Dk.wrote S f (Hv.headB n 1)) (k + 1) ∧ TFr B w w' := by
 have HB0 : Hid (Below w.heap.size w (halfBox w d f z).drew) := Lib.hid (below_drewN (below_halfBox w d f z) 1)
 have HD0 := Lib.hid (h.below HB0.out)
 have HE0 := Lib.hid (hE.below HB0.out)
 have HX0 : Hid (Blk (halfBox w d f z).drew w.heap.size 56 #[.pointer (some ⟨d, 0, none⟩), .int .i64 (f : Int), .int .i64 (z : Int)]) := Lib.hid (Blk.new w _ _)
 have hn62 : n ≤ 4611686018427387903 := by have : n ≤ 1099511627776 := hn; omega
 clear h hE
 unfold halfV
 go_enter Tryd.func36, Tryd.ntmps36
 go_wp2_with fail
 refine wp_region_held (S := (fun w' => Blk w' w.heap.size 56 #[.pointer (some ⟨d, 0, none⟩), .int .i64 (f : Int), .int .i64 (z : Int)])) (by kernel_rfl) ?_
 change wpAnyH _ _ _ _ _ _ _ _ (halfBox w d f z).drew
 refine wpAnyH_take (i := 0) rfl (by kernel_rfl) (by kernel_rfl) (by kernel_rfl) (fun _ _ _ h => h) (takes_row 56 (.tmp 2) rfl (by rfl) w.heap.size rfl 56 _ _ (fun w' h => h) Tryd.underlying56 rfl (by kernel_rfl)) (HX0.out) ?_
 try simp only [Act.put, List.getElem_toArray, List.getElem_cons_zero, List.setIfInBounds_toArray, List.set_cons_zero, List.set_cons_succ]
 refine wpAnyH_take (i := 1) (v := ?_) rfl (by kernel_rfl) (by kernel_rfl) (by kernel_rfl) (fun _ _ _ h => h) (Or.inl ⟨by rfl, ?_⟩) (HX0.out) ?_
 rotate_left
 ·intro w _; go_simp; with_reducible rfl
 try simp only [Act.put, List.getElem_toArray, List.getElem_cons_zero, List.getElem_cons_succ, List.setIfInBounds_toArray, List.set_cons_zero, List.set_cons_succ]
 refine wpAnyH_take (i := 2) (v := ?_) rfl (by kernel_rfl) (by kernel_rfl) (by kernel_rfl) (fun _ _ _ h => h) (Or.inl ⟨by rfl, ?_⟩) (HX0.out) ?_
 rotate_left
 ·intro w _; go_simp; with_reducible rfl
 try simp only [Act.put, List.getElem_toArray, List.getElem_cons_zero, List.getElem_cons_succ, List.setIfInBounds_toArray, List.set_cons_zero, List.set_cons_succ]
 refine all_one (i := 3) (by kernel_rfl) rfl (by rfl) (fun K hK => ?_)
 go_simp
 refine (headBytes_any n 1 (a 6) (a 0) _ hn62 (by omega) HE0.out.t (HE0.out.s 6 (by omega)).var (HE0.out.s 0 (by omega)).var).mono ?_
 rintro e w1 ⟨g1, rfl, hk1, hg1, hb1⟩
 have HX1 := Lib.hid (HX0.out.below hb1 HX0.out.lt)
 have HD1 := Lib.hid (HD0.out.below hb1)
 have HE1 := Lib.hid (HE0.out.below hb1)
 have HT1 : Hid (TFr B w w1) := Lib.hid (TFr.below (below_then HB0.out hb1))
 have CW := xwrite_any f z 0 (some ⟨g1, 0, none⟩) 32 32 (Hv.headB n 1) (a 15) w1 HD1.out (by rw [Nat.add_zero]; exact hi) (by omega) (rdB_whole HD1.out hk1 (headB_len _ _)) (headB_byte _ _) (by omega) HE1.out.down (HE1.out.ne HD1.out)
 rw [hdn, Nat.add_zero] at CW
 clear hk1 hg1 hb1
 dsimp only
 refine hK _ _ (HX1.out) ?_; clear hK K
 try simp only [Act.put, List.getElem_toArray, List.getElem_cons_zero, List.getElem_cons_succ, List.setIfInBounds_toArray, List.set_cons_zero, List.set_cons_succ]
 refine all_one (i := 4) (by kernel_rfl) rfl (by rfl) (fun K hK => ?_)
 go_simp
 refine CW.mono ?_
 rintro e w2 ⟨rfl, hd2, ht2⟩
 exact ⟨rfl, rfl, hd2, HT1.out.trans ht2⟩
set_option maxRecDepth 100000 in
theorem hfinish_any {B d k : Nat} {S : Dk.D} (f z n : Nat) (a : Nat → Addr) (w0 w : World) (h : DkX B w d S k) (hi : f < S.size) (hk : k + 2 < 1000000) (hn : n ≤ Hv.top) (hE : Env B a w0 w) :
  Calls Tryd.prog 37 #[halfV d f z, .int .i64 (n : Int)] w fun e w' => e = outc (Hv.finishM f n S).1 unitV (a 15) ∧ DkX B w' d (Hv.finishM f n S).2 (k + 2) ∧ TFr B w w' := by
 cases hdn : Dk.done S with
 | false =>
  rw [show Hv.finishM f n S = (false, Dk.wrote S f (Hv.headB n 2)) from Hv.andM_no hdn]
  exact (hfinish_bad f z n a w0 w h hi (by omega) hn hE hdn).mono fun e w' ⟨h1, h2, h3⟩ => ⟨h1, h2.mono (by omega), h3⟩
 | true =>
 rw [show Hv.finishM f n S = (Dk.done (Dk.wrote S f (Hv.headB n 2)), Dk.syncs (Dk.wrote S f (Hv.headB n 2))) from Hv.andM_yes hdn]
 obtain ⟨S2, hS2⟩ : ∃ S2, S2 = Dk.wrote S f (Hv.headB n 2) := ⟨_, rfl⟩
 rw [← hS2]
 have HS2 := Lib.hid hS2
 obtain ⟨b2, hb2⟩ : ∃ b2, b2 = Dk.done S2 := ⟨_, rfl⟩
 rw [← hb2]
 have HB2 := Lib.hid hb2
 clear hS2 hb2
 have HB0 : Hid (Below w.heap.size w (halfBox w d f z).drew) := Lib.hid (below_drewN (below_halfBox w d f z) 1)
 have HD0 := Lib.hid (h.below HB0.out)
 have HE0 := Lib.hid (hE.below HB0.out)
 have HX0 : Hid (Blk (halfBox w d f z).drew w.heap.size 56 #[.pointer (some ⟨d, 0, none⟩), .int .i64 (f : Int), .int .i64 (z : Int)]) := Lib.hid (Blk.new w _ _)
 have hn62 : n ≤ 4611686018427387903 := by have : n ≤ 1099511627776 := hn; omega
 clear h hE
 unfold halfV
 go_enter Tryd.func37, Tryd.ntmps37
 go_wp2_with fail
 refine wp_region_held (S := (fun w' => Blk w' w.heap.size 56 #[.pointer (some ⟨d, 0, none⟩), .int .i64 (f : Int), .int .i64 (z : Int)])) (by kernel_rfl) ?_
 change wpAnyH _ _ _ _ _ _ _ _ (halfBox w d f z).drew
 refine wpAnyH_take (i := 0) rfl (by kernel_rfl) (by kernel_rfl) (by kernel_rfl) (fun _ _ _ h => h) (takes_row 56 (.tmp 2) rfl (by rfl) w.heap.size rfl 56 _ _ (fun w' h => h) Tryd.underlying56 rfl (by kernel_rfl)) (HX0.out) ?_
 try simp only [Act.put, List.getElem_toArray, List.getElem_cons_zero, List.setIfInBounds_toArray, List.set_cons_zero, List.set_cons_succ]
 refine wpAnyH_take (i := 1) (v := ?_) rfl (by kernel_rfl) (by kernel_rfl) (by kernel_rfl) (fun _ _ _ h => h) (Or.inl ⟨by rfl, ?_⟩) (HX0.out) ?_
 rotate_left
 ·intro w _; go_simp; with_reducible rfl
 try simp only [Act.put, List.getElem_toArray, List.getElem_cons_zero, List.getElem_cons_succ, List.setIfInBounds_toArray, List.set_cons_zero, List.set_cons_succ]
 refine wpAnyH_take (i := 2) (v := ?_) rfl (by kernel_rfl) (by kernel_rfl) (by kernel_rfl) (fun _ _ _ h => h) (Or.inl ⟨by rfl, ?_⟩) (HX0.out) ?_
 rotate_left
 ·intro w _; go_simp; with_reducible rfl
 try simp only [Act.put, List.getElem_toArray, List.getElem_cons_zero, List.getElem_cons_succ, List.setIfInBounds_toArray, List.set_cons_zero, List.set_cons_succ]
 refine all_one (i := 3) (by kernel_rfl) rfl (by rfl) (fun K hK => ?_)
 go_simp
 refine (headBytes_any n 2 (a 6) (a 0) _ hn62 (by omega) HE0.out.t (HE0.out.s 6 (by omega)).var (HE0.out.s 0 (by omega)).var).mono ?_
 rintro e w1 ⟨g1, rfl, hk1, hg1, hb1⟩
 have HX1 := Lib.hid (HX0.out.below hb1 HX0.out.lt)
 have HD1 := Lib.hid (HD0.out.below hb1)
 have HE1 := Lib.hid (HE0.out.below hb1)
 have HT1 : Hid (TFr B w w1) := Lib.hid (TFr.below (below_then HB0.out hb1))
 have CW := xwrite_any f z 0 (some ⟨g1, 0, none⟩) 32 32 (Hv.headB n 2) (a 15) w1 HD1.out (by rw [Nat.add_zero]; exact hi) (by omega) (rdB_whole HD1.out hk1 (headB_len _ _)) (headB_byte _ _) (by omega) HE1.out.down (HE1.out.ne HD1.out)
 rw [hdn, Nat.add_zero] at CW
 clear hk1 hg1 hb1
 dsimp only
 refine hK _ _ (HX1.out) ?_; clear hK K
 try simp only [Act.put, List.getElem_toArray, List.getElem_cons_zero, List.getElem_cons_succ, List.setIfInBounds_toArray, List.set_cons_zero, List.set_cons_succ]
 refine all_one (i := 4) (by kernel_rfl) rfl (by rfl) (fun K hK => ?_)
 go_simp
 refine CW.mono ?_
 rintro e w2 ⟨rfl, hd2, ht2⟩
 have HD2 := Lib.hid hd2
 have HE2 := Lib.hid (HE1.out.tfr ht2)
 have HT2 := Lib.hid (HT1.out.trans ht2)
 have HX2 := Lib.hid (ht2.typed _ _ _ HX1.out (by decide) (by decide))
 unfold outc
 rw [if_pos rfl]
 dsimp only
 refine hK _ _ (ht2.typed _ _ _ HX1.out (by decide) (by decide)) ?_; clear hK K CW hd2 ht2
 try simp only [Act.put, List.getElem_toArray, List.getElem_cons_zero, List.getElem_cons_succ, List.setIfInBounds_toArray, List.set_cons_zero, List.set_cons_succ]
 refine wpAnyH_done (by kernel_rfl) ?_ _
 have HD2' : Hid (DkX B w2 d S2 (k + 1)) := Lib.hid (by rw [HS2.out]; exact HD2.out)
 have CS := xsync_any f z (a 15) w2 HD2'.out (by omega) HE2.out.down (HE2.out.ne HD2'.out)
 rw [← HB2.out] at CS
 cases b2 with
 | false =>
  go_wp2_with (refine wpList_load_row rfl 56 (.tmp 2) rfl w.heap.size rfl 56 _ (0,0) _ HX2.out Tryd.underlying56 rfl (by kernel_rfl) ?_)
  go_at_call 26
  refine CS.mono ?_
  rintro e w3 ⟨rfl, hd3, ht3⟩
  exact ⟨rfl, rfl, hd3, HT2.out.trans ht3⟩
 | true =>
  go_wp2_with (refine wpList_load_row rfl 56 (.tmp 2) rfl w.heap.size rfl 56 _ (0,0) _ HX2.out Tryd.underlying56 rfl (by kernel_rfl) ?_)
  go_at_call 26
  refine CS.mono ?_
  rintro e w3 ⟨rfl, hd3, ht3⟩
  unfold outc
  rw [if_pos rfl]
  have HD3 := Lib.hid hd3
  have HT3 := Lib.hid (HT2.out.trans ht3)
  clear hd3 ht3 CS
  go_wp2_with fail
  go_end0
  exact ⟨rfl, HD3.out, HT3.out⟩
set_option maxRecDepth 100000 in
theorem hbegin_any {B d k : Nat} {S : Dk.D} (f z n : Nat) (a : Nat → Addr) (w0 w : World) (h : DkX B w d S k) (hz : 1 ≤ z) (hi : f + z ≤ S.size) (hk : k + z + 2 < 1000000) (hn : n ≤ Hv.top) (hE : Env B a w0 w) :
  Calls Tryd.prog 36 #[halfV d f z, .int .i64 (n : Int)] w fun e w' => e = outc (Hv.beginM f z n S).1 unitV (a 15) ∧ DkX B w' d (Hv.beginM f z n S).2 (k + z + 2) ∧ TFr B w w' := by
 cases hdn : Dk.done S with
 | false =>
  rw [show Hv.beginM f z n S = (false, Dk.wrote S f (Hv.headB n 1)) from Hv.andM_no hdn]
  exact (hbegin_bad f z n a w0 w h (by omega) (by omega) hn hE hdn).mono fun e w' ⟨h1, h2, h3⟩ => ⟨h1, h2.mono (by omega), h3⟩
 | true =>
 have hm1 : Hv.beginM f z n S = Hv.andM Hv.syM (Hv.andM (Hv.wipM f 1 (z - 1)) Hv.syM) (Dk.wrote S f (Hv.headB n 1)) := Hv.andM_yes hdn
 have hsz2 : (Dk.wrote S f (Hv.headB n 1)).size = S.size := (wrote_nums _ _ _).1
 obtain ⟨S2, hS2⟩ : ∃ S2, S2 = Dk.wrote S f (Hv.headB n 1) := ⟨_, rfl⟩
 rw [← hS2] at hm1 hsz2
 have HS2 := Lib.hid hS2
 obtain ⟨R, hR⟩ : ∃ R, R = Hv.wipeN f 1 (z - 1) (Dk.syncs S2) := ⟨_, rfl⟩
 obtain ⟨M, hM⟩ : ∃ M, M = Hv.beginM f z n S := ⟨_, rfl⟩
 have HM : Hid (M = Hv.andM Hv.syM (Hv.andM (Hv.wipM f 1 (z - 1)) Hv.syM) S2) := Lib.hid (by rw [hM, hm1])
 have HSZ2 := Lib.hid hsz2
 have HRR := Lib.hid hR
 have HI := Lib.hid hi
 rw [← hM]
 clear hm1 hM hS2 hR hsz2
 have HB0 : Hid (Below w.heap.size w (halfBox w d f z).drew) := Lib.hid (below_drewN (below_halfBox w d f z) 1)
 have HD0 := Lib.hid (h.below HB0.out)
 have HE0 := Lib.hid (hE.below HB0.out)
 have HX0 : Hid (Blk (halfBox w d f z).drew w.heap.size 56 #[.pointer (some ⟨d, 0, none⟩), .int .i64 (f : Int), .int .i64 (z : Int)]) := Lib.hid (Blk.new w _ _)
 have hn62 : n ≤ 4611686018427387903 := by have : n ≤ 1099511627776 := hn; omega
 clear h hE
 unfold halfV
 go_enter Tryd.func36, Tryd.ntmps36
 go_wp2_with fail
 refine wp_region_held (S := (fun w' => Blk w' w.heap.size 56 #[.pointer (some ⟨d, 0, none⟩), .int .i64 (f : Int), .int .i64 (z : Int)])) (by kernel_rfl) ?_
 change wpAnyH _ _ _ _ _ _ _ _ (halfBox w d f z).drew
 refine wpAnyH_take (i := 0) rfl (by kernel_rfl) (by kernel_rfl) (by kernel_rfl) (fun _ _ _ h => h) (takes_row 56 (.tmp 2) rfl (by rfl) w.heap.size rfl 56 _ _ (fun w' h => h) Tryd.underlying56 rfl (by kernel_rfl)) (HX0.out) ?_
 try simp only [Act.put, List.getElem_toArray, List.getElem_cons_zero, List.setIfInBounds_toArray, List.set_cons_zero, List.set_cons_succ]
 refine wpAnyH_take (i := 1) (v := ?_) rfl (by kernel_rfl) (by kernel_rfl) (by kernel_rfl) (fun _ _ _ h => h) (Or.inl ⟨by rfl, ?_⟩) (HX0.out) ?_
 rotate_left
 ·intro w _; go_simp; with_reducible rfl
 try simp only [Act.put, List.getElem_toArray, List.getElem_cons_zero, List.getElem_cons_succ, List.setIfInBounds_toArray, List.set_cons_zero, List.set_cons_succ]
 refine wpAnyH_take (i := 2) (v := ?_) rfl (by kernel_rfl) (by kernel_rfl) (by kernel_rfl) (fun _ _ _ h => h) (Or.inl ⟨by rfl, ?_⟩) (HX0.out) ?_
 rotate_left
 ·intro w _; go_simp; with_reducible rfl
 try simp only [Act.put, List.getElem_toArray, List.getElem_cons_zero, List.getElem_cons_succ, List.setIfInBounds_toArray, List.set_cons_zero, List.set_cons_succ]
 refine all_one (i := 3) (by kernel_rfl) rfl (by rfl) (fun K hK => ?_)
 go_simp
 refine (headBytes_any n 1 (a 6) (a 0) _ hn62 (by omega) HE0.out.t (HE0.out.s 6 (by omega)).var (HE0.out.s 0 (by omega)).var).mono ?_
 rintro e w1 ⟨g1, rfl, hk1, hg1, hb1⟩
 have HX1 := Lib.hid (HX0.out.below hb1 HX0.out.lt)
 have HD1 := Lib.hid (HD0.out.below hb1)
 have HE1 := Lib.hid (HE0.out.below hb1)
 have HT1 : Hid (TFr B w w1) := Lib.hid (TFr.below (below_then HB0.out hb1))
 have CW := xwrite_any f z 0 (some ⟨g1, 0, none⟩) 32 32 (Hv.headB n 1) (a 15) w1 HD1.out (by rw [Nat.add_zero]; have := HI.out; omega) (by omega) (rdB_whole HD1.out hk1 (headB_len _ _)) (headB_byte _ _) (by omega) HE1.out.down (HE1.out.ne HD1.out)
 rw [hdn, Nat.add_zero] at CW
 clear hk1 hg1 hb1
 dsimp only
 refine hK _ _ (HX1.out) ?_; clear hK K
 try simp only [Act.put, List.getElem_toArray, List.getElem_cons_zero, List.getElem_cons_succ, List.setIfInBounds_toArray, List.set_cons_zero, List.set_cons_succ]
 refine all_one (i := 4) (by kernel_rfl) rfl (by rfl) (fun K hK => ?_)
 go_simp
 refine CW.mono ?_
 rintro e w2 ⟨rfl, hd2, ht2⟩
 have HD2 := Lib.hid hd2
 have HE2 := Lib.hid (HE1.out.tfr ht2)
 have HT2 := Lib.hid (HT1.out.trans ht2)
 have HX2 := Lib.hid (ht2.typed _ _ _ HX1.out (by decide) (by decide))
 unfold outc
 rw [if_pos rfl]
 dsimp only
 refine hK _ _ (ht2.typed _ _ _ HX1.out (by decide) (by decide)) ?_; clear hK K CW hd2 ht2
 try simp only [Act.put, List.getElem_toArray, List.getElem_cons_zero, List.getElem_cons_succ, List.setIfInBounds_toArray, List.set_cons_zero, List.set_cons_succ]
 refine wpAnyH_done (by kernel_rfl) ?_ _
 have HD2' : Hid (DkX B w2 d S2 (k + 1)) := Lib.hid (by rw [HS2.out]; exact HD2.out)
 have CS := xsync_any f z (a 15) w2 HD2'.out (by omega) HE2.out.down (HE2.out.ne HD2'.out)
 cases hb2 : Dk.done S2 with
 | false =>
  rw [hb2] at CS
  have HM2 : Hid (M = (false, Dk.syncs S2)) := Lib.hid (by rw [HM.out]; exact Hv.andM_no hb2)
  go_wp2_with (refine wpList_load_row rfl 56 (.tmp 2) rfl w.heap.size rfl 56 _ (0,0) _ HX2.out Tryd.underlying56 rfl (by kernel_rfl) ?_)
  go_at_call 26
  refine CS.mono ?_
  rintro e w3 ⟨rfl, hd3, ht3⟩
  refine ⟨rfl, ?_⟩
  rw [HM2.out]
  exact ⟨rfl, hd3.mono (by omega), HT2.out.trans ht3⟩
 | true =>
  rw [hb2] at CS
  have HM2 : Hid (M = Hv.andM (Hv.wipM f 1 (z - 1)) Hv.syM (Dk.syncs S2)) := Lib.hid (by rw [HM.out]; exact Hv.andM_yes hb2)
  have HO3 : Hid ((Dk.syncs S2).off = false ∧ (Dk.syncs S2).size = S.size) := Lib.hid ⟨by rw [(syncs_nums S2).2.2, hb2]; rfl, by rw [(syncs_nums S2).1, HSZ2.out]⟩
  go_wp2_with (refine wpList_load_row rfl 56 (.tmp 2) rfl w.heap.size rfl 56 _ (0,0) _ HX2.out Tryd.underlying56 rfl (by kernel_rfl) ?_)
  go_at_call 26
  refine CS.mono ?_
  rintro e w3 ⟨rfl, hd3, ht3⟩
  unfold outc
  rw [if_pos rfl]
  have HD3 := Lib.hid hd3
  have HT3 := Lib.hid (HT2.out.trans ht3)
  have HE3 := Lib.hid (HE2.out.tfr ht3)
  have HX3 := Lib.hid (ht3.typed _ _ _ HX2.out (by decide) (by decide))
  have CP := hwipe_any f z 1 (z - 1) a w0 w3 HD3.out HO3.out.1 (by omega) (by rw [HO3.out.2]; exact HI.out) (by omega) HE3.out.sents HE3.out.low HE3.out.bel
  rw [← HRR.out] at CP
  clear hd3 ht3 CS hb2
  cases hr1 : R.1 with
  | false =>
   have HM3 : Hid (M = (false, R.2.2)) := Lib.hid (by rw [HM2.out, HRR.out]; exact Hv.andM_no (by show (Hv.wipeN f 1 (z - 1) (Dk.syncs S2)).1 = false; rw [← HRR.out]; exact hr1))
   rw [hr1] at CP
   go_wp2_with (refine wpList_load_row rfl 56 (.tmp 2) rfl w.heap.size rfl 56 _ (0,0) _ HX3.out Tryd.underlying56 rfl (by kernel_rfl) ?_)
   go_at_call 39
   refine CP.mono ?_
   rintro e w4 ⟨rfl, hd4, ht4⟩
   refine ⟨rfl, ?_⟩
   rw [HM3.out]
   exact ⟨rfl, hd4.mono (by omega), HT3.out.trans ht4⟩
  | true =>
   have HM3 : Hid (M = (Dk.done R.2.2, Dk.syncs R.2.2)) := Lib.hid (by rw [HM2.out, HRR.out]; exact Hv.andM_yes (by show (Hv.wipeN f 1 (z - 1) (Dk.syncs S2)).1 = true; rw [← HRR.out]; exact hr1))
   rw [hr1] at CP
   go_wp2_with (refine wpList_load_row rfl 56 (.tmp 2) rfl w.heap.size rfl 56 _ (0,0) _ HX3.out Tryd.underlying56 rfl (by kernel_rfl) ?_)
   go_at_call 39
   refine CP.mono ?_
   rintro e w4 ⟨rfl, hd4, ht4⟩
   unfold outc
   rw [if_pos rfl]
   have HD4 := Lib.hid hd4
   have HT4 := Lib.hid (HT3.out.trans ht4)
   have HE4 := Lib.hid (HE3.out.tfr ht4)
   have HX4 := Lib.hid (ht4.typed _ _ _ HX3.out (by decide) (by decide))
   have CS := xsync_any f z (a 15) w4 HD4.out (by omega) HE4.out.down (HE4.out.ne HD4.out)
   clear hd4 ht4 CP hr1
   cases hb4 : Dk.done R.2.2 with
   | false =>
    rw [hb4] at CS
    go_wp2_with (refine wpList_load_row rfl 56 (.tmp 2) rfl w.heap.size rfl 56 _ (0,0) _ HX4.out Tryd.underlying56 rfl (by kernel_rfl) ?_)
    go_at_call 26
    refine CS.mono ?_
    rintro e w5 ⟨rfl, hd5, ht5⟩
    refine ⟨rfl, ?_⟩
    rw [HM3.out, hb4]
    exact ⟨rfl, hd5.mono (by omega), HT4.out.trans ht5⟩
   | true =>
    rw [hb4] at CS
    go_wp2_with (refine wpList_load_row rfl 56 (.tmp 2) rfl w.heap.size rfl 56 _ (0,0) _ HX4.out Tryd.underlying56 rfl (by kernel_rfl) ?_)
    go_at_call 26
    refine CS.mono ?_
    rintro e w5 ⟨rfl, hd5, ht5⟩
    unfold outc
    rw [if_pos rfl]
    have HD5 := Lib.hid hd5
    have HT5 := Lib.hid (HT4.out.trans ht5)
    have HM4 : Hid (M = (true, Dk.syncs R.2.2)) := Lib.hid (by rw [HM3.out, hb4])
    clear hd5 ht5 CS hb4
    go_wp2_with fail
    go_end0
    rw [HM4.out]
    exact ⟨rfl, HD5.out.mono (by omega), HT5.out⟩
end Go.Proofs.YtdokojlgcplefaaDoor
