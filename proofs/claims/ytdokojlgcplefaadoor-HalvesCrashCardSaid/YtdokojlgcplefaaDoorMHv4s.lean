/- Layer 5: a head's bytes, a record's bytes. -/
import Derived.Test.YtdokojlgcplefaaDoorMHv2
import Derived.Test.YtdokojlgcplefaaDoorMOct19s
import Derived.Test.YtdokojlgcplefaaDoorMDisk10s
namespace Go.Proofs.YtdokojlgcplefaaDoor
open Go Go.RowKit
def twoF (n m : Nat) : List Fld := [⟨(n : Int), none, 0, 0, []⟩, ⟨(m : Int), none, 0, 0, []⟩]
def twoC (n m : Nat) : List Value := [.int .i64 (n : Int), .slice none 0 0, .int .i64 (m : Int), .slice none 0 0]
theorem two_row {w : World} {b n m : Nat} {t : TypeId} (h : Blk w b t (twoC n m).toArray) : FRow w b 0 (twoF n m) := by
 refine ⟨fun i hi => ?_, fun i hi => ?_, fun f hf => ?_, h.lt⟩
 ·have hi2 : i < 2 := hi
  rcases i with _ | _ | i
  ·exact h.cell 0
  ·exact h.cell 2
  ·omega
 ·have hi2 : i < 2 := hi
  rcases i with _ | _ | i
  ·exact h.cell 1
  ·exact h.cell 3
  ·omega
 ·have e : f.bs = [] ∧ f.l = 0 ∧ f.A = none ∧ f.c = 0 := by
   rcases List.mem_cons.1 hf with rfl | hf
   ·exact ⟨rfl, rfl, rfl, rfl⟩
   ·rw [List.mem_singleton.1 hf]; exact ⟨rfl, rfl, rfl, rfl⟩
  obtain ⟨e1, e2, e3, e4⟩ := e
  rw [e1, e2, e3, e4]
  exact ⟨⟨none, 0, rfl, Nat.le_refl _, fun h => absurd h (by simp)⟩, rfl⟩
theorem fits_num {c n : Nat} {z : Int} (h1 : c ≠ 111) (h2 : c ≠ 116) (hz : Oc.most c = z) (hn : (n : Int) ≤ z) : Oc.fits c (n : Int) 0 = true := by
 unfold Oc.fits
 rw [if_neg h1, if_neg h2, hz]
 simp only [Bool.and_eq_true, decide_eq_true_eq]
 omega
theorem write_two (s : ByteArray) (c1 c2 : UInt8) (hs : s.data.toList = [c1, c2]) (n m k1 k2 : Nat) (b : Nat) (aK aR : Addr) (w : World) {t : TypeId} (hb : Blk w b t (twoC n m).toArray)
  (h1 : c1.toNat ≠ 111 ∧ c1.toNat ≠ 116 ∧ 0 ≤ Oc.size c1.toNat ∧ Oc.nsize c1.toNat = k1 ∧ (n : Int) ≤ Oc.most c1.toNat) (h2 : c2.toNat ≠ 111 ∧ c2.toNat ≠ 116 ∧ 0 ≤ Oc.size c2.toNat ∧ Oc.nsize c2.toNat = k2 ∧ (m : Int) ≤ Oc.most c2.toNat)
  (hK : w.cell? ⟨4, 0, none⟩ = some (ev aK)) (hR : w.cell? ⟨0, 0, none⟩ = some (ev aR)) :
  Calls Tryd.prog 52 #[.string s, .slice (some ⟨b, 0, none⟩) 2 2] w fun e w' => ∃ v, e = .returned (.tuple #[v, .nilIface]) ∧ Rd w' v (Oc.nums k1 n ++ Oc.nums k2 m) ∧ Below w.heap.size w w' := by
 have hsz : s.size = 2 := by have : s.data.toList.length = s.size := rfl; rw [hs] at this; exact this.symm
 refine (write_any s (some ⟨b, 0, none⟩) b 0 2 (twoF n m) aK aR w (by omega) (fun _ => rfl) (two_row hb) (by show (2 : Nat) ≤ 1000; omega) (fun f hf => ?_) hK hR).mono ?_
 ·rcases List.mem_cons.1 hf with rfl | hf
  ·exact Nat.zero_le _
  ·rw [List.mem_singleton.1 hf]; exact Nat.zero_le _
 ·rintro e w' ⟨hbl, _, _, h4⟩
  obtain ⟨v, he, hp⟩ := h4 (by rw [hs]; unfold Oc.known Oc.isL; simp [h1.2.2.1, h2.2.2.1]) (by rw [hsz]; rfl) (fun i a1 a2 a3 => by
   have hi2 : i < 2 := a2
   rcases i with _ | _ | i
   ·have e : s.data.toList[0] = c1 := by simp [hs]
    rw [e]
    exact fits_num h1.1 h1.2.1 rfl h1.2.2.2.2
   ·have e : s.data.toList[1] = c2 := by simp [hs]
    rw [e]
    exact fits_num h2.1 h2.2.1 rfl h2.2.2.2.2
   ·omega)
  refine ⟨v, he, ?_, hbl⟩
  have hr := rd_of_own hp.own rfl
  rw [hs] at hr
  simp only [Oc.encs, twoF, List.append_nil] at hr
  rw [enc_num h1.1 h1.2.1 h1.2.2.2.1 rfl, enc_num h2.1 h2.2.1 h2.2.2.2.1 rfl] at hr
  exact hr
namespace Hv
def wHead : List Nat := [104, 101, 97, 100]
def wRecord : List Nat := [114, 101, 99, 111, 114, 100]
def said1 (n s : Nat) : List Nat := Oc.nums 8 n ++ Oc.nums 1 s
def said2 (n p : Nat) : List Nat := Oc.nums 8 n ++ Oc.nums 8 p
def headB (n s : Nat) : List Nat := padTo 1 ([said1 n s, sum8 wHead [said1 n s].flatten].flatten)
def recB (n p : Nat) (b : List Nat) : List Nat := padTo (need (b.length : Int)) ([[b.length / 256, b.length % 256], sum8 wRecord [said2 n p, b].flatten, b].flatten)
end Hv
theorem nums_len' (s n : Nat) : (Oc.nums s n).length = s := by simp [Oc.nums]
theorem said1_len (n s : Nat) : (Hv.said1 n s).length = 9 := by rw [Hv.said1, List.length_append, nums_len', nums_len']
theorem said2_len (n p : Nat) : (Hv.said2 n p).length = 16 := by rw [Hv.said2, List.length_append, nums_len', nums_len']
theorem byte_of {l : List Nat} (h : Oc.bytes l) : Sha.Byte l := fun i => by
 rcases Nat.lt_or_ge i l.length with hi | hi
 ·rw [List.getD, List.getElem?_eq_getElem hi]; exact h _ (List.getElem_mem _)
 ·rw [List.getD, List.getElem?_eq_none hi]; decide
theorem said1_byte (n s : Nat) : Sha.Byte (Hv.said1 n s) := (byte_of (Oc.nums_bytes 8 n)).app (byte_of (Oc.nums_bytes 1 s))
theorem said2_byte (n p : Nat) : Sha.Byte (Hv.said2 n p) := (byte_of (Oc.nums_bytes 8 n)).app (byte_of (Oc.nums_bytes 8 p))
theorem sum8_byte (a b : List Nat) : Sha.Byte (Hv.sum8 a b) := byte_of (fun x hx => Oc.bytes_of (sum_byte _) x (List.mem_of_mem_take hx))
theorem headB_len (n s : Nat) : (Hv.headB n s).length = 32 := by
 unfold Hv.headB
 rw [Hv.padTo_len]
 simp [said1_len, Hv.sum8_len]
theorem headB_byte (n s : Nat) : Sha.Byte (Hv.headB n s) := padTo_byte (byte_flat (fun l hl => by
 rcases List.mem_cons.1 hl with rfl | hl
 ·exact said1_byte n s
 ·rw [List.mem_singleton.1 hl]; exact sum8_byte _ _))
theorem two_parts {w : World} {u1 u2 : Value} {x1 x2 : List Nat} (h1 : Rd w u1 x1) (h2 : Rd w u2 x2) : ∀ i u, [u1, u2][i]? = some u → Rd (w.alloc (.cells [u1, u2].toArray 39)) u ([x1, x2].getD i []) := fun i u hu => by
 rcases i with _ | _ | i
 ·obtain rfl := Option.some.inj hu; exact rd_alloc h1 _
 ·obtain rfl := Option.some.inj hu; exact rd_alloc h2 _
 ·simp at hu
theorem three_parts {w : World} {u1 u2 u3 : Value} {x1 x2 x3 : List Nat} (h1 : Rd w u1 x1) (h2 : Rd w u2 x2) (h3 : Rd w u3 x3) : ∀ i u, [u1, u2, u3][i]? = some u → Rd (w.alloc (.cells [u1, u2, u3].toArray 39)) u ([x1, x2, x3].getD i []) := fun i u hu => by
 rcases i with _ | _ | _ | i
 ·obtain rfl := Option.some.inj hu; exact rd_alloc h1 _
 ·obtain rfl := Option.some.inj hu; exact rd_alloc h2 _
 ·obtain rfl := Option.some.inj hu; exact rd_alloc h3 _
 ·simp at hu
theorem one_parts {w : World} {u1 : Value} {x1 : List Nat} (h1 : Rd w u1 x1) : ∀ i u, [u1][i]? = some u → Rd (w.alloc (.cells [u1].toArray 39)) u ([x1].getD i []) := fun i u hu => by
 rcases i with _ | i
 ·obtain rfl := Option.some.inj hu; exact rd_alloc h1 _
 ·simp at hu
theorem below_al (w : World) (o : Obj) : Below w.heap.size w (w.alloc o) := (Below.refl _ _).alloc (Nat.le_refl _) _
set_option maxRecDepth 100000 in
theorem headBytes_any (n s : Nat) (aK aR : Addr) (w : World) (hn : n ≤ 4611686018427387903) (hs : s ≤ 255) (ht : Tabs w) (hK : w.cell? ⟨4, 0, none⟩ = some (ev aK)) (hR : w.cell? ⟨0, 0, none⟩ = some (ev aR)) :
  Calls Tryd.prog 50 #[.agg #[.int .i64 (n : Int), .int .i64 (s : Int)]] w fun e w' => ∃ g, e = .returned (.slice (some ⟨g, 0, none⟩) 32 32) ∧ Blk w' g 5 (u8s (Hv.headB n s)) ∧ w.heap.size ≤ g ∧ Below w.heap.size w w' := by
 have HB0 : Hid (Below w.heap.size w (w.alloc (.cells #[.int .i64 (n : Int), .int .i64 (s : Int)] 74)).drew) := Lib.hid (below_drewN (below_al w _) 1)
 have HX : Hid (Blk (w.alloc (.cells #[.int .i64 (n : Int), .int .i64 (s : Int)] 74)).drew w.heap.size 74 #[.int .i64 (n : Int), .int .i64 (s : Int)]) := Lib.hid (Blk.new w _ _)
 have HT := Lib.hid ht
 have HK := Lib.hid hK
 have HR := Lib.hid hR
 clear ht hK hR
 go_enter Tryd.func50, Tryd.ntmps50
 go_wp2_with fail
 refine wp_region_held (S := (fun w' => Blk w' w.heap.size 74 #[.int .i64 (n : Int), .int .i64 (s : Int)])) (by kernel_rfl) ?_
 change wpAnyH _ _ _ _ _ _ _ _ (w.alloc (.cells #[.int .i64 (n : Int), .int .i64 (s : Int)] 74)).drew
 refine wpAnyH_take (i := 0) (v := ?_) rfl (by kernel_rfl) (by kernel_rfl) (by kernel_rfl) (fun _ _ _ h => h) (Or.inl ⟨by rfl, ?_⟩) (HX.out) ?_
 rotate_left
 ·intro w _; go_simp; with_reducible rfl
 try simp only [Act.put, List.getElem_toArray, List.getElem_cons_zero, List.setIfInBounds_toArray, List.set_cons_zero, List.set_cons_succ]
 refine wpAnyH_take (i := 1) (v := .int .i64 (n : Int)) rfl (by kernel_rfl) (by kernel_rfl) (by kernel_rfl) (fun _ _ _ h => h) (Or.inl ⟨by rfl, ?_⟩) (HX.out) ?_
 ·intro w' hw; have hc := Blk.cell hw 0; simp only [List.getElem?_toArray, List.getElem?_cons_zero] at hc; go_simp
 try simp only [Act.put, List.getElem_toArray, List.getElem_cons_zero, List.getElem_cons_succ, List.setIfInBounds_toArray, List.set_cons_zero, List.set_cons_succ]
 refine wpAnyH_take (i := 3) (v := ?_) rfl (by kernel_rfl) (by kernel_rfl) (by kernel_rfl) (fun _ _ _ h => h) (Or.inl ⟨by rfl, ?_⟩) (HX.out) ?_
 rotate_left
 ·intro w _; go_simp; with_reducible rfl
 try simp only [Act.put, List.getElem_toArray, List.getElem_cons_zero, List.getElem_cons_succ, List.setIfInBounds_toArray, List.set_cons_zero, List.set_cons_succ]
 refine wpAnyH_take (i := 4) (v := .int .i64 (s : Int)) rfl (by kernel_rfl) (by kernel_rfl) (by kernel_rfl) (fun _ _ _ h => h) (Or.inl ⟨by rfl, ?_⟩) (HX.out) ?_
 ·intro w' hw; have hc := Blk.cell hw 1; simp only [List.getElem?_toArray, List.getElem?_cons_zero, List.getElem?_cons_succ] at hc; go_simp
 try simp only [Act.put, List.getElem_toArray, List.getElem_cons_zero, List.getElem_cons_succ, List.setIfInBounds_toArray, List.set_cons_zero, List.set_cons_succ]
 refine all_one (i := 2) (by kernel_rfl) rfl (by rfl) (fun K hK => ?_)
 go_simp
 refine (onum_any (n : Int) _).mono ?_
 rintro e w1 ⟨rfl, hb1⟩
 have HX1 := Lib.hid (HX.out.below hb1 HX.out.lt)
 have HB1 := Lib.hid (below_then HB0.out hb1)
 clear hb1
 dsimp only
 refine hK _ _ (HX1.out) ?_; clear hK K
 try simp only [Act.put, List.getElem_toArray, List.getElem_cons_zero, List.getElem_cons_succ, List.setIfInBounds_toArray, List.set_cons_zero, List.set_cons_succ]
 refine all_one (i := 5) (by kernel_rfl) rfl (by rfl) (fun K hK => ?_)
 go_simp
 refine (onum_any (s : Int) _).mono ?_
 rintro e w2 ⟨rfl, hb2⟩
 have HX2 := Lib.hid (HX1.out.below hb2 HX1.out.lt)
 have HB2 := Lib.hid (below_then HB1.out hb2)
 clear hb2
 dsimp only
 refine hK _ _ (HX2.out) ?_; clear hK K
 try simp only [Act.put, List.getElem_toArray, List.getElem_cons_zero, List.getElem_cons_succ, List.setIfInBounds_toArray, List.set_cons_zero, List.set_cons_succ]
 refine all_one (i := 6) (by kernel_rfl) rfl (by rfl) (fun K hK => ?_)
 go_simp
 have HX3 : Hid (Blk (w2.alloc (.cells (twoC n s).toArray 91)) w.heap.size 74 #[.int .i64 (n : Int), .int .i64 (s : Int)]) := Lib.hid (HX2.out.alloc _)
 have HB3 : Hid (Below w.heap.size w (w2.alloc (.cells (twoC n s).toArray 91))) := Lib.hid (below_then HB2.out (below_al w2 _))
 have CW := write_two ⟨#[113, 98]⟩ 113 98 rfl n s 8 1 w2.heap.size aK aR (w2.alloc (.cells (twoC n s).toArray 91)) (Blk.new w2 91 (twoC n s).toArray) ⟨by decide, by decide, by decide, rfl, by show (n : Int) ≤ 4611686018427387903; omega⟩ ⟨by decide, by decide, by decide, rfl, by show (s : Int) ≤ 255; omega⟩ ((HB3.out.cell (block_lt_of_cell HK.out)).trans HK.out) ((HB3.out.cell (block_lt_of_cell HR.out)).trans HR.out)
 refine hK _ _ HX3.out ?_; clear hK K
 try simp only [Act.put, List.getElem_toArray, List.getElem_cons_zero, List.getElem_cons_succ, List.setIfInBounds_toArray, List.set_cons_zero, List.set_cons_succ]
 refine all_one (i := 7) (by kernel_rfl) rfl (by rfl) (fun K hK => ?_)
 go_simp
 refine (CW).mono ?_
 rintro e w4 ⟨v4, rfl, hr4, hb4⟩
 have HX4 := Lib.hid (HX3.out.below hb4 HX3.out.lt)
 have HB4 := Lib.hid (below_then HB3.out hb4)
 have HR4 : Hid (Rd w4 v4 (Hv.said1 n s)) := Lib.hid hr4
 clear hb4 hr4 CW
 dsimp only
 refine hK _ _ (HX4.out) ?_; clear hK K
 try simp only [Act.put, List.getElem_toArray, List.getElem_cons_zero, List.getElem_cons_succ, List.setIfInBounds_toArray, List.set_cons_zero, List.set_cons_succ]
 refine wpAnyH_take (i := 8) (v := ?_) rfl (by kernel_rfl) (by kernel_rfl) (by kernel_rfl) (fun _ _ _ h => h) (Or.inl ⟨by rfl, ?_⟩) (HX4.out) ?_
 rotate_left
 ·intro w _; go_simp; with_reducible rfl
 try simp only [Act.put, List.getElem_toArray, List.getElem_cons_zero, List.getElem_cons_succ, List.setIfInBounds_toArray, List.set_cons_zero, List.set_cons_succ]
 refine wpAnyH_take (i := 9) (v := ?_) rfl (by kernel_rfl) (by kernel_rfl) (by kernel_rfl) (fun _ _ _ h => h) (Or.inl ⟨by rfl, ?_⟩) (HX4.out) ?_
 rotate_left
 ·intro w _; go_simp; with_reducible rfl
 try simp only [Act.put, List.getElem_toArray, List.getElem_cons_zero, List.getElem_cons_succ, List.setIfInBounds_toArray, List.set_cons_zero, List.set_cons_succ]
 refine wpAnyH_take (i := 10) (v := ?_) rfl (by kernel_rfl) (by kernel_rfl) (by kernel_rfl) (fun _ _ _ h => h) (Or.inl ⟨by rfl, ?_⟩) (HX4.out) ?_
 rotate_left
 ·intro w _; go_simp; with_reducible rfl
 try simp only [Act.put, List.getElem_toArray, List.getElem_cons_zero, List.getElem_cons_succ, List.setIfInBounds_toArray, List.set_cons_zero, List.set_cons_succ]
 refine wpAnyH_take (i := 11) (v := ?_) rfl (by kernel_rfl) (by kernel_rfl) (by kernel_rfl) (fun _ _ _ h => h) (Or.inl ⟨by rfl, ?_⟩) (HX4.out) ?_
 rotate_left
 ·intro w _; go_simp; with_reducible rfl
 try simp only [Act.put, List.getElem_toArray, List.getElem_cons_zero, List.getElem_cons_succ, List.setIfInBounds_toArray, List.set_cons_zero, List.set_cons_succ]
 refine wpAnyH_take (i := 12) (v := ?_) rfl (by kernel_rfl) (by kernel_rfl) (by kernel_rfl) (fun _ _ _ h => h) (Or.inl ⟨by rfl, ?_⟩) (HX4.out) ?_
 rotate_left
 ·intro w _; go_simp; with_reducible rfl
 try simp only [Act.put, List.getElem_toArray, List.getElem_cons_zero, List.getElem_cons_succ, List.setIfInBounds_toArray, List.set_cons_zero, List.set_cons_succ]
 refine wpAnyH_done (by kernel_rfl) ?_ _
 have CS := hsum_any ⟨#[104, 101, 97, 100]⟩ Hv.wHead (by rfl) w4.heap.size 0 1 1 [v4] [Hv.said1 n s] (w4.alloc (.cells [v4].toArray 39)) (parts_cell w4 _ _) rfl rfl (by omega) (fun _ => by show 0 < (Hv.said1 n s).length; rw [said1_len]; omega) (by omega) (one_parts HR4.out) (fun l hl => by rw [List.mem_singleton.1 hl]; exact said1_byte n s) (by omega) (by simp [said1_len]) (Blk.new w4 _ _).lt (HT.out.below (below_then HB4.out (below_al w4 _)) (Nat.le_refl _)) (by decide) (byte_of (show ∀ x ∈ Hv.wHead, x < 256 by decide))
 obtain ⟨A4, c4, rfl⟩ : ∃ A4 c4, v4 = .slice A4 9 c4 := (by obtain ⟨A, c, e, _⟩ := HR4.out; rw [said1_len] at e; exact ⟨A, c, e⟩)
 go_wp2_with fail
 go_at_call 55
 refine CS.mono ?_
 rintro e w5 ⟨g5, rfl, hr5, hb5⟩
 have HR5 := Lib.hid hr5
 have HB5 := Lib.hid (below_then (below_then HB4.out (below_al w4 _)) hb5)
 have HR45 : Hid (Rd w5 (.slice A4 9 c4) (Hv.said1 n s)) := Lib.hid ((HR4.out.below (below_al w4 _) (Nat.le_refl _)).below hb5 (Nat.le_refl _))
 have CF := filled_any 1 w5.heap.size 0 2 2 [.slice A4 9 c4, .slice (some ⟨g5, 0, none⟩) 8 32] [Hv.said1 n s, Hv.sum8 Hv.wHead [Hv.said1 n s].flatten] (w5.alloc (.cells [Value.slice A4 9 c4, .slice (some ⟨g5, 0, none⟩) 8 32].toArray 39)) (parts_cell w5 _ _) rfl rfl (by omega) (by omega) (two_parts HR45.out HR5.out) (fun l hl => by
  rcases List.mem_cons.1 hl with rfl | hl
  ·exact said1_byte n s
  ·rw [List.mem_singleton.1 hl]; exact sum8_byte _ _) (by omega) (by simp [said1_len, Hv.sum8_len]) (by omega) (Blk.new w5 _ _).lt
 clear hr5 hb5 CS
 go_wp2_with fail
 go_at_call 54
 refine CF.mono ?_
 rintro e w6 ⟨g6, rfl, hk6, hg6, hb6⟩
 have HK6 := Lib.hid hk6
 have HG6 : Hid (w.heap.size ≤ g6) := Lib.hid (by have := HB5.out.size; simp at hg6; omega)
 have HB6 := Lib.hid (below_then (below_then HB5.out (below_al w5 _)) hb6)
 clear hk6 hg6 hb6 CF
 go_wp2_with fail
 go_ret
 exact ⟨g6, rfl, HK6.out, HG6.out, HB6.out⟩
set_option maxRecDepth 100000 in
theorem recordBytes_any (n p : Nat) (A : Option Addr) (l c : Nat) (bs : List Nat) (aK aR : Addr) (w : World) (hn : n ≤ 4611686018427387903) (hp : p ≤ 4611686018427387903) (hbl : bs.length = l) (h1 : 1 ≤ l) (h2 : l ≤ 3000) (hr : Rd w (.slice A l c) bs) (hb : Sha.Byte bs) (ht : Tabs w) (hK : w.cell? ⟨4, 0, none⟩ = some (ev aK)) (hR : w.cell? ⟨0, 0, none⟩ = some (ev aR)) :
  Calls Tryd.prog 40 #[.int .i64 (n : Int), .int .i64 (p : Int), .slice A l c] w fun e w' => ∃ g, e = .returned (.slice (some ⟨g, 0, none⟩) (32 * Hv.need (l : Int)) (32 * Hv.need (l : Int))) ∧ Blk w' g 5 (u8s (Hv.recB n p bs)) ∧ w.heap.size ≤ g ∧ Below w.heap.size w w' := by
 obtain ⟨nd, hnd⟩ : ∃ nd, nd = Hv.need (l : Int) := ⟨_, rfl⟩
 rw [← hnd]
 have HND := Lib.hid hnd
 clear hnd
 have HT := Lib.hid ht
 have HK := Lib.hid hK
 have HR := Lib.hid hR
 have HRB := Lib.hid hr
 have HBL := Lib.hid hbl
 have HBY := Lib.hid hb
 clear ht hK hR hr hbl hb
 go_enter Tryd.func40, Tryd.ntmps40
 go_wp2_with fail
 go_at_call 53
 refine (onum_any (n : Int) _).mono ?_
 rintro e w1 ⟨rfl, hb1⟩
 have HB1 := Lib.hid hb1
 clear hb1
 go_wp2_with fail
 go_at_call 53
 refine (onum_any (p : Int) _).mono ?_
 rintro e w2 ⟨rfl, hb2⟩
 have HB3 : Hid (Below w.heap.size w (w2.alloc (.cells (twoC n p).toArray 91))) := Lib.hid (below_then (below_then HB1.out hb2) (below_al w2 _))
 have CW := write_two ⟨#[113, 113]⟩ 113 113 rfl n p 8 8 w2.heap.size aK aR (w2.alloc (.cells (twoC n p).toArray 91)) (Blk.new w2 91 (twoC n p).toArray) ⟨by decide, by decide, by decide, rfl, by show (n : Int) ≤ 4611686018427387903; omega⟩ ⟨by decide, by decide, by decide, rfl, by show (p : Int) ≤ 4611686018427387903; omega⟩ ((HB3.out.cell (block_lt_of_cell HK.out)).trans HK.out) ((HB3.out.cell (block_lt_of_cell HR.out)).trans HR.out)
 clear hb2
 go_wp2_with fail
 go_at_call 52
 refine CW.mono ?_
 rintro e w4 ⟨v4, rfl, hr4, hb4⟩
 have HB4 := Lib.hid (below_then HB3.out hb4)
 have HR4 : Hid (Rd w4 v4 (Hv.said2 n p)) := Lib.hid hr4
 obtain ⟨A4, c4, rfl⟩ : ∃ A4 c4, v4 = .slice A4 16 c4 := (by obtain ⟨A, c, e, _⟩ := HR4.out; rw [said2_len] at e; exact ⟨A, c, e⟩)
 clear hr4 hb4 CW
 have HBL4 : Hid (Below w4.heap.size w4 (w4.alloc (.cells #[.int .u8 ((l : Int) / 256), .int .u8 ((l : Int) % 256)] 5))) := Lib.hid (below_al w4 _)
 have HRL : Hid (Rd (w4.alloc (.cells #[.int .u8 ((l : Int) / 256), .int .u8 ((l : Int) % 256)] 5)) (.slice (some ⟨w4.heap.size, 0, none⟩) 2 2) [l / 256, l % 256]) := Lib.hid (rd_of_lit w4 [l / 256, l % 256] 5 (by simp))
 go_wp2_with fail
 obtain ⟨wl, hwl⟩ : ∃ wl, wl = w4.alloc (.cells #[.int .u8 ((l : Int) / 256), .int .u8 ((l : Int) % 256)] 5) := ⟨_, rfl⟩
 rw [← hwl] at HBL4 HRL ⊢
 have HRA : Hid (Rd wl (.slice A l c) bs) := Lib.hid ((HRB.out.below HB4.out (Nat.le_refl _)).below HBL4.out (Nat.le_refl _))
 have HR4l : Hid (Rd wl (.slice A4 16 c4) (Hv.said2 n p)) := Lib.hid (HR4.out.below HBL4.out (Nat.le_refl _))
 have HBl : Hid (Below w.heap.size w wl) := Lib.hid (below_then HB4.out HBL4.out)
 clear hwl
 go_at_call 22
 have CN := need_any (l : Int) wl (WalkArith.wf_i64 (by omega))
 rw [← HND.out] at CN
 refine CN.mono ?_
 rintro e wn ⟨rfl, rfl⟩
 have CS := hsum_any ⟨#[114, 101, 99, 111, 114, 100]⟩ Hv.wRecord (by rfl) wl.heap.size 0 2 2 [.slice A4 16 c4, .slice A l c] [Hv.said2 n p, bs] (wl.alloc (.cells [Value.slice A4 16 c4, .slice A l c].toArray 39)) (parts_cell wl _ _) rfl rfl (by omega) (fun h => by omega) (by omega) (two_parts HR4l.out HRA.out) (fun x hx => by
  rcases List.mem_cons.1 hx with rfl | hx
  ·exact said2_byte n p
  ·rw [List.mem_singleton.1 hx]; exact HBY.out) (by omega) (by simp [said2_len, HBL.out]; omega) (Blk.new wl _ _).lt (HT.out.below (below_then HBl.out (below_al wl _)) (Nat.le_refl _)) (by decide) (byte_of (show ∀ x ∈ Hv.wRecord, x < 256 by decide))
 go_wp2_with fail
 go_at_call 55
 refine CS.mono ?_
 rintro e w5 ⟨g5, rfl, hr5, hb5⟩
 have HR5 := Lib.hid hr5
 have HB5 := Lib.hid (below_then (below_then HBl.out (below_al wl _)) hb5)
 have HRA5 : Hid (Rd w5 (.slice A l c) bs) := Lib.hid ((HRA.out.below (below_al wl _) (Nat.le_refl _)).below hb5 (Nat.le_refl _))
 have HRL5 : Hid (Rd w5 (.slice (some ⟨w4.heap.size, 0, none⟩) 2 2) [l / 256, l % 256]) := Lib.hid ((HRL.out.below (below_al wl _) (Nat.le_refl _)).below hb5 (Nat.le_refl _))
 have hnd : nd = (l + 41) / 32 := by rw [HND.out]; exact Hv.need_of h1 h2
 have CF := filled_any nd w5.heap.size 0 3 3 [.slice (some ⟨w4.heap.size, 0, none⟩) 2 2, .slice (some ⟨g5, 0, none⟩) 8 32, .slice A l c] [[l / 256, l % 256], Hv.sum8 Hv.wRecord [Hv.said2 n p, bs].flatten, bs] (w5.alloc (.cells [Value.slice (some ⟨w4.heap.size, 0, none⟩) 2 2, .slice (some ⟨g5, 0, none⟩) 8 32, .slice A l c].toArray 39)) (parts_cell w5 _ _) rfl rfl (by omega) (by omega) (three_parts HRL5.out HR5.out HRA5.out) (fun x hx => by
  rcases List.mem_cons.1 hx with rfl | hx
  ·exact byte_of (fun y hy => by
    rcases List.mem_cons.1 hy with rfl | hy
    ·omega
    ·rw [List.mem_singleton.1 hy]; omega)
  ·rcases List.mem_cons.1 hx with rfl | hx
   ·exact sum8_byte _ _
   ·rw [List.mem_singleton.1 hx]; exact HBY.out) (by omega) (by simp [Hv.sum8_len, HBL.out]; omega) (by omega) (Blk.new w5 _ _).lt
 have HRC : Hid (Hv.padTo nd [[l / 256, l % 256], Hv.sum8 Hv.wRecord [Hv.said2 n p, bs].flatten, bs].flatten = Hv.recB n p bs) := Lib.hid (by unfold Hv.recB; rw [HBL.out, HND.out])
 rw [HRC.out] at CF
 clear hr5 hb5 CS hnd CN
 go_wp2_with fail
 go_at_call 54
 refine CF.mono ?_
 rintro e w6 ⟨g6, rfl, hk6, hg6, hb6⟩
 have HK6 := Lib.hid hk6
 have HG6 : Hid (w.heap.size ≤ g6) := Lib.hid (by have := HB5.out.size; simp at hg6; omega)
 have HB6 := Lib.hid (below_then (below_then HB5.out (below_al w5 _)) hb6)
 clear hk6 hg6 hb6 CF
 go_wp2_with fail
 go_ret
 exact ⟨g6, rfl, HK6.out, HG6.out, HB6.out⟩
end Go.Proofs.YtdokojlgcplefaaDoor
/- Layer 5: a half's sectors: read, written, synced; a deed that isn't done leaves the call. -/
namespace Go.Proofs.YtdokojlgcplefaaDoor
open Go Go.RowKit
def outc (b : Bool) (v : Value) (aD : Addr) : Ending := if b then .returned v else .panicked [{ v := ev aD, recovered := false }]
theorem er_true (aD : Addr) : er true aD = .nilIface := rfl
theorem er_false (aD : Addr) : er false aD = ev aD := rfl
def unitV : Value := .tuple #[]
def halfV (d f z : Nat) : Value := .agg #[.pointer (some ⟨d, 0, none⟩), .int .i64 (f : Int), .int .i64 (z : Int)]
abbrev halfBox (w : World) (d f z : Nat) : World := w.alloc (.cells #[.pointer (some ⟨d, 0, none⟩), .int .i64 (f : Int), .int .i64 (z : Int)] 56)
theorem below_halfBox (w : World) (d f z : Nat) : Below w.heap.size w (halfBox w d f z) := (Below.refl _ _).alloc (Nat.le_refl _) _
section
variable {B : Nat} {d ms ml k : Nat} {S : Dk.D} {v : Value}
theorem hread_any (f z i : Nat) (w : World) (h : DkAt B w d S ms ml v k) (ho : S.off = false) (hi : f + i < S.size) :
  Calls Tryd.prog 47 #[halfV d f z, .int .i64 (i : Int)] w fun e w' => ∃ g, e = .returned (.slice (some ⟨g, 0, none⟩) 32 32) ∧ Blk w' g 66 (u8s (Dk.seen S (f + i))) ∧ w.heap.size ≤ g ∧ Below w.heap.size w w' := by
 have hsz := h.ok.size
 have H1 := Lib.hid (h.below (below_halfBox w d f z))
 have CR := dk_read (f + i) (halfBox w d f z) H1.out ho hi
 have e1 : ((f + i : Nat) : Int) = (f : Int) + (i : Int) := by omega
 rw [e1] at CR
 have i1 : (f : Int) + (i : Int) < 10000 := by omega
 clear h
 unfold halfV
 go_enter Tryd.func47, Tryd.ntmps47
 go_wp2_with (first
  | (go_at_call 60; refine CR.mono ?_; rintro e w1 ⟨g, rfl, hk, hg, hb⟩; have HK := Lib.hid hk; have HG := Lib.hid hg; have HB := Lib.hid hb; clear hk hg hb)
  | (go_at_call 42; refine (must_nil w1).mono ?_; rintro e w2 ⟨rfl, rfl⟩))
 go_ret
 exact ⟨g, rfl, HK.out, by have := HG.out; simp at this; omega, (below_halfBox w d f z).trans (HB.out.mono (below_halfBox w d f z).size)⟩
theorem fr_box {w w' : World} {f z : Nat} (hf : Fr (halfBox w d f z) w' d ms ml v) : Fr w w' d ms ml v :=
 (Fr.of (only_of_below (below_halfBox w d f z) none) (fun g e => by cases e)).trans hf
theorem hwrite_any (f z i : Nat) (A : Option Addr) (n c : Nat) (bs : List Nat) (aD : Addr) (w : World) (h : DkAt B w d S ms ml v k) (hi : f + i < S.size) (hn : n ≤ 32) (hv : RdB w d (.slice A n c) bs) (hb : Sha.Byte bs) (hk : k < 1000000)
  (hD : w.cell? ⟨2, 0, none⟩ = some (ev aD)) (hne : d ≠ 2) :
  Calls Tryd.prog 41 #[halfV d f z, .int .i64 (i : Int), .slice A n c] w fun e w' => e = outc (Dk.done S) unitV aD ∧ (∃ v', DkAt B w' d (Dk.wrote S (f + i) bs) ms ml v' (k + 1)) ∧ Fr w w' d ms ml v := by
 have hsz := h.ok.size
 have bb := below_halfBox w d f z
 have CW := dk_write (f + i) A n c bs aD (halfBox w d f z) (h.below bb) hi hn (hv.only (only_of_below bb _)) hb hk ((bb.cell (block_lt_of_cell hD)).trans hD) hne
 have e1 : ((f + i : Nat) : Int) = (f : Int) + (i : Int) := by omega
 rw [e1] at CW
 have i1 : (f : Int) + (i : Int) < 10000 := by omega
 clear h hv hD bb
 unfold halfV
 cases hd : Dk.done S
 ·rw [hd] at CW
  go_enter Tryd.func41, Tryd.ntmps41
  go_wp2_with (first
   | (go_at_call 56; refine CW.mono ?_; rintro e w1 ⟨rfl, h1, h2⟩; rw [er_false]; have H1 := Lib.hid h1; have H2 := Lib.hid h2; clear h1 h2)
   | (go_at_call 42; refine (must_ev aD w1).mono ?_; rintro e w2 ⟨rfl, rfl⟩))
  exact ⟨rfl, rfl, H1.out, fr_box H2.out⟩
 ·rw [hd] at CW
  go_enter Tryd.func41, Tryd.ntmps41
  go_wp2_with (first
   | (go_at_call 56; refine CW.mono ?_; rintro e w1 ⟨rfl, h1, h2⟩; rw [er_true]; have H1 := Lib.hid h1; have H2 := Lib.hid h2; clear h1 h2)
   | (go_at_call 42; refine (must_nil w1).mono ?_; rintro e w2 ⟨rfl, rfl⟩))
  go_end0
  exact ⟨rfl, H1.out, fr_box H2.out⟩
theorem hsync_any (f z : Nat) (aD : Addr) (w : World) (h : DkAt B w d S ms ml v k) (hk : k < 1000000) (hD : w.cell? ⟨2, 0, none⟩ = some (ev aD)) (hne : d ≠ 2) :
  Calls Tryd.prog 26 #[halfV d f z] w fun e w' => e = outc (Dk.done S) unitV aD ∧ (∃ v', DkAt B w' d (Dk.syncs S) ms ml v' (k + 1)) ∧ ∀ u, Fr w w' d ms ml u := by
 have bb := below_halfBox w d f z
 have CW := dk_sync aD (halfBox w d f z) (h.below bb) hk ((bb.cell (block_lt_of_cell hD)).trans hD) hne
 clear h hD bb
 unfold halfV
 cases hd : Dk.done S
 ·rw [hd] at CW
  go_enter Tryd.func26, Tryd.ntmps26
  go_wp2_with (first
   | (go_at_call 43; refine CW.mono ?_; rintro e w1 ⟨rfl, h1, h2⟩; rw [er_false]; have H1 := Lib.hid h1; have H2 := Lib.hid h2; clear h1 h2)
   | (go_at_call 42; refine (must_ev aD w1).mono ?_; rintro e w2 ⟨rfl, rfl⟩))
  exact ⟨rfl, rfl, H1.out, fun u => fr_box (H2.out u)⟩
 ·rw [hd] at CW
  go_enter Tryd.func26, Tryd.ntmps26
  go_wp2_with (first
   | (go_at_call 43; refine CW.mono ?_; rintro e w1 ⟨rfl, h1, h2⟩; rw [er_true]; have H1 := Lib.hid h1; have H2 := Lib.hid h2; clear h1 h2)
   | (go_at_call 42; refine (must_nil w1).mono ?_; rintro e w2 ⟨rfl, rfl⟩))
  go_end0
  exact ⟨rfl, H1.out, fun u => fr_box (H2.out u)⟩
end
end Go.Proofs.YtdokojlgcplefaaDoor
