/- Layer 5: what a half's head says. -/
import Derived.Test.YtdokojlgcplefaaDoorMHv4s
namespace Go.Proofs.YtdokojlgcplefaaDoor
open Go Go.RowKit
theorem tl_loop (bs : ByteArray) : ∀ (n i : Nat) (r : List UInt8), bs.size - i = n → ByteArray.toList.loop bs i r = r.reverse ++ bs.data.toList.drop i := by
 intro n
 induction n with
 | zero =>
  intro i r h
  rw [ByteArray.toList.loop]
  have : ¬ i < bs.size := by omega
  rw [if_neg this, List.drop_eq_nil_of_le (by show bs.size ≤ i; omega), List.append_nil]
 | succ n ih =>
  intro i r h
  rw [ByteArray.toList.loop]
  have h1 : i < bs.size := by omega
  rw [if_pos h1, ih (i+1) _ (by omega)]
  have h2 : i < bs.data.toList.length := h1
  rw [List.drop_eq_getElem_cons h2, List.reverse_cons, List.append_assoc]
  congr 1
  simp [ByteArray.get!, h1]
theorem bytes_list (bs : ByteArray) : bs.toList = bs.data.toList := by
 unfold ByteArray.toList
 rw [tl_loop bs _ 0 [] rfl]; simp
theorem textOf_ne_list {x y : List Nat} (hx : Sha.Byte x) (hy : Sha.Byte y) (h : x ≠ y) : ¬ (textOf x).toList = (textOf y).toList := fun e => h (by
 rw [bytes_list, bytes_list] at e
 have e2 : x.map UInt8.ofNat = y.map UInt8.ofNat := by simpa [textOf] using e
 have := ofNat_inj x y hx hy
 rw [e2] at this
 simpa using this)
theorem textOf_beq {x y : List Nat} (hx : Sha.Byte x) (hy : Sha.Byte y) : ((textOf x).toList == (textOf y).toList) = (x == y) := by
 by_cases h : x = y
 ·subst h; simp
 ·rw [beq_false_of_ne (textOf_ne_list hx hy h), beq_false_of_ne h]
def HSents (w : World) (a : Nat → Addr) : Prop := ∀ k, (k = 0 ∨ k = 1 ∨ k = 2 ∨ k = 3 ∨ k = 6 ∨ k = 10 ∨ k = 15 ∨ k = 20) → SentAt w (sgs.getD k 0) (stexts.getD k []) (a k)
theorem HSents.below {w w' : World} {a : Nat → Addr} (h : HSents w a) {B : Nat} (hb : Below B w w') (hB : w.heap.size ≤ B) : HSents w' a := fun k hk => (h k hk).below hb hB
theorem HSents.o {w : World} {a : Nat → Addr} (h : HSents w a) : OSents w a := fun k hk => h k (by omega)
theorem Sents.h {w : World} {a : Nat → Addr} (h : Sents w a) : HSents w a := fun k hk => h k (by omega)
theorem bequal_any (u v : Value) (xs ys : List Nat) (w : World) (h1 : Rd w u xs) (h2 : Rd w v ys) (hx : Sha.Byte xs) (hy : Sha.Byte ys) :
  Calls Tryd.prog 49 #[u, v] w fun e w' => e = .returned (.bool (xs == ys)) ∧ w = w' :=
 (Tryd.bytes_Equal_strs u v (textOf xs) (textOf ys) w (conv_rd h1) (conv_rd h2)).mono fun e w' ⟨he, hw⟩ => by rw [textOf_beq hx hy] at he; exact ⟨he, hw.symm⟩
namespace Hv
def top : Nat := 1099511627776
def headM (b : List Nat) : Nat × Nat :=
 match Oc.reads [113, 98] b with
 | .ok [(n, _), (s, _)] _ => if (s = 1 ∨ s = 2) ∧ 1 ≤ n ∧ n ≤ top ∧ b = headB n s then (n, s) else (0, 0)
 | _ => (0, 0)
end Hv
theorem reads_qb {bs : List Nat} {n t : Nat} {x1 x2 : List Nat} {p : Nat} (_hb : Oc.bytes bs) (h : Oc.reads [113, 98] bs = .ok [(n, x1), (t, x2)] p) : n ≤ 4611686018427387903 ∧ t ≤ 255 := by
 obtain ⟨p1, h1⟩ := Oc.reads_pre h 1 (by decide)
 have e1 : Oc.reads [113] bs = .ok [(n, x1)] p1 := h1
 unfold Oc.reads at h e1
 simp only [List.foldl_cons, List.foldl_nil] at h e1
 rw [e1] at h
 unfold Oc.Got.next at h e1
 simp only [List.drop_zero] at h e1
 constructor
 ·have s1 : Oc.step 113 bs = if bs.length < 8 then .bad 2 else if Oc.mostN 113 < Oc.val (bs.take 8) then .bad 1 else .ok (Oc.val (bs.take 8)) [] 8 := rfl
  rw [s1] at e1
  split at e1
  ·cases e1
  ·rename_i n' x' k' heq
   split at heq
   ·cases heq
   ·split at heq
    ·cases heq
    ·rename_i hle
     have hm : Oc.mostN 113 = 4611686018427387903 := rfl
     injection heq with q1 q2 q3
     injection e1 with r1 r2
     simp only [List.nil_append, List.cons.injEq, Prod.mk.injEq, and_true] at r1
     omega
 ·have s1 : Oc.step 98 (bs.drop p1) = if (bs.drop p1).length < 1 then .bad 2 else if Oc.mostN 98 < Oc.val ((bs.drop p1).take 1) then .bad 1 else .ok (Oc.val ((bs.drop p1).take 1)) [] 1 := rfl
  rw [s1] at h
  split at h
  ·cases h
  ·rename_i n' x' k' heq
   split at heq
   ·cases heq
   ·split at heq
    ·cases heq
    ·rename_i hle
     have hm : Oc.mostN 98 = 255 := rfl
     injection heq with q1 q2 q3
     injection h with r1 r2
     simp only [List.singleton_append, List.cons.injEq, Prod.mk.injEq, and_true, true_and] at r1
     omega
theorem qb_sh : shN ⟨#[113, 98]⟩ = [113, 98] := by decide +kernel
theorem qb_known : Oc.known (⟨#[113, 98]⟩ : ByteArray).data.toList = true := by decide +kernel
section
variable {B : Nat} {d ms ml k : Nat} {S : Dk.D} {v : Value}
set_option maxRecDepth 100000 in
theorem hhead_any (f z : Nat) (a : Nat → Addr) (w : World) (h : DkAt B w d S ms ml v k) (ho : S.off = false) (hi : f < S.size) (hS : HSents w a) (ht : Tabs w) :
  Calls Tryd.prog 34 #[halfV d f z] w fun e w' => e = .returned (.agg #[.int .i64 ((Hv.headM (Dk.seen S f)).1 : Nat), .int .i64 ((Hv.headM (Dk.seen S f)).2 : Nat)]) ∧ Below w.heap.size w w' := by
 obtain ⟨bs, hbs⟩ : ∃ bs, bs = Dk.seen S f := ⟨_, rfl⟩
 have HBY : Hid (Sha.Byte bs) := Lib.hid (by rw [hbs]; exact seen_byte h.ok f)
 have HBL : Hid (bs.length = 32) := Lib.hid (by rw [hbs]; exact seen_len h.ok f)
 have HS := Lib.hid hS
 have HT := Lib.hid ht
 have HB0 : Hid (Below w.heap.size w ((halfBox w d f z).alloc (.cells #[.int .i64 0, .int .i64 0] 74))) := Lib.hid (below_then (below_halfBox w d f z) (below_al _ _))
 have HX0 : Hid (Blk ((halfBox w d f z).alloc (.cells #[.int .i64 0, .int .i64 0] 74)) (w.heap.size + 1) 74 #[.int .i64 0, .int .i64 0]) := Lib.hid (by have := Blk.new (halfBox w d f z) 74 #[.int .i64 0, .int .i64 0]; rwa [show (halfBox w d f z).heap.size = w.heap.size + 1 by simp] at this)
 have CR := hread_any f z 0 ((halfBox w d f z).alloc (.cells #[.int .i64 0, .int .i64 0] 74)) (h.below HB0.out) ho (by omega)
 rw [Nat.add_zero, ← hbs] at CR
 rw [← hbs]
 obtain ⟨hm, hhm⟩ : ∃ hm, hm = Hv.headM bs := ⟨_, rfl⟩
 rw [← hhm]
 have HM := Lib.hid hhm
 clear hbs h hS ht hhm
 unfold halfV at *
 have q0 := neq_ev
 go_enter Tryd.func34, Tryd.ntmps34
 go_wp2_with fail
 go_at_call 47
 refine CR.mono ?_
 rintro e w1 ⟨g1, rfl, hk1, hg1, hb1⟩
 have HR1 := Lib.hid (rd_of_sec hk1 HBL.out)
 have HB1 := Lib.hid (below_then HB0.out hb1)
 have HX1 := Lib.hid (HX0.out.below hb1 HX0.out.lt)
 clear hk1 hg1 hb1 CR
 have hSw : HSents w1 a := HS.out.below HB1.out (Nat.le_refl _)
 cases hrd : Oc.reads [113, 98] bs with
 | bad c =>
  have CB : Calls Tryd.prog 48 #[.string ⟨#[113, 98]⟩, .slice (some ⟨g1, 0, none⟩) 32 32] w1 fun e w' => e = .returned (.tuple #[.slice none 0 0, .slice none 0 0, ev (a (c - 1))]) ∧ Below w1.heap.size w1 w' :=
   orest_bad _ _ _ _ _ _ _ HR1.out (by decide) (Oc.bytes_of HBY.out) hSw.o (a (c - 1)) (fun w2 i r e w' hf => hf.2.1 qb_known c (by rw [qb_sh]; exact hrd))
  have HM2 : Hid (hm = (0, 0)) := Lib.hid (by rw [HM.out, Hv.headM, hrd])
  clear hSw hrd
  go_wp2_with fail
  go_at_call 48
  refine CB.mono ?_
  rintro e w2 ⟨rfl, hb2⟩
  have HB2 := Lib.hid (below_then HB1.out hb2)
  have HX2 := Lib.hid (HX1.out.below hb2 HX1.out.lt)
  have z0 := HX2.out.frozen 0
  have z1 := HX2.out.frozen 1
  have p0 := HX2.out.cell 0
  have p1 := HX2.out.cell 1
  clear hb2 CB
  go_wp2_with fail
  have hw3 : Blk ((w2.setCell ⟨w.heap.size + 1, 0, none⟩ (.int .i64 0)).setCell ⟨w.heap.size + 1, 1, none⟩ (.int .i64 0)) (w.heap.size + 1) 74 #[.int .i64 0, .int .i64 0] := (HX2.out.set_ 0 (.int .i64 0)).set_ 1 (.int .i64 0)
  exact bodyPost_ret (v := .agg #[.int .i64 0, .int .i64 0]) (results_cell_row rfl _ _ (w.heap.size + 1) 74 _ (0, 0) _ rfl hw3 Tryd.underlying74 rfl (by kernel_rfl)) rfl ⟨by rw [HM2.out]; rfl, (HB2.out.setCell (p := ⟨w.heap.size + 1, 0, none⟩) (by show w.heap.size ≤ w.heap.size + 1; omega) _).setCell (p := ⟨w.heap.size + 1, 1, none⟩) (by show w.heap.size ≤ w.heap.size + 1; omega) _⟩
 | ok l p =>
  obtain ⟨n, x1, t, x2, rfl⟩ : ∃ n x1 t x2, l = [(n, x1), (t, x2)] := by
   have hl := Oc.reads_len hrd
   match l, hl with
   | [(n, x1), (t, x2)], _ => exact ⟨n, x1, t, x2, rfl⟩
  have CB := orest_any (s := ⟨#[113, 98]⟩) (A := some ⟨g1, 0, none⟩) (n := 32) (c := 32) (xs := bs) (a := a) (w := w1) HR1.out (by decide) (Oc.bytes_of HBY.out) (by rw [HBL.out]; omega) hSw.o qb_known [(n, x1), (t, x2)] p (by rw [qb_sh]; exact hrd)
  have HM2 : Hid (hm = if (t = 1 ∨ t = 2) ∧ 1 ≤ n ∧ n ≤ Hv.top ∧ bs = Hv.headB n t then (n, t) else (0, 0)) := Lib.hid (by rw [HM.out, Hv.headM, hrd])
  obtain ⟨hn62, ht8⟩ : n ≤ 4611686018427387903 ∧ t ≤ 255 := by
   exact reads_qb (Oc.bytes_of HBY.out) hrd
  clear hSw hrd
  go_wp2_with fail
  go_at_call 48
  refine CB.mono ?_
  rintro e w2 ⟨A1, b1, c1, A2, c2, fs, rfl, hA1, hf, hsy, _, hb2⟩
  have hfl : fs.length = 2 := by have := congrArg List.length hsy; simpa using this
  obtain ⟨f0, f1, rfl⟩ : ∃ f0 f1, fs = [f0, f1] := by
   match fs, hfl with
   | [f0, f1], _ => exact ⟨f0, f1, rfl⟩
  obtain rfl := hA1 (by simp)
  simp only [List.map_cons, List.map_nil, Oc.says, Oc.lays, List.cons.injEq, Prod.mk.injEq, and_true] at hsy
  have p0 : w2.cell? ⟨b1, 0, none⟩ = some (.int .i64 (n : Int)) := by have := hf.n 0 (by simp); rw [← hsy.1.1]; simpa using this
  have p2 : w2.cell? ⟨b1, 2, none⟩ = some (.int .i64 (t : Int)) := by have := hf.n 1 (by simp); rw [← hsy.2.1]; simpa using this
  have hb1l := hf.lt
  have HB2 := Lib.hid (below_then HB1.out hb2)
  have HX2 := Lib.hid (HX1.out.below hb2 HX1.out.lt)
  have HR2 := Lib.hid (HR1.out.below hb2 (Nat.le_refl _))
  clear hb2 CB hsy hf hA1 hfl
  generalize (List.drop p bs).length = dl
  go_wp2_with fail
  refine wp_region_held (S := (fun w' => w'.cell? ⟨b1, 0, none⟩ = some (.int .i64 (n : Int)) ∧ w'.cell? ⟨b1, 2, none⟩ = some (.int .i64 (t : Int)))) (by kernel_rfl) ?_
  change wpAnyH _ _ _ _ _ _ _ _ w2.drew
  refine wpAnyH_take (i := 0) (v := ?_) rfl (by kernel_rfl) (by kernel_rfl) (by kernel_rfl) (fun _ _ _ h => h) (Or.inl ⟨by rfl, ?_⟩) (⟨p0, p2⟩) ?_
  rotate_left
  ·intro w _; go_simp; with_reducible rfl
  try simp only [Act.put, List.getElem_toArray, List.getElem_cons_zero, List.setIfInBounds_toArray, List.set_cons_zero, List.set_cons_succ]
  refine wpAnyH_take (i := 1) (v := ?_) rfl (by kernel_rfl) (by kernel_rfl) (by kernel_rfl) (fun _ _ _ h => h) (Or.inl ⟨by rfl, ?_⟩) (⟨p0, p2⟩) ?_
  rotate_left
  ·intro w _; go_simp; with_reducible rfl
  try simp only [Act.put, List.getElem_toArray, List.getElem_cons_zero, List.getElem_cons_succ, List.setIfInBounds_toArray, List.set_cons_zero, List.set_cons_succ]
  refine wpAnyH_take (i := 2) (v := ?_) rfl (by kernel_rfl) (by kernel_rfl) (by kernel_rfl) (fun _ _ _ h => h) (Or.inl ⟨by rfl, ?_⟩) (⟨p0, p2⟩) ?_
  rotate_left
  ·intro w _; go_simp; with_reducible rfl
  try simp only [Act.put, List.getElem_toArray, List.getElem_cons_zero, List.getElem_cons_succ, List.setIfInBounds_toArray, List.set_cons_zero, List.set_cons_succ]
  refine wpAnyH_take (i := 3) (v := .int .i64 (n : Int)) rfl (by kernel_rfl) (by kernel_rfl) (by kernel_rfl) (fun _ _ _ h => h) (Or.inl ⟨by rfl, ?_⟩) (⟨p0, p2⟩) ?_
  ·intro w' hw; have hc := hw.1; go_simp
  try simp only [Act.put, List.getElem_toArray, List.getElem_cons_zero, List.getElem_cons_succ, List.setIfInBounds_toArray, List.set_cons_zero, List.set_cons_succ]
  refine wpAnyH_take (i := 4) (v := ?_) rfl (by kernel_rfl) (by kernel_rfl) (by kernel_rfl) (fun _ _ _ h => h) (Or.inl ⟨by rfl, ?_⟩) (⟨p0, p2⟩) ?_
  rotate_left
  ·intro w _; go_simp; with_reducible rfl
  try simp only [Act.put, List.getElem_toArray, List.getElem_cons_zero, List.getElem_cons_succ, List.setIfInBounds_toArray, List.set_cons_zero, List.set_cons_succ]
  refine wpAnyH_take (i := 5) (v := ?_) rfl (by kernel_rfl) (by kernel_rfl) (by kernel_rfl) (fun _ _ _ h => h) (Or.inl ⟨by rfl, ?_⟩) (⟨p0, p2⟩) ?_
  rotate_left
  ·intro w _; go_simp; with_reducible rfl
  try simp only [Act.put, List.getElem_toArray, List.getElem_cons_zero, List.getElem_cons_succ, List.setIfInBounds_toArray, List.set_cons_zero, List.set_cons_succ]
  refine wpAnyH_take (i := 6) (v := ?_) rfl (by kernel_rfl) (by kernel_rfl) (by kernel_rfl) (fun _ _ _ h => h) (Or.inl ⟨by rfl, ?_⟩) (⟨p0, p2⟩) ?_
  rotate_left
  ·intro w _; go_simp; with_reducible rfl
  try simp only [Act.put, List.getElem_toArray, List.getElem_cons_zero, List.getElem_cons_succ, List.setIfInBounds_toArray, List.set_cons_zero, List.set_cons_succ]
  refine wpAnyH_take (i := 7) (v := .int .i64 (t : Int)) rfl (by kernel_rfl) (by kernel_rfl) (by kernel_rfl) (fun _ _ _ h => h) (Or.inl ⟨by rfl, ?_⟩) (⟨p0, p2⟩) ?_
  ·intro w' hw; have hc := hw.2; go_simp
  try simp only [Act.put, List.getElem_toArray, List.getElem_cons_zero, List.getElem_cons_succ, List.setIfInBounds_toArray, List.set_cons_zero, List.set_cons_succ]
  refine wpAnyH_take (i := 8) (v := ?_) rfl (by kernel_rfl) (by kernel_rfl) (by kernel_rfl) (fun _ _ _ h => h) (Or.inl ⟨by rfl, ?_⟩) (⟨p0, p2⟩) ?_
  rotate_left
  ·intro w _; go_simp; with_reducible rfl
  try simp only [Act.put, List.getElem_toArray, List.getElem_cons_zero, List.getElem_cons_succ, List.setIfInBounds_toArray, List.set_cons_zero, List.set_cons_succ]
  refine all_one (i := 9) (by kernel_rfl) rfl (by rfl) (fun K hK => ?_)
  go_simp
  have hd2 : Below w2.heap.size w2 (w2.drew.alloc (.cells #[.int .i64 0, .int .i64 0] 74)) := below_then (below_drewN (Below.refl _ _) 1) (below_al w2.drew _)
  have pc0 := (hd2.cell (p := ⟨b1, 0, none⟩) hb1l).trans p0
  have pc2 := (hd2.cell (p := ⟨b1, 2, none⟩) hb1l).trans p2
  refine hK _ _ ⟨pc0, pc2⟩ ?_; clear hK K
  try simp only [Act.put, List.getElem_toArray, List.getElem_cons_zero, List.getElem_cons_succ, List.setIfInBounds_toArray, List.set_cons_zero, List.set_cons_succ]
  refine all_one (i := 10) (by kernel_rfl) rfl (by rfl) (fun K hK => ?_)
  go_simp
  have hkT : Blk ((w2.alloc (.cells #[.int .i64 (n : Int), .int .i64 (t : Int)] 74)).drew) w2.heap.size 74 #[.int .i64 (n : Int), .int .i64 (t : Int)] := (Blk.new w2 _ _).drew
  have hbT : Below w2.heap.size w2 ((w2.alloc (.cells #[.int .i64 (n : Int), .int .i64 (t : Int)] 74)).drew) := below_drewN (below_al w2 _) 1
  refine hK _ _ ⟨(hbT.cell (p := ⟨b1, 0, none⟩) hb1l).trans p0, (hbT.cell (p := ⟨b1, 2, none⟩) hb1l).trans p2⟩ ?_; clear hK K
  try simp only [Act.put, List.getElem_toArray, List.getElem_cons_zero, List.getElem_cons_succ, List.setIfInBounds_toArray, List.set_cons_zero, List.set_cons_succ]
  refine wpAnyH_done (by kernel_rfl) ?_ _
  have HKT := Lib.hid hkT
  have HBT := Lib.hid hbT
  clear hkT hbT hd2 pc0 pc2 p0 p2 hb1l
  generalize ((w2.alloc (.cells #[.int .i64 (n : Int), .int .i64 (t : Int)] 74)).drew) = wt at HKT HBT ⊢
  have HB3 := Lib.hid (below_then HB2.out HBT.out)
  have HX3 := Lib.hid (HX2.out.below HBT.out HX2.out.lt)
  have HR3 := Lib.hid (HR2.out.below HBT.out (Nat.le_refl _))
  have z0 := HX3.out.frozen 0
  have z1 := HX3.out.frozen 1
  have p0 := HX3.out.cell 0
  have p1 := HX3.out.cell 1
  have q0 : wt.cell? ⟨w2.heap.size, 0, none⟩ = some (.int .i64 (n : Int)) := HKT.out.cell 0
  have q1 : wt.cell? ⟨w2.heap.size, 1, none⟩ = some (.int .i64 (t : Int)) := HKT.out.cell 1
  by_cases hk : t = 1 ∨ t = 2
  ·by_cases h1 : 1 ≤ n
   ·by_cases h2 : n ≤ Hv.top
    ·have j1 : ¬ (n : Int) < 1 := by omega
     have j2 : ¬ (1099511627776 : Int) < (n : Int) := by have : n ≤ 1099511627776 := h2; omega
     have CH := headBytes_any n t (a 6) (a 0) wt (by have : n ≤ 1099511627776 := h2; omega) (by omega) (HT.out.below HB3.out (Nat.le_refl _)) (HS.out.below HB3.out (Nat.le_refl _) 6 (by omega)).var (HS.out.below HB3.out (Nat.le_refl _) 0 (by omega)).var
     have HBT3 : Hid (Blk wt w2.heap.size 74 #[.int .i64 (n : Int), .int .i64 (t : Int)]) := HKT
     have HEQ : Hid (hm = if bs = Hv.headB n t then (n, t) else (0, 0)) := Lib.hid (by rw [HM2.out]; by_cases hq : bs = Hv.headB n t; (rw [if_pos ⟨hk, h1, h2, hq⟩, if_pos hq]); (rw [if_neg (fun hh => hq hh.2.2.2), if_neg hq]))
     rcases hk with rfl | rfl
     ·skip
      go_wp2_with (first | (refine wpList_load_row rfl 74 (.tmp 7) rfl w2.heap.size rfl 74 _ (0,0) _ HKT.out Tryd.underlying74 rfl (by kernel_rfl) ?_) | fail)
      go_at_call 50
      refine CH.mono ?_
      rintro e w5 ⟨g5, rfl, hk5, hg5, hb5⟩
      have HR5 := Lib.hid (rd_of_sec hk5 (headB_len _ _))
      have HB5 := Lib.hid (below_then HB3.out hb5)
      have HX5 := Lib.hid (HX3.out.below hb5 HX3.out.lt)
      have HK5 := Lib.hid (HKT.out.below hb5 HKT.out.lt)
      have HR35 := Lib.hid (HR3.out.below hb5 (Nat.le_refl _))
      have z0 := HX5.out.frozen 0
      have z1 := HX5.out.frozen 1
      have p0 := HX5.out.cell 0
      have p1 := HX5.out.cell 1
      clear hk5 hg5 hb5 CH
      have CE := bequal_any _ _ bs _ w5 HR35.out HR5.out HBY.out (headB_byte _ _)
      generalize hq : (bs == Hv.headB n 1) = bq at CE
      go_wp2_with fail
      go_at_call 49
      refine CE.mono ?_
      rintro e w6 ⟨rfl, rfl⟩
      cases bq
      ·have HM3 : Hid (hm = (0, 0)) := Lib.hid (by rw [HEQ.out, if_neg (by simpa using hq)])
       clear hq
       go_wp2_with fail
       have hw3 : Blk ((w5.setCell ⟨w.heap.size + 1, 0, none⟩ (.int .i64 0)).setCell ⟨w.heap.size + 1, 1, none⟩ (.int .i64 0)) (w.heap.size + 1) 74 #[.int .i64 0, .int .i64 0] := (HX5.out.set_ 0 (.int .i64 0)).set_ 1 (.int .i64 0)
       exact bodyPost_ret (v := .agg #[.int .i64 0, .int .i64 0]) (results_cell_row rfl _ _ (w.heap.size + 1) 74 _ (0, 0) _ rfl hw3 Tryd.underlying74 rfl (by kernel_rfl)) rfl ⟨by rw [HM3.out]; rfl, (HB5.out.setCell (p := ⟨w.heap.size + 1, 0, none⟩) (by show w.heap.size ≤ w.heap.size + 1; omega) _).setCell (p := ⟨w.heap.size + 1, 1, none⟩) (by show w.heap.size ≤ w.heap.size + 1; omega) _⟩
      ·have HM3 : Hid (hm = (n, 1)) := Lib.hid (by rw [HEQ.out, if_pos (by simpa using hq)])
       clear hq
       go_wp2_with (first | (refine wpList_load_row rfl 74 (.tmp 7) rfl w2.heap.size rfl 74 _ (0,0) _ HK5.out Tryd.underlying74 rfl (by kernel_rfl) ?_) | fail)
       have hw3 : Blk ((w5.setCell ⟨w.heap.size + 1, 0, none⟩ (.int .i64 (n : Int))).setCell ⟨w.heap.size + 1, 1, none⟩ (.int .i64 (1 : Nat))) (w.heap.size + 1) 74 #[.int .i64 (n : Int), .int .i64 (1 : Nat)] := (HX5.out.set_ 0 (.int .i64 (n : Int))).set_ 1 (.int .i64 (1 : Nat))
       exact bodyPost_ret (v := .agg #[.int .i64 (n : Int), .int .i64 (1 : Nat)]) (results_cell_row rfl _ _ (w.heap.size + 1) 74 _ (0, 0) _ rfl hw3 Tryd.underlying74 rfl (by kernel_rfl)) rfl ⟨by rw [HM3.out], (HB5.out.setCell (p := ⟨w.heap.size + 1, 0, none⟩) (by show w.heap.size ≤ w.heap.size + 1; omega) _).setCell (p := ⟨w.heap.size + 1, 1, none⟩) (by show w.heap.size ≤ w.heap.size + 1; omega) _⟩
     ·skip
      go_wp2_with (first | (refine wpList_load_row rfl 74 (.tmp 7) rfl w2.heap.size rfl 74 _ (0,0) _ HKT.out Tryd.underlying74 rfl (by kernel_rfl) ?_) | fail)
      go_at_call 50
      refine CH.mono ?_
      rintro e w5 ⟨g5, rfl, hk5, hg5, hb5⟩
      have HR5 := Lib.hid (rd_of_sec hk5 (headB_len _ _))
      have HB5 := Lib.hid (below_then HB3.out hb5)
      have HX5 := Lib.hid (HX3.out.below hb5 HX3.out.lt)
      have HK5 := Lib.hid (HKT.out.below hb5 HKT.out.lt)
      have HR35 := Lib.hid (HR3.out.below hb5 (Nat.le_refl _))
      have z0 := HX5.out.frozen 0
      have z1 := HX5.out.frozen 1
      have p0 := HX5.out.cell 0
      have p1 := HX5.out.cell 1
      clear hk5 hg5 hb5 CH
      have CE := bequal_any _ _ bs _ w5 HR35.out HR5.out HBY.out (headB_byte _ _)
      generalize hq : (bs == Hv.headB n 2) = bq at CE
      go_wp2_with fail
      go_at_call 49
      refine CE.mono ?_
      rintro e w6 ⟨rfl, rfl⟩
      cases bq
      ·have HM3 : Hid (hm = (0, 0)) := Lib.hid (by rw [HEQ.out, if_neg (by simpa using hq)])
       clear hq
       go_wp2_with fail
       have hw3 : Blk ((w5.setCell ⟨w.heap.size + 1, 0, none⟩ (.int .i64 0)).setCell ⟨w.heap.size + 1, 1, none⟩ (.int .i64 0)) (w.heap.size + 1) 74 #[.int .i64 0, .int .i64 0] := (HX5.out.set_ 0 (.int .i64 0)).set_ 1 (.int .i64 0)
       exact bodyPost_ret (v := .agg #[.int .i64 0, .int .i64 0]) (results_cell_row rfl _ _ (w.heap.size + 1) 74 _ (0, 0) _ rfl hw3 Tryd.underlying74 rfl (by kernel_rfl)) rfl ⟨by rw [HM3.out]; rfl, (HB5.out.setCell (p := ⟨w.heap.size + 1, 0, none⟩) (by show w.heap.size ≤ w.heap.size + 1; omega) _).setCell (p := ⟨w.heap.size + 1, 1, none⟩) (by show w.heap.size ≤ w.heap.size + 1; omega) _⟩
      ·have HM3 : Hid (hm = (n, 2)) := Lib.hid (by rw [HEQ.out, if_pos (by simpa using hq)])
       clear hq
       go_wp2_with (first | (refine wpList_load_row rfl 74 (.tmp 7) rfl w2.heap.size rfl 74 _ (0,0) _ HK5.out Tryd.underlying74 rfl (by kernel_rfl) ?_) | fail)
       have hw3 : Blk ((w5.setCell ⟨w.heap.size + 1, 0, none⟩ (.int .i64 (n : Int))).setCell ⟨w.heap.size + 1, 1, none⟩ (.int .i64 (2 : Nat))) (w.heap.size + 1) 74 #[.int .i64 (n : Int), .int .i64 (2 : Nat)] := (HX5.out.set_ 0 (.int .i64 (n : Int))).set_ 1 (.int .i64 (2 : Nat))
       exact bodyPost_ret (v := .agg #[.int .i64 (n : Int), .int .i64 (2 : Nat)]) (results_cell_row rfl _ _ (w.heap.size + 1) 74 _ (0, 0) _ rfl hw3 Tryd.underlying74 rfl (by kernel_rfl)) rfl ⟨by rw [HM3.out], (HB5.out.setCell (p := ⟨w.heap.size + 1, 0, none⟩) (by show w.heap.size ≤ w.heap.size + 1; omega) _).setCell (p := ⟨w.heap.size + 1, 1, none⟩) (by show w.heap.size ≤ w.heap.size + 1; omega) _⟩
    ·have HM3 : Hid (hm = (0, 0)) := Lib.hid (by rw [HM2.out, if_neg (fun hh => h2 hh.2.2.1)])
     have j1 : ¬ (n : Int) < 1 := by omega
     have j2 : (1099511627776 : Int) < (n : Int) := by have : ¬ n ≤ 1099511627776 := h2; omega
     rcases hk with rfl | rfl
     ·go_wp2_with fail
      have hw3 : Blk ((wt.setCell ⟨w.heap.size + 1, 0, none⟩ (.int .i64 0)).setCell ⟨w.heap.size + 1, 1, none⟩ (.int .i64 0)) (w.heap.size + 1) 74 #[.int .i64 0, .int .i64 0] := (HX3.out.set_ 0 (.int .i64 0)).set_ 1 (.int .i64 0)
      exact bodyPost_ret (v := .agg #[.int .i64 0, .int .i64 0]) (results_cell_row rfl _ _ (w.heap.size + 1) 74 _ (0, 0) _ rfl hw3 Tryd.underlying74 rfl (by kernel_rfl)) rfl ⟨by rw [HM3.out]; rfl, (HB3.out.setCell (p := ⟨w.heap.size + 1, 0, none⟩) (by show w.heap.size ≤ w.heap.size + 1; omega) _).setCell (p := ⟨w.heap.size + 1, 1, none⟩) (by show w.heap.size ≤ w.heap.size + 1; omega) _⟩
     ·go_wp2_with fail
      have hw3 : Blk ((wt.setCell ⟨w.heap.size + 1, 0, none⟩ (.int .i64 0)).setCell ⟨w.heap.size + 1, 1, none⟩ (.int .i64 0)) (w.heap.size + 1) 74 #[.int .i64 0, .int .i64 0] := (HX3.out.set_ 0 (.int .i64 0)).set_ 1 (.int .i64 0)
      exact bodyPost_ret (v := .agg #[.int .i64 0, .int .i64 0]) (results_cell_row rfl _ _ (w.heap.size + 1) 74 _ (0, 0) _ rfl hw3 Tryd.underlying74 rfl (by kernel_rfl)) rfl ⟨by rw [HM3.out]; rfl, (HB3.out.setCell (p := ⟨w.heap.size + 1, 0, none⟩) (by show w.heap.size ≤ w.heap.size + 1; omega) _).setCell (p := ⟨w.heap.size + 1, 1, none⟩) (by show w.heap.size ≤ w.heap.size + 1; omega) _⟩
   ·have HM3 : Hid (hm = (0, 0)) := Lib.hid (by rw [HM2.out, if_neg (fun hh => h1 hh.2.1)])
    have j1 : (n : Int) < 1 := by omega
    rcases hk with rfl | rfl
    ·go_wp2_with fail
     have hw3 : Blk ((wt.setCell ⟨w.heap.size + 1, 0, none⟩ (.int .i64 0)).setCell ⟨w.heap.size + 1, 1, none⟩ (.int .i64 0)) (w.heap.size + 1) 74 #[.int .i64 0, .int .i64 0] := (HX3.out.set_ 0 (.int .i64 0)).set_ 1 (.int .i64 0)
     exact bodyPost_ret (v := .agg #[.int .i64 0, .int .i64 0]) (results_cell_row rfl _ _ (w.heap.size + 1) 74 _ (0, 0) _ rfl hw3 Tryd.underlying74 rfl (by kernel_rfl)) rfl ⟨by rw [HM3.out]; rfl, (HB3.out.setCell (p := ⟨w.heap.size + 1, 0, none⟩) (by show w.heap.size ≤ w.heap.size + 1; omega) _).setCell (p := ⟨w.heap.size + 1, 1, none⟩) (by show w.heap.size ≤ w.heap.size + 1; omega) _⟩
    ·go_wp2_with fail
     have hw3 : Blk ((wt.setCell ⟨w.heap.size + 1, 0, none⟩ (.int .i64 0)).setCell ⟨w.heap.size + 1, 1, none⟩ (.int .i64 0)) (w.heap.size + 1) 74 #[.int .i64 0, .int .i64 0] := (HX3.out.set_ 0 (.int .i64 0)).set_ 1 (.int .i64 0)
     exact bodyPost_ret (v := .agg #[.int .i64 0, .int .i64 0]) (results_cell_row rfl _ _ (w.heap.size + 1) 74 _ (0, 0) _ rfl hw3 Tryd.underlying74 rfl (by kernel_rfl)) rfl ⟨by rw [HM3.out]; rfl, (HB3.out.setCell (p := ⟨w.heap.size + 1, 0, none⟩) (by show w.heap.size ≤ w.heap.size + 1; omega) _).setCell (p := ⟨w.heap.size + 1, 1, none⟩) (by show w.heap.size ≤ w.heap.size + 1; omega) _⟩
  ·have HM3 : Hid (hm = (0, 0)) := Lib.hid (by rw [HM2.out, if_neg (fun hh => hk hh.1)])
   have k1 : ((t : Int) == 1) = false := by simp; omega
   have k2 : ((t : Int) == 2) = false := by simp; omega
   go_wp2_with fail
   have hw3 : Blk ((wt.setCell ⟨w.heap.size + 1, 0, none⟩ (.int .i64 0)).setCell ⟨w.heap.size + 1, 1, none⟩ (.int .i64 0)) (w.heap.size + 1) 74 #[.int .i64 0, .int .i64 0] := (HX3.out.set_ 0 (.int .i64 0)).set_ 1 (.int .i64 0)
   exact bodyPost_ret (v := .agg #[.int .i64 0, .int .i64 0]) (results_cell_row rfl _ _ (w.heap.size + 1) 74 _ (0, 0) _ rfl hw3 Tryd.underlying74 rfl (by kernel_rfl)) rfl ⟨by rw [HM3.out]; rfl, (HB3.out.setCell (p := ⟨w.heap.size + 1, 0, none⟩) (by show w.heap.size ≤ w.heap.size + 1; omega) _).setCell (p := ⟨w.heap.size + 1, 1, none⟩) (by show w.heap.size ≤ w.heap.size + 1; omega) _⟩
end
end Go.Proofs.YtdokojlgcplefaaDoor
