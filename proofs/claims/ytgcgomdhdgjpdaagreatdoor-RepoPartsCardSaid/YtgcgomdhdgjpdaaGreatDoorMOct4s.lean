/- The bytes of one field of layer 2 (octets.put). -/
import Derived.Test.YtgcgomdhdgjpdaaGreatDoorMRp1s
import Derived.Test.YtgcgomdhdgjpdaaGreatDoorMLawOpen3s
import Derived.Laws.AppendOwn
import Derived.Test.YtgcgomdhdgjpdaaGreatDoorMBases
import Derived.Test.YtgcgomdhdgjpdaaGreatDoorChecked
import Derived.LaidEql
import Derived.LaidLaws
import Derived.Stop.Asserts
import Derived.Stop.LaidErr
import Derived.RowKitTokens
namespace Go.Proofs.YtgcgomdhdgjpdaaGreatDoor
open Go Go.RowKit
theorem wp_appendB {o : Oper} {a : Act} {w : World} {K : Act → World → Prop} {Q : Exit → Act → World → Prop} (s x : Operand)
  (ho : o.op = .call { callee := .builtin .append, args := #[s, x], argTypes := #[46, 46] }) (base : Nat) (v : Value) (ys : List Nat) (hs : a.eval s = v) (hown : w.ownsRow base 5 1 v ys.length (cellsB ys)) (hbase : base ≤ w.heap.size)
  (u : Value) (hx : a.eval x = u) (xs : List Nat) (hu : Rd w u xs) (hz : ys.length + xs.length ≤ 70368744177664)
  (h : ∀ v' w', w'.ownsRow base 5 1 v' (ys ++ xs).length (cellsB (ys ++ xs)) → w.grownBy w' v.ownBlock → K (a.put o.dst v') w') : o.wp Tryz.prog a w K Q := by
 obtain ⟨i0, hi0, hiz, his, hib⟩ := info_parts byte_info
 obtain ⟨A, c, rfl, hc, hA⟩ := hu
 have e0 : cellsB ys ++ cellsB xs = cellsB (ys ++ xs) := by simp [cellsB]
 cases A with
 | some ad =>
  refine wp_append_own w s x 46 ho base 5 i0 _ 1 1 Tryz.underlying46 hi0 hiz his hib rfl (by decide) v ys.length (cellsB ys) hs hown ad xs.length c (cellsB xs) hx (by rw [cellsB_len, Nat.mul_one]) ?_ (cellsB_one _) (by unfold maxLen; omega) (by omega) hbase ?_
  ·intro j t hj
   have hjl : j < xs.length := by have := (List.getElem?_eq_some_iff.1 hj).1; rwa [cellsB_len] at this
   obtain ⟨b, o', ha, _, hxx⟩ := hA (by omega)
   obtain rfl := Option.some.inj ha
   rw [cellsB_get hjl] at hj
   rw [Addr.add_mid, hxx j hjl, hj]
  ·intro v' w' h1 h2 _
   rw [e0, ← List.length_append] at h1
   exact h v' w' h1 h2
 | none =>
  have hn : xs.length = 0 := by
   rcases Nat.eq_zero_or_pos xs.length with h0 | h0
   ·exact h0
   ·obtain ⟨b, o', ha, _⟩ := hA h0
    cases ha
  have e : xs = [] := List.eq_nil_of_length_eq_zero hn
  subst e
  have hrun : ∀ ty, (Builtin.append_ #[46, 46] ty #[v, .slice none 0 c]).run Tryz.prog w = .ok v w := fun ty => by
   rcases hown.2 with ⟨hv, hn0⟩ | ⟨g, cap, cur, hv, _, _, hnc, _⟩
   ·rw [hv]
    simp [Builtin.append_, run_underlying Tryz.underlying46, sizeOf, typeInfo, hi0, Builtin.lenOf, Builtin.firstCells]
   ·rw [hv]
    simp [Builtin.append_, run_underlying Tryz.underlying46, sizeOf, typeInfo, hi0, Builtin.lenOf, Builtin.firstCells, hnc, storeCells]
  unfold Oper.wp execOp
  simp only [ho, resolve, invoke, builtin, Sem.run_bind, Sem.run_pure, Result.andThen_ok, List.map_toArray, List.map_cons, List.map_nil, hs, hx]
  rw [show ([] : List Nat).length = 0 from rfl, hrun]
  exact h _ _ (by rw [List.append_nil]; exact hown) (World.grownBy.refl w _)
theorem enc_num {c : Nat} {n : Int} {bs : List Nat} (h1 : c ≠ 111) (h2 : c ≠ 116) {s m : Nat} (hs : Oc.nsize c = s) (hm : n = (m : Int)) : Oc.enc c n bs = Oc.nums s m := by
 subst hm
 unfold Oc.enc
 rw [if_neg h1, if_neg h2, hs]
 rfl
abbrev boxF (w : World) (n : Int) (A : Option Addr) (l cap : Nat) : World := w.alloc (.cells #[.int .i64 n, .slice A l cap] 151)
set_option maxRecDepth 100000 in
theorem put_any (c : Nat) (n : Int) (A : Option Addr) (l cap : Nat) (bs : List Nat) (v0 : Value) (ys0 : List Nat) (B : Nat) (wb w : World) (hB : wb.heap.size = B) (hP0 : Pad B wb v0 ys0 w) (hR : Rd wb (.slice A l cap) bs) (hl : bs.length = l) (hf : Oc.fits c n l = true) (hz : ys0.length ≤ 549755813888) :
  Calls Tryz.prog 108 #[v0, .int .u8 ((c : Nat) : Int), .agg #[.int .i64 n, .slice A l cap]] w fun e w' => ∃ v', e = .returned v' ∧ Pad B wb v' (ys0 ++ Oc.enc c n bs) w' ∧ Others w w' := by
 have hP1 : Pad B wb v0 ys0 (boxF w n A l cap) := ⟨ownsRow_alloc hP0.own _, hP0.bel.alloc (hB ▸ hP0.bel.size) _⟩
 have HP1 := Lib.hid hP1
 have HO1 : Hid (Others w (boxF w n A l cap)) := Lib.hid ((Others.refl w).alloc _)
 have HR1 : Hid (Rd (boxF w n A l cap) (.slice A l cap) bs) := Lib.hid (hR.below hP1.bel (by rw [hB]; exact Nat.le_refl _))
 have HRW := Lib.hid hR
 have HB := Lib.hid hB
 have HL := Lib.hid hl
 clear hP0 hP1 hR hB hl
 rcases Nat.decEq c 111 with h1 | h1
 ·rcases Nat.decEq c 116 with h2 | h2
  ·have b1 : ((c : Int) == 111) = false := by simp; omega
   have b2 : ((c : Int) == 116) = false := by simp; omega
   have HV : Oc.fits c n l = (decide (0 ≤ n) && decide (n ≤ Oc.most c)) := by unfold Oc.fits; rw [if_neg h1, if_neg h2]
   rw [hf] at HV
   have hn0 : 0 ≤ n := by by_cases h : 0 ≤ n; exact h; rw [decide_eq_false h, Bool.false_and] at HV; cases HV
   have hn1 : n ≤ 4611686018427387903 := by
    have hm := Oc.most_le c
    by_cases h : n ≤ Oc.most c
    ·omega
    ·rw [decide_eq_false h, Bool.and_false] at HV; cases HV
   clear HV
   obtain ⟨m, rfl⟩ := Int.eq_ofNat_of_zero_le hn0
   obtain ⟨s, hs, hs8⟩ := Oc.nsize_nat c
   have C1 := number_any c
   have HE := Lib.hid (enc_num (bs := bs) h1 h2 hs rfl (n := (m : Int)))
   rw [hs] at C1
   generalize Oc.most c = mx at C1
   have C2 := putNumber_any v0 ys0 B s m wb (boxF w (m : Int) A l cap) HB.out HP1.out hs8 (by omega) (by omega)
   clear hs
   go_enter Tryz.func108, Tryz.ntmps108
   go_wp2_with (first | (go_at_call 138; refine (C1 _).mono ?_; rintro e w' ⟨rfl, rfl⟩) | (go_at_call 139; refine C2.mono ?_; rintro e w' ⟨v', rfl, hp, ho⟩; have HP2 := Lib.hid hp; have HO2 := Lib.hid ho; clear hp ho))
   go_ret
   exact ⟨_, rfl, by rw [HE.out]; exact HP2.out, HO1.out.trans HO2.out⟩
  ·subst h2
   have HE : Hid (Oc.enc 116 n bs = Oc.nums 2 bs.length ++ bs) := Lib.hid rfl
   have hl6 : l ≤ 65535 := of_decide_eq_true hf
   have hPd : Pad B wb v0 ys0 (boxF w n A l cap).drew := ⟨HP1.out.own.drew, below_drewN HP1.out.bel 1⟩
   have HS : Hid ((boxF w n A l cap).drew.cell? ⟨w.heap.size, 1, none⟩ = some (.slice A l cap)) := Lib.hid (by simp)
   have C2 := putNumber_any v0 ys0 B 2 l wb (boxF w n A l cap).drew HB.out hPd (by omega) (by omega) (by omega)
   rw [show ((2 : Nat) : Int) = 2 from rfl] at C2
   go_enter Tryz.func108, Tryz.ntmps108
   go_wp2_with fail
   refine wp_region_held (S := (fun w' => w'.cell? ⟨w.heap.size, 1, none⟩ = some (.slice A l cap))) (by kernel_rfl) ?_
   change wpAnyH _ _ _ _ _ _ _ _ (boxF w n A l cap).drew
   refine wpAnyH_take (i := 0) (v := ?_) rfl (by kernel_rfl) (by kernel_rfl) (by kernel_rfl) (fun _ _ _ h => h) (Or.inl ⟨by rfl, ?_⟩) (HS.out) ?_
   rotate_left
   ·intro w _; go_simp; with_reducible rfl
   try simp only [Act.put, List.getElem_toArray, List.getElem_cons_zero, List.setIfInBounds_toArray, List.set_cons_zero, List.set_cons_succ]
   refine wpAnyH_take (i := 1) (v := ?_) rfl (by kernel_rfl) (by kernel_rfl) (by kernel_rfl) (fun _ _ _ h => h) (Or.inl ⟨by rfl, ?_⟩) (HS.out) ?_
   rotate_left
   ·intro w _; go_simp; with_reducible rfl
   try simp only [Act.put, List.getElem_toArray, List.getElem_cons_zero, List.getElem_cons_succ, List.setIfInBounds_toArray, List.set_cons_zero, List.set_cons_succ]
   refine wpAnyH_take (i := 2) (v := ?_) rfl (by kernel_rfl) (by kernel_rfl) (by kernel_rfl) (fun _ _ _ h => h) (Or.inl ⟨by rfl, ?_⟩) (HS.out) ?_
   rotate_left
   ·intro w' hw; go_simp; with_reducible rfl
   try simp only [Act.put, List.getElem_toArray, List.getElem_cons_zero, List.getElem_cons_succ, List.setIfInBounds_toArray, List.set_cons_zero, List.set_cons_succ]
   refine wpAnyH_take (i := 3) (v := ?_) rfl (by kernel_rfl) (by kernel_rfl) (by kernel_rfl) (fun _ _ _ h => h) (Or.inl ⟨by rfl, ?_⟩) (HS.out) ?_
   rotate_left
   ·intro w _; go_simp; with_reducible rfl
   try simp only [Act.put, List.getElem_toArray, List.getElem_cons_zero, List.getElem_cons_succ, List.setIfInBounds_toArray, List.set_cons_zero, List.set_cons_succ]
   refine wpAnyH_take (i := 5) (v := ?_) rfl (by kernel_rfl) (by kernel_rfl) (by kernel_rfl) (fun _ _ _ h => h) (Or.inl ⟨by rfl, ?_⟩) (HS.out) ?_
   rotate_left
   ·intro w _; go_simp; with_reducible rfl
   try simp only [Act.put, List.getElem_toArray, List.getElem_cons_zero, List.getElem_cons_succ, List.setIfInBounds_toArray, List.set_cons_zero, List.set_cons_succ]
   refine wpAnyH_take (i := 6) (v := ?_) rfl (by kernel_rfl) (by kernel_rfl) (by kernel_rfl) (fun _ _ _ h => h) (Or.inl ⟨by rfl, ?_⟩) (HS.out) ?_
   rotate_left
   ·intro w' hw; go_simp; with_reducible rfl
   try simp only [Act.put, List.getElem_toArray, List.getElem_cons_zero, List.getElem_cons_succ, List.setIfInBounds_toArray, List.set_cons_zero, List.set_cons_succ]
   refine all_one (i := 4) (by kernel_rfl) rfl (by rfl) (fun K hK => ?_)
   go_simp
   refine (C2).mono ?_
   rintro e w' ⟨v', rfl, hp, ho⟩
   have HP2 := Lib.hid hp
   have HO2 := Lib.hid ho
   clear hp ho
   dsimp only
   have HR2 : Hid (Rd w' (.slice A l cap) bs) := Lib.hid (HRW.out.below HP2.out.bel (by rw [HB.out]; exact Nat.le_refl _))
   have HZ : Hid ((ys0 ++ Oc.nums 2 l).length + bs.length ≤ 70368744177664) := Lib.hid (by rw [List.length_append, Oc.nums_len, HL.out]; omega)
   refine hK _ _ (Blk.cell (HO2.out _ _ _ _ (by decide) (Blk.new w _ _)) 1) ?_
   clear hK K
   try simp only [Act.put, List.getElem_toArray, List.getElem_cons_zero, List.getElem_cons_succ, List.setIfInBounds_toArray, List.set_cons_zero, List.set_cons_succ]
   refine all_one (i := 7) (by kernel_rfl) rfl (by rfl) (fun K hK => ?_)
   refine wp_appendB (.tmp 22) (.tmp 24) rfl B v' _ rfl HP2.out.own (HB.out ▸ HP2.out.bel.size) _ rfl bs HR2.out HZ.out ?_
   intro v2 w2 ho2 hg2
   have HP3 : Hid (Pad B wb v2 (ys0 ++ Oc.nums 2 l ++ bs) w2) := Lib.hid ⟨ho2, below_ownB HB.out HP2.out.bel HP2.out.own hg2⟩
   have HO3 : Hid (Others (boxF w n A l cap) w2) := Lib.hid (HO2.out.own HP2.out.own hg2)
   clear ho2 hg2
   refine hK _ _ (Blk.cell (HO3.out _ _ _ _ (by decide) (Blk.new w _ _)) 1) ?_
   clear hK K
   try simp only [Act.put, List.getElem_toArray, List.getElem_cons_zero, List.getElem_cons_succ, List.setIfInBounds_toArray, List.set_cons_zero, List.set_cons_succ]
   refine wpAnyH_take (i := 8) (v := ?_) rfl (by kernel_rfl) (by kernel_rfl) (by kernel_rfl) (fun _ _ _ h => h) (Or.inl ⟨by rfl, ?_⟩) (Blk.cell (HO3.out _ _ _ _ (by decide) (Blk.new w _ _)) 1) ?_
   rotate_left
   ·intro w' hw; go_simp; with_reducible rfl
   try simp only [Act.put, List.getElem_toArray, List.getElem_cons_zero, List.getElem_cons_succ, List.setIfInBounds_toArray, List.set_cons_zero, List.set_cons_succ]
   refine wpAnyH_done (by kernel_rfl) ?_ _
   go_wp2
   go_ret
   exact ⟨_, rfl, by rw [HE.out, ← List.append_assoc, HL.out]; exact HP3.out, HO1.out.trans HO3.out⟩
 ·subst h1
  have HE : Hid (Oc.enc 111 n bs = bs) := Lib.hid rfl
  have HZ : Hid (ys0.length + bs.length ≤ 70368744177664) := Lib.hid (by have : l = 32 := of_decide_eq_true hf; rw [HL.out]; omega)
  go_enter Tryz.func108, Tryz.ntmps108
  go_wp2_with (refine wpList_appendB rfl (.tmp 12) (.tmp 14) rfl B _ ys0 rfl HP1.out.own (HB.out ▸ HP1.out.bel.size) _ rfl bs HR1.out HZ.out ?_; intro v2 w2 ho2 hg2; have HP2 : Hid (Pad B wb v2 (ys0 ++ bs) w2) := Lib.hid ⟨ho2, below_ownB HB.out HP1.out.bel HP1.out.own hg2⟩; have HO2 : Hid (Others w w2) := Lib.hid (HO1.out.own HP1.out.own hg2); clear ho2 hg2)
  go_ret
  exact ⟨_, rfl, by rw [HE.out]; exact HP2.out, HO2.out⟩
end Go.Proofs.YtgcgomdhdgjpdaaGreatDoor
/- errors.Is at the error values of package api, and the walk of cartagenum.Num: the number of such an error. -/
namespace Go.Proofs.YtgcgomdhdgjpdaaGreatDoor
open Go Go.RowKit Go.Extern.Stop Go.Stop Go.Extern Go.WideShapes Go.ChangeShapes
abbrev ev (a : Addr) : Value := .iface 275 (.pointer (some a))
def sgs : List Nat := [2, 3, 4, 0, 5, 6, 7, 8, 9, 10, 11, 12, 13, 14, 15, 16, 17, 1, 18, 19, 20, 21]
def stexts : List (List UInt8) := [[97, 32, 110, 117, 109, 98, 101, 114, 32, 105, 115, 32, 111, 117, 116, 32, 111, 102, 32, 105, 116, 115, 32, 114, 97, 110, 103, 101], [115, 111, 109, 101, 116, 104, 105, 110, 103, 32, 105, 115, 32, 109, 105, 115, 115, 105, 110, 103, 32, 97, 116, 32, 116, 104, 101, 32, 101, 110, 100], [116, 104, 101, 114, 101, 32, 105, 115, 32, 109, 111, 114, 101, 32, 116, 104, 97, 110, 32, 109, 97, 121, 32, 98, 101], [105, 116, 32, 105, 115, 32, 110, 111, 116, 32, 111, 102, 32, 105, 116, 115, 32, 102, 111, 114, 109], [116, 104, 101, 32, 115, 117, 109, 32, 105, 115, 32, 110, 111, 116, 32, 114, 105, 103, 104, 116], [105, 116, 32, 105, 115, 32, 110, 111, 32, 114, 105, 103, 104, 116, 32, 110, 97, 109, 101], [105, 116, 32, 105, 115, 32, 111, 102, 32, 97, 110, 111, 116, 104, 101, 114, 32, 107, 105, 110, 100], [105, 116, 32, 103, 111, 101, 115, 32, 116, 111, 111, 32, 100, 101, 101, 112], [97, 110, 32, 111, 98, 106, 101, 99, 116, 32, 105, 115, 32, 109, 105, 115, 115, 105, 110, 103], [97, 32, 114, 101, 102, 32, 105, 115, 32, 110, 111, 116, 32, 119, 104, 97, 116, 32, 119, 97, 115, 32, 101, 120, 112, 101, 99, 116, 101, 100], [116, 104, 101, 32, 100, 105, 115, 107, 32, 104, 97, 115, 32, 110, 111, 32, 114, 111, 111, 109], [116, 104, 101, 32, 113, 117, 101, 117, 101, 32, 104, 97, 115, 32, 110, 111, 32, 114, 111, 111, 109], [105, 116, 32, 105, 115, 32, 116, 111, 111, 32, 108, 97, 114, 103, 101], [116, 104, 101, 114, 101, 32, 105, 115, 32, 110, 111, 32, 115, 117, 99, 104, 32, 114, 101, 112, 111, 115, 105, 116, 111, 114, 121], [116, 104, 101, 114, 101, 32, 105, 115, 32, 115, 117, 99, 104, 32, 97, 32, 114, 101, 112, 111, 115, 105, 116, 111, 114, 121, 32, 97, 108, 114, 101, 97, 100, 121], [105, 116, 32, 105, 115, 32, 110, 111, 116, 32, 97, 118, 97, 105, 108, 97, 98, 108, 101, 32, 110, 111, 119], [110, 111, 98, 111, 100, 121, 32, 97, 110, 115, 119, 101, 114, 101, 100, 32, 105, 110, 32, 116, 105, 109, 101], [116, 104, 101, 32, 101, 112, 111, 99, 104, 32, 105, 115, 32, 110, 111, 116, 32, 116, 104, 101, 32, 99, 117, 114, 114, 101, 110, 116, 32, 111, 110, 101], [105, 116, 32, 99, 97, 110, 32, 110, 111, 116, 32, 98, 101, 32, 100, 111, 110, 101, 32, 105, 110, 32, 116, 104, 105, 115, 32, 115, 116, 97, 116, 101], [105, 116, 32, 105, 115, 32, 116, 104, 101, 114, 101, 32, 97, 108, 114, 101, 97, 100, 121], [116, 104, 101, 114, 101, 32, 105, 115, 32, 110, 111, 110, 101], [116, 104, 101, 114, 101, 32, 97, 114, 101, 32, 97, 115, 32, 109, 97, 110, 121, 32, 97, 115, 32, 109, 97, 121, 32, 98, 101]]
structure SentAt (w : World) (g : Nat) (t : List UInt8) (a : Addr) : Prop where
 var : w.cell? ⟨g, 0, none⟩ = some (ev a)
 row : ∃ c tt, w.heap[a.block]? = some (.cells c tt (0, 0))
 txt : ∃ s : ByteArray, w.cell? a = some (.string s) ∧ s.data.toList = t
theorem SentAt.lt {w : World} {g : Nat} {t : List UInt8} {a : Addr} (h : SentAt w g t a) : g < w.heap.size := block_lt_of_cell h.var
theorem SentAt.lt2 {w : World} {g : Nat} {t : List UInt8} {a : Addr} (h : SentAt w g t a) : a.block < w.heap.size := by
 obtain ⟨c, tt, h⟩ := h.row
 exact (Array.getElem?_eq_some_iff.1 h).1
theorem SentAt.below {w w' : World} {g : Nat} {t : List UInt8} {a : Addr} (h : SentAt w g t a) {B : Nat} (hb : Below B w w') (hB : w.heap.size ≤ B) : SentAt w' g t a := by
 have l1 := h.lt
 have l2 := h.lt2
 obtain ⟨c, tt, hr⟩ := h.row
 obtain ⟨s, hs, ht⟩ := h.txt
 exact ⟨(hb.cell (p := ⟨g, 0, none⟩) (by show g < B; omega)).trans h.var, ⟨c, tt, (hb.block a.block (by omega)).trans hr⟩, ⟨s, (hb.cell (p := a) (by omega)).trans hs, ht⟩⟩
theorem SentAt.ne {w : World} {g g' : Nat} {t t' : List UInt8} {a a' : Addr} (h : SentAt w g t a) (h' : SentAt w g' t' a') (ht : t ≠ t') : a ≠ a' := by
 rintro rfl
 obtain ⟨s, hs, e⟩ := h.txt
 obtain ⟨s', hs', e'⟩ := h'.txt
 have := hs.symm.trans hs'
 injection this with this
 injection this with this
 subst this
 exact ht (e.symm.trans e')
def Sents (w : World) (a : Nat → Addr) : Prop := ∀ k, k < 22 → SentAt w (sgs.getD k 0) (stexts.getD k []) (a k)
theorem Sents.below {w w' : World} {a : Nat → Addr} (h : Sents w a) {B : Nat} (hb : Below B w w') (hB : w.heap.size ≤ B) : Sents w' a := fun k hk => (h k hk).below hb hB
theorem stexts_ne : ∀ j : Fin 22, ∀ k : Fin 22, j ≠ k → stexts.getD j.val [] ≠ stexts.getD k.val [] := by decide +kernel
theorem Sents.ne {w : World} {a : Nat → Addr} (h : Sents w a) {j k : Nat} (hj : j < 22) (hk : k < 22) (hne : j ≠ k) : a j ≠ a k :=
 (h j hj).ne (h k hk) (stexts_ne ⟨j, hj⟩ ⟨k, hk⟩ (fun e => hne (by injection e)))
theorem laidMet_at {P : Program} : ∀ {l : List (String × DataW Unit)} {w : World} (i : Nat) {x : String × DataW Unit}, laidMet P l w → l[i]? = some x → ∃ r, laidMet P (x :: r) w
 | y :: r, w, 0, x, h, hx => by obtain rfl := Option.some.inj hx; exact ⟨r, h⟩
 | y :: r, w, i + 1, x, h, hx => laidMet_at i h.tail hx
theorem ev_under : Tryz.prog.underlying 275 = some (.pointer 297) := Tryz.underlying275
theorem ev_star : "*" ++ "errors.errorString" = "*errors.errorString" := by decide
theorem ev_row (u : TypeId) (h : Tryz.prog.typeName? 3 u = some "*errors.errorString") : u = 275 :=
 typeName_ptr_named (nm := "errors.errorString") (by rw [ev_star]; kernel_rfl) (by kernel_rfl) (by decide) u (by rw [ev_star]; exact h)
set_option maxRecDepth 100000 in
theorem sent_of_laid {n : String} {text : List UInt8} {r : List (String × DataW Unit)} {W : World} {g : Nat}
  (h : laidMet Tryz.prog ((n, .iface "*errors.errorString" (.ptr (.agg [.lit (.string text)]))) :: r) W)
  (hg : Tryz.prog.globalNamed n = some g) (ht : (Tryz.prog.globals[g]?).map (·.type) = some 35) : ∃ a, SentAt W g text a := by
 obtain ⟨f, hf, hft, hfo⟩ : ∃ f : Field, Tryz.prog.underlying 297 = some (.struct #[f]) ∧ f.type = 9 ∧ f.offset = 0 := ⟨_, Tryz.underlying297, by kernel_rfl, by kernel_rfl⟩
 have hc : Tryz.prog.cellsOf 297 = 1 := by kernel_rfl
 have hcs : Tryz.prog.cellsOf 9 = 1 := by kernel_rfl
 obtain ⟨ps, ⟨g0, t0, cs0, f0, p0, q0, hg0, ht0, hv0, hd0, _, e0⟩, _, hrows⟩ := h
 obtain rfl := Option.some.inj (hg.symm.trans hg0)
 obtain rfl := Option.some.inj (ht.symm.trans ht0)
 subst e0
 have hvar := fun (i : Nat) => World.var?_cell hg0 hv0 i
 obtain ⟨l0⟩ := cs0
 have ok0 : ∀ u v, l0 = [.iface u v] → Value.okWide Tryz.prog W .any 0 u v := fun u v e => by
  subst e
  exact (hrows g 0 (by simp [MemPlace.row])).2 u v (by simpa using World.var?_cell hg0 hv0 0)
 obtain ⟨a0, s0, rfl, hc0, hs0, hz0, rfl⟩ := errorString_of_trod Tryz.underlying35 ev_row ev_under hf hft hfo Tryz.underlying9 hc hcs hd0 ok0
 obtain ⟨c0, tt0, hb0⟩ := (hrows a0.block a0.off (by simp [MemPlace.row])).1
 exact ⟨a0, ⟨by simpa using hvar 0, ⟨c0, tt0, hb0⟩, ⟨s0, hc0, hs0⟩⟩⟩
end Go.Proofs.YtgcgomdhdgjpdaaGreatDoor
