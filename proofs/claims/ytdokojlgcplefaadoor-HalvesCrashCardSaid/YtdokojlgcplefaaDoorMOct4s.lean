/- The bytes of one field of layer 2 (octets.put). -/
import Derived.Test.YtdokojlgcplefaaDoorMLawOpen3s
import Derived.Test.YtdokojlgcplefaaDoorMLawKits
import Derived.Laws.AppendOwn
namespace Go.Proofs.YtdokojlgcplefaaDoor
open Go Go.RowKit
theorem wp_appendB {o : Oper} {a : Act} {w : World} {K : Act → World → Prop} {Q : Exit → Act → World → Prop} (s x : Operand)
  (ho : o.op = .call { callee := .builtin .append, args := #[s, x], argTypes := #[39, 39] }) (base : Nat) (v : Value) (ys : List Nat) (hs : a.eval s = v) (hown : w.ownsRow base 5 1 v ys.length (cellsB ys)) (hbase : base ≤ w.heap.size)
  (u : Value) (hx : a.eval x = u) (xs : List Nat) (hu : Rd w u xs) (hz : ys.length + xs.length ≤ 70368744177664)
  (h : ∀ v' w', w'.ownsRow base 5 1 v' (ys ++ xs).length (cellsB (ys ++ xs)) → w.grownBy w' v.ownBlock → K (a.put o.dst v') w') : o.wp Tryd.prog a w K Q := by
 obtain ⟨i0, hi0, hiz, his, hib⟩ := info_parts byte_info
 obtain ⟨A, c, rfl, hc, hA⟩ := hu
 have e0 : cellsB ys ++ cellsB xs = cellsB (ys ++ xs) := by simp [cellsB]
 cases A with
 | some ad =>
  refine wp_append_own w s x 39 ho base 5 i0 _ 1 1 Tryd.underlying39 hi0 hiz his hib rfl (by decide) v ys.length (cellsB ys) hs hown ad xs.length c (cellsB xs) hx (by rw [cellsB_len, Nat.mul_one]) ?_ (cellsB_one _) (by unfold maxLen; omega) (by omega) hbase ?_
  ·intro j t hj
   have hjl : j < xs.length := by have := (List.getElem?_eq_some_iff.1 hj).1; rwa [cellsB_len] at this
   obtain ⟨b, o', ha, _, hxx⟩ := hA (by omega)
   obtain rfl := Option.some.inj ha
   rw [cellsB_get hjl] at hj
   rw [Addr.add_mid, hxx j hjl, hj]
  ·intro v' w' h1 h2 _
   rw [e0, ← List.length_append] at h1
   exact h v' w' h1 h2
 | none =>
  have hn : xs.length = 0 := by
   rcases Nat.eq_zero_or_pos xs.length with h0 | h0
   ·exact h0
   ·obtain ⟨b, o', ha, _⟩ := hA h0
    cases ha
  have e : xs = [] := List.eq_nil_of_length_eq_zero hn
  subst e
  have hrun : ∀ ty, (Builtin.append_ #[39, 39] ty #[v, .slice none 0 c]).run Tryd.prog w = .ok v w := fun ty => by
   rcases hown.2 with ⟨hv, hn0⟩ | ⟨g, cap, cur, hv, _, _, hnc, _⟩
   ·rw [hv]
    simp [Builtin.append_, run_underlying Tryd.underlying39, sizeOf, typeInfo, hi0, Builtin.lenOf, Builtin.firstCells]
   ·rw [hv]
    simp [Builtin.append_, run_underlying Tryd.underlying39, sizeOf, typeInfo, hi0, Builtin.lenOf, Builtin.firstCells, hnc, storeCells]
  unfold Oper.wp execOp
  simp only [ho, resolve, invoke, builtin, Sem.run_bind, Sem.run_pure, Result.andThen_ok, List.map_toArray, List.map_cons, List.map_nil, hs, hx]
  rw [show ([] : List Nat).length = 0 from rfl, hrun]
  exact h _ _ (by rw [List.append_nil]; exact hown) (World.grownBy.refl w _)
theorem enc_num {c : Nat} {n : Int} {bs : List Nat} (h1 : c ≠ 111) (h2 : c ≠ 116) {s m : Nat} (hs : Oc.nsize c = s) (hm : n = (m : Int)) : Oc.enc c n bs = Oc.nums s m := by
 subst hm
 unfold Oc.enc
 rw [if_neg h1, if_neg h2, hs]
 rfl
abbrev boxF (w : World) (n : Int) (A : Option Addr) (l cap : Nat) : World := w.alloc (.cells #[.int .i64 n, .slice A l cap] 91)
set_option maxRecDepth 100000 in
theorem put_any (c : Nat) (n : Int) (A : Option Addr) (l cap : Nat) (bs : List Nat) (v0 : Value) (ys0 : List Nat) (B : Nat) (wb w : World) (hB : wb.heap.size = B) (hP0 : Pad B wb v0 ys0 w) (hR : Rd wb (.slice A l cap) bs) (hl : bs.length = l) (hf : Oc.fits c n l = true) (hz : ys0.length ≤ 549755813888) :
  Calls Tryd.prog 68 #[v0, .int .u8 ((c : Nat) : Int), .agg #[.int .i64 n, .slice A l cap]] w fun e w' => ∃ v', e = .returned v' ∧ Pad B wb v' (ys0 ++ Oc.enc c n bs) w' ∧ Others w w' := by
 have hP1 : Pad B wb v0 ys0 (boxF w n A l cap) := ⟨ownsRow_alloc hP0.own _, hP0.bel.alloc (hB ▸ hP0.bel.size) _⟩
 have HP1 := Lib.hid hP1
 have HO1 : Hid (Others w (boxF w n A l cap)) := Lib.hid ((Others.refl w).alloc _)
 have HR1 : Hid (Rd (boxF w n A l cap) (.slice A l cap) bs) := Lib.hid (hR.below hP1.bel (by rw [hB]; exact Nat.le_refl _))
 have HRW := Lib.hid hR
 have HB := Lib.hid hB
 have HL := Lib.hid hl
 clear hP0 hP1 hR hB hl
 rcases Nat.decEq c 111 with h1 | h1
 ·rcases Nat.decEq c 116 with h2 | h2
  ·have b1 : ((c : Int) == 111) = false := by simp; omega
   have b2 : ((c : Int) == 116) = false := by simp; omega
   have HV : Oc.fits c n l = (decide (0 ≤ n) && decide (n ≤ Oc.most c)) := by unfold Oc.fits; rw [if_neg h1, if_neg h2]
   rw [hf] at HV
   have hn0 : 0 ≤ n := by by_cases h : 0 ≤ n; exact h; rw [decide_eq_false h, Bool.false_and] at HV; cases HV
   have hn1 : n ≤ 4611686018427387903 := by
    have hm := Oc.most_le c
    by_cases h : n ≤ Oc.most c
    ·omega
    ·rw [decide_eq_false h, Bool.and_false] at HV; cases HV
   clear HV
   obtain ⟨m, rfl⟩ := Int.eq_ofNat_of_zero_le hn0
   obtain ⟨s, hs, hs8⟩ := Oc.nsize_nat c
   have C1 := number_any c
   have HE := Lib.hid (enc_num (bs := bs) h1 h2 hs rfl (n := (m : Int)))
   rw [hs] at C1
   generalize Oc.most c = mx at C1
   have C2 := putNumber_any v0 ys0 B s m wb (boxF w (m : Int) A l cap) HB.out HP1.out hs8 (by omega) (by omega)
   clear hs
   go_enter Tryd.func68, Tryd.ntmps68
   go_wp2_with (first | (go_at_call 80; refine (C1 _).mono ?_; rintro e w' ⟨rfl, rfl⟩) | (go_at_call 81; refine C2.mono ?_; rintro e w' ⟨v', rfl, hp, ho⟩; have HP2 := Lib.hid hp; have HO2 := Lib.hid ho; clear hp ho))
   go_ret
   exact ⟨_, rfl, by rw [HE.out]; exact HP2.out, HO1.out.trans HO2.out⟩
  ·subst h2
   have HE : Hid (Oc.enc 116 n bs = Oc.nums 2 bs.length ++ bs) := Lib.hid rfl
   have hl6 : l ≤ 65535 := of_decide_eq_true hf
   have hPd : Pad B wb v0 ys0 (boxF w n A l cap).drew := ⟨HP1.out.own.drew, below_drewN HP1.out.bel 1⟩
   have HS : Hid ((boxF w n A l cap).drew.cell? ⟨w.heap.size, 1, none⟩ = some (.slice A l cap)) := Lib.hid (by simp)
   have C2 := putNumber_any v0 ys0 B 2 l wb (boxF w n A l cap).drew HB.out hPd (by omega) (by omega) (by omega)
   rw [show ((2 : Nat) : Int) = 2 from rfl] at C2
   go_enter Tryd.func68, Tryd.ntmps68
   go_wp2_with fail
   refine wp_region_held (S := (fun w' => w'.cell? ⟨w.heap.size, 1, none⟩ = some (.slice A l cap))) (by kernel_rfl) ?_
   change wpAnyH _ _ _ _ _ _ _ _ (boxF w n A l cap).drew
   refine wpAnyH_take (i := 0) (v := ?_) rfl (by kernel_rfl) (by kernel_rfl) (by kernel_rfl) (fun _ _ _ h => h) (Or.inl ⟨by rfl, ?_⟩) (HS.out) ?_
   rotate_left
   ·intro w _; go_simp; with_reducible rfl
   try simp only [Act.put, List.getElem_toArray, List.getElem_cons_zero, List.setIfInBounds_toArray, List.set_cons_zero, List.set_cons_succ]
   refine wpAnyH_take (i := 1) (v := ?_) rfl (by kernel_rfl) (by kernel_rfl) (by kernel_rfl) (fun _ _ _ h => h) (Or.inl ⟨by rfl, ?_⟩) (HS.out) ?_
   rotate_left
   ·intro w _; go_simp; with_reducible rfl
   try simp only [Act.put, List.getElem_toArray, List.getElem_cons_zero, List.getElem_cons_succ, List.setIfInBounds_toArray, List.set_cons_zero, List.set_cons_succ]
   refine wpAnyH_take (i := 2) (v := ?_) rfl (by kernel_rfl) (by kernel_rfl) (by kernel_rfl) (fun _ _ _ h => h) (Or.inl ⟨by rfl, ?_⟩) (HS.out) ?_
   rotate_left
   ·intro w' hw; go_simp; with_reducible rfl
   try simp only [Act.put, List.getElem_toArray, List.getElem_cons_zero, List.getElem_cons_succ, List.setIfInBounds_toArray, List.set_cons_zero, List.set_cons_succ]
   refine wpAnyH_take (i := 3) (v := ?_) rfl (by kernel_rfl) (by kernel_rfl) (by kernel_rfl) (fun _ _ _ h => h) (Or.inl ⟨by rfl, ?_⟩) (HS.out) ?_
   rotate_left
   ·intro w _; go_simp; with_reducible rfl
   try simp only [Act.put, List.getElem_toArray, List.getElem_cons_zero, List.getElem_cons_succ, List.setIfInBounds_toArray, List.set_cons_zero, List.set_cons_succ]
   refine wpAnyH_take (i := 5) (v := ?_) rfl (by kernel_rfl) (by kernel_rfl) (by kernel_rfl) (fun _ _ _ h => h) (Or.inl ⟨by rfl, ?_⟩) (HS.out) ?_
   rotate_left
   ·intro w _; go_simp; with_reducible rfl
   try simp only [Act.put, List.getElem_toArray, List.getElem_cons_zero, List.getElem_cons_succ, List.setIfInBounds_toArray, List.set_cons_zero, List.set_cons_succ]
   refine wpAnyH_take (i := 6) (v := ?_) rfl (by kernel_rfl) (by kernel_rfl) (by kernel_rfl) (fun _ _ _ h => h) (Or.inl ⟨by rfl, ?_⟩) (HS.out) ?_
   rotate_left
   ·intro w' hw; go_simp; with_reducible rfl
   try simp only [Act.put, List.getElem_toArray, List.getElem_cons_zero, List.getElem_cons_succ, List.setIfInBounds_toArray, List.set_cons_zero, List.set_cons_succ]
   refine all_one (i := 4) (by kernel_rfl) rfl (by rfl) (fun K hK => ?_)
   go_simp
   refine (C2).mono ?_
   rintro e w' ⟨v', rfl, hp, ho⟩
   have HP2 := Lib.hid hp
   have HO2 := Lib.hid ho
   clear hp ho
   dsimp only
   have HR2 : Hid (Rd w' (.slice A l cap) bs) := Lib.hid (HRW.out.below HP2.out.bel (by rw [HB.out]; exact Nat.le_refl _))
   have HZ : Hid ((ys0 ++ Oc.nums 2 l).length + bs.length ≤ 70368744177664) := Lib.hid (by rw [List.length_append, Oc.nums_len, HL.out]; omega)
   refine hK _ _ (Blk.cell (HO2.out _ _ _ _ (by decide) (Blk.new w _ _)) 1) ?_
   clear hK K
   try simp only [Act.put, List.getElem_toArray, List.getElem_cons_zero, List.getElem_cons_succ, List.setIfInBounds_toArray, List.set_cons_zero, List.set_cons_succ]
   refine all_one (i := 7) (by kernel_rfl) rfl (by rfl) (fun K hK => ?_)
   refine wp_appendB (.tmp 22) (.tmp 24) rfl B v' _ rfl HP2.out.own (HB.out ▸ HP2.out.bel.size) _ rfl bs HR2.out HZ.out ?_
   intro v2 w2 ho2 hg2
   have HP3 : Hid (Pad B wb v2 (ys0 ++ Oc.nums 2 l ++ bs) w2) := Lib.hid ⟨ho2, below_ownB HB.out HP2.out.bel HP2.out.own hg2⟩
   have HO3 : Hid (Others (boxF w n A l cap) w2) := Lib.hid (HO2.out.own HP2.out.own hg2)
   clear ho2 hg2
   refine hK _ _ (Blk.cell (HO3.out _ _ _ _ (by decide) (Blk.new w _ _)) 1) ?_
   clear hK K
   try simp only [Act.put, List.getElem_toArray, List.getElem_cons_zero, List.getElem_cons_succ, List.setIfInBounds_toArray, List.set_cons_zero, List.set_cons_succ]
   refine wpAnyH_take (i := 8) (v := ?_) rfl (by kernel_rfl) (by kernel_rfl) (by kernel_rfl) (fun _ _ _ h => h) (Or.inl ⟨by rfl, ?_⟩) (Blk.cell (HO3.out _ _ _ _ (by decide) (Blk.new w _ _)) 1) ?_
   rotate_left
   ·intro w' hw; go_simp; with_reducible rfl
   try simp only [Act.put, List.getElem_toArray, List.getElem_cons_zero, List.getElem_cons_succ, List.setIfInBounds_toArray, List.set_cons_zero, List.set_cons_succ]
   refine wpAnyH_done (by kernel_rfl) ?_ _
   go_wp2
   go_ret
   exact ⟨_, rfl, by rw [HE.out, ← List.append_assoc, HL.out]; exact HP3.out, HO1.out.trans HO3.out⟩
 ·subst h1
  have HE : Hid (Oc.enc 111 n bs = bs) := Lib.hid rfl
  have HZ : Hid (ys0.length + bs.length ≤ 70368744177664) := Lib.hid (by have : l = 32 := of_decide_eq_true hf; rw [HL.out]; omega)
  go_enter Tryd.func68, Tryd.ntmps68
  go_wp2_with (refine wpList_appendB rfl (.tmp 12) (.tmp 14) rfl B _ ys0 rfl HP1.out.own (HB.out ▸ HP1.out.bel.size) _ rfl bs HR1.out HZ.out ?_; intro v2 w2 ho2 hg2; have HP2 : Hid (Pad B wb v2 (ys0 ++ bs) w2) := Lib.hid ⟨ho2, below_ownB HB.out HP1.out.bel HP1.out.own hg2⟩; have HO2 : Hid (Others w w2) := Lib.hid (HO1.out.own HP1.out.own hg2); clear ho2 hg2)
  go_ret
  exact ⟨_, rfl, by rw [HE.out]; exact HP2.out, HO2.out⟩
end Go.Proofs.YtdokojlgcplefaaDoor
/- Fields of layer 2 as bytes: octets.Write. -/
namespace Go.Proofs.YtdokojlgcplefaaDoor
open Go Go.RowKit
structure Fld where
 n : Int
 A : Option Addr
 l : Nat
 c : Nat
 bs : List Nat
structure FRow (w : World) (b o : Nat) (fs : List Fld) : Prop where
 n : ∀ i (h : i < fs.length), w.cell? ⟨b, o + 2 * i, none⟩ = some (.int .i64 fs[i].n)
 s : ∀ i (h : i < fs.length), w.cell? ⟨b, o + 2 * i + 1, none⟩ = some (.slice fs[i].A fs[i].l fs[i].c)
 r : ∀ f ∈ fs, Rd w (.slice f.A f.l f.c) f.bs ∧ f.bs.length = f.l
 lt : b < w.heap.size
theorem FRow.below {w w' : World} {B b o : Nat} {fs : List Fld} (h : FRow w b o fs) (hb : Below B w w') (hB : w.heap.size ≤ B) : FRow w' b o fs :=
 have e : ∀ i, w'.cell? ⟨b, i, none⟩ = w.cell? ⟨b, i, none⟩ := fun _i => World.cell?_of_block (hb.block b (Nat.lt_of_lt_of_le h.lt hB))
 ⟨fun i hi => (e _).trans (h.n i hi), fun i hi => (e _).trans (h.s i hi), fun f hf => ⟨(h.r f hf).1.below hb hB, (h.r f hf).2⟩, Nat.lt_of_lt_of_le h.lt hb.size⟩
namespace Oc
def okTo (s : List UInt8) (fs : List Fld) (k : Nat) : Prop := ∀ i (h1 : i < s.length) (h2 : i < fs.length), i < k → fits s[i].toNat fs[i].n fs[i].l = true
def encs : List UInt8 → List Fld → List Nat
 | c :: s, f :: fs => enc c.toNat f.n f.bs ++ encs s fs
 | _, _ => []
theorem encs_take : ∀ (s : List UInt8) (fs : List Fld) (k : Nat) (h1 : k < s.length) (h2 : k < fs.length), encs (s.take (k + 1)) (fs.take (k + 1)) = encs (s.take k) (fs.take k) ++ enc s[k].toNat fs[k].n fs[k].bs
 | c :: s, f :: fs, 0, _, _ => by simp [encs]
 | c :: s, f :: fs, k + 1, h1, h2 => by
  have := encs_take s fs k (by simpa using h1) (by simpa using h2)
  simp [encs, this]
theorem enc_len (c : Nat) (n : Int) (bs : List Nat) (h : bs.length ≤ 1000) : (enc c n bs).length ≤ 1010 := by
 unfold enc
 by_cases h1 : c = 111
 ·rw [if_pos h1]; omega
 rw [if_neg h1]
 by_cases h2 : c = 116
 ·rw [if_pos h2, List.length_append, nums_len]; omega
 rw [if_neg h2, nums_len]
 obtain ⟨s, hs, h8⟩ := nsize_nat c
 omega
theorem encs_len : ∀ (s : List UInt8) (fs : List Fld), (∀ f ∈ fs, f.bs.length ≤ 1000) → (encs s fs).length ≤ 1010 * fs.length
 | [], _, _ => by simp [encs]
 | _ :: _, [], _ => by simp [encs]
 | c :: s, f :: fs, h => by
  have h1 := encs_len s fs fun f hf => h f (List.mem_cons_of_mem _ hf)
  have h2 := enc_len c.toNat f.n f.bs (h f (List.mem_cons_self ..))
  rw [encs, List.length_append, List.length_cons]
  omega
theorem okTo_succ {s : List UInt8} {fs : List Fld} {k : Nat} (h : okTo s fs k) (h1 : k < s.length) (h2 : k < fs.length) (hf : fits s[k].toNat fs[k].n fs[k].l = true) : okTo s fs (k + 1) := fun i a b c => by
 rcases Nat.lt_or_ge i k with hk | hk
 ·exact h i a b hk
 ·obtain rfl : i = k := by omega
  exact hf
end Oc
theorem Pad.alloc {w : World} {s : Value} {ys : List Nat} {wr : World} (h : Pad w.heap.size w s ys wr) (o : Obj) : Pad w.heap.size w s ys (wr.alloc o) := ⟨ownsRow_alloc h.own o, h.bel.alloc h.bel.size o⟩
theorem Pad.drew {B : Nat} {w : World} {s : Value} {ys : List Nat} {wr : World} (h : Pad B w s ys wr) : Pad B w s ys wr.drew := ⟨h.own.drew, below_drewN h.bel 1⟩
def WritePost (s : ByteArray) (fs : List Fld) (aK aR : Addr) (w : World) (e : Ending) (w' : World) : Prop :=
 Below w.heap.size w w' ∧
 (Oc.known s.data.toList = false → e = .returned (.tuple #[.slice none 0 0, ev aK])) ∧
 (Oc.known s.data.toList = true → (fs.length ≠ s.size ∨ ¬ Oc.okTo s.data.toList fs s.size) → e = .returned (.tuple #[.slice none 0 0, ev aR])) ∧
 (Oc.known s.data.toList = true → fs.length = s.size → Oc.okTo s.data.toList fs s.size → ∃ v, e = .returned (.tuple #[v, .nilIface]) ∧ Pad w.heap.size w v (Oc.encs s.data.toList fs) w')
set_option maxRecDepth 100000 in
theorem write_any (s : ByteArray) (A : Option Addr) (b o cap : Nat) (fs : List Fld) (aK aR : Addr) (w : World) (hs : s.size ≤ 1000) (hA : 0 < fs.length → A = some ⟨b, o, none⟩) (hF : FRow w b o fs) (_hl : fs.length ≤ 1000) (hlb : ∀ f ∈ fs, f.l ≤ 1000)
  (hK : w.cell? ⟨4, 0, none⟩ = some (ev aK)) (hR : w.cell? ⟨0, 0, none⟩ = some (ev aR)) :
  Calls Tryd.prog 52 #[.string s, .slice A fs.length cap] w (WritePost s fs aK aR w) := by
 have C1 := known_any s
 have HKB := Lib.hid (block_lt_of_cell hK)
 have HRB := Lib.hid (block_lt_of_cell hR)
 obtain ⟨kn, hkn⟩ : ∃ kn, kn = Oc.known s.data.toList := ⟨_, rfl⟩
 rw [← hkn] at C1
 have HKN := Lib.hid hkn
 clear hkn
 cases kn
 ·have H : ∀ m, Hid (WritePost s fs aK aR w (.returned (.tuple #[.slice none 0 0, ev aK])) (w.drewN m)) := fun m => Lib.hid ⟨below_drewN (Below.refl _ _) m, fun _ => rfl, fun h _ => (by rw [← HKN.out] at h; cases h), fun h _ _ => (by rw [← HKN.out] at h; cases h)⟩
  go_enter Tryd.func52, Tryd.ntmps52
  go_wp2_with (go_at_call 66; refine (C1 _ (by omega)).mono ?_; rintro e w' ⟨rfl, rfl⟩)
  go_quiet (fail)
  go_wp2
  go_ret2
  exact (H _).out
 ·by_cases hn : fs.length = s.size
  ·have b1 : ((fs.length : Int) != (s.size : Int)) = false := by simp; omega
   have HP0 : Hid (Pad w.heap.size w (.slice none 0 0) (Oc.encs (s.data.toList.take 0) (fs.take 0)) w) := Lib.hid ⟨World.ownsRow_nil _ _ _ _, Below.refl _ _⟩
   have HF := Lib.hid hF
   have HKC := Lib.hid hK
   have HRC := Lib.hid hR
   clear hF hK hR
   go_enter Tryd.func52, Tryd.ntmps52
   go_wp2_with (go_at_call 66; refine (C1 _ (by omega)).mono ?_; rintro e w' ⟨rfl, rfl⟩)
   go_loopw [6, 21] (fun v i wr => ∃ k : Nat, k ≤ fs.length ∧ i = .int .i64 k ∧ Hid (Pad w.heap.size w v (Oc.encs (s.data.toList.take k) (fs.take k)) wr) ∧ Hid (Oc.okTo s.data.toList fs k)) (fun _ i _ => fs.length - (intOf i).toNat)
   case atStart => exact ⟨0, Nat.zero_le _, rfl, HP0, Lib.hid fun _ _ _ h => by omega⟩
   case round =>
    obtain ⟨k, hk, rfl, HP, HO⟩ := hrel
    by_cases hlt : k < fs.length
    ·obtain rfl := hA (by omega)
     have HFr := Lib.hid (HF.out.below HP.out.bel (Nat.le_refl _))
     have hg : wr.rangeAt b (o + k * 2) [.int .i64 fs[k].n, .slice fs[k].A fs[k].l fs[k].c] := fun j v hj => by
      have p1 := HFr.out.n k hlt
      have p2 := HFr.out.s k hlt
      rcases j with _ | _ | j
      ·rw [show o + k * 2 + 0 = o + 2 * k by omega, p1]; exact hj
      ·rw [show o + k * 2 + (0 + 1) = o + 2 * k + 1 by omega, p2]; exact hj
      ·simp at hj
     have hks : k < s.size := by omega
     have es : s.data.toList[k]'(by simpa using hks) = s[k] := rfl
     have hno : Oc.fits s[k].toNat fs[k].n fs[k].l = false → ¬ Oc.okTo s.data.toList fs s.size := fun h ho => by
      have h2 := ho k (by simpa using hks) hlt hks
      rw [es, h] at h2
      cases h2
     have hyes : Oc.fits s[k].toNat fs[k].n fs[k].l = true → Oc.okTo s.data.toList fs (k + 1) := fun h => Oc.okTo_succ HO.out (by simpa using hks) hlt (by rw [es]; exact h)
     have henc : Oc.encs (s.data.toList.take (k + 1)) (fs.take (k + 1)) = Oc.encs (s.data.toList.take k) (fs.take k) ++ Oc.enc s[k].toNat fs[k].n fs[k].bs := by
      rw [Oc.encs_take _ _ _ (by simpa using hks) hlt, es]
     have hrd := HF.out.r fs[k] (List.getElem_mem _)
     generalize fs[k] = f at hg hno hyes henc hrd
     obtain ⟨n, Af, lf, cf, bs⟩ := f
     dsimp only at hg hno hyes henc hrd
     have HG := Lib.hid hg
     have HNO := Lib.hid hno
     have HYES := Lib.hid hyes
     have HENC := Lib.hid henc
     have HRD := Lib.hid hrd
     clear hg hno hyes henc hrd es
     have i0 : ((k : Nat) : Int) < fs.length := by omega
     have i1 : (0 : Int) ≤ ((k : Nat) : Int) := by omega
     have i2 : ((k : Nat) : Int) < s.size := by omega
     have CF := fits_any s[k].toNat n Af lf cf
     have HS0 : Hid (Others (boxF wr n Af lf cf) (boxF wr n Af lf cf).drew) := Lib.hid (Others.refl _)
     have HS1 : Hid (Others (boxF wr n Af lf cf) (boxF (boxF wr n Af lf cf).drew n Af lf cf)) := Lib.hid ((Others.refl (boxF wr n Af lf cf)).alloc _)
     have hP3 : Pad w.heap.size w u6 (Oc.encs (s.data.toList.take k) (fs.take k)) (boxF (boxF wr n Af lf cf).drew n Af lf cf).drew := ((HP.out.alloc _).drew.alloc _).drew
     have HB3 : Hid (Below w.heap.size w (boxF (boxF wr n Af lf cf).drew n Af lf cf)) := Lib.hid ((HP.out.alloc _).drew.alloc _).bel
     have pR : wr.cell? ⟨0, 0, none⟩ = some (ev aR) := (World.cell?_of_block (HP.out.bel.block _ HRB.out)).trans HRC.out
     cases hfit : Oc.fits s[k].toNat n lf
     ·rw [hfit] at CF
      have H : ∀ m, Hid (WritePost s fs aK aR w (.returned (.tuple #[.slice none 0 0, ev aR])) ((boxF (boxF wr n Af lf cf).drew n Af lf cf).drewN m)) := fun m => Lib.hid ⟨below_drewN HB3.out m, fun h => (by rw [← HKN.out] at h; cases h), fun _ _ => rfl, fun _ _ h => absurd h (HNO.out hfit)⟩
      have pR2 : ((boxF wr n Af lf cf).drew.alloc (Obj.cells #[.int .i64 n, .slice Af lf cf] 91)).cell? ⟨0, 0, none⟩ = some (ev aR) := (World.cell?_of_block (HB3.out.block _ HRB.out)).trans HRC.out
      clear hP3
      go_wp2_with (refine wpList_load_mid rfl 91 (.tmp 24) rfl b (o + k * 2) rfl _ _ HG.out Tryd.underlying91 rfl (by kernel_rfl) ?_)
      refine wp_region_held (S := (fun w' => Others (boxF wr n Af lf cf) w')) (by kernel_rfl) ?_
      change wpAnyH _ _ _ _ _ _ _ _ (boxF wr n Af lf cf).drew
      refine wpAnyH_take (i := 0) (v := ?_) rfl (by kernel_rfl) (by kernel_rfl) (by kernel_rfl) (fun _ _ _ h => h) (Or.inl ⟨by rfl, ?_⟩) (HS0.out) ?_
      rotate_left
      ·intro w _; go_simp; with_reducible rfl
      try simp only [Act.put, List.getElem_toArray, List.getElem_cons_zero, List.setIfInBounds_toArray, List.set_cons_zero, List.set_cons_succ]
      refine wpAnyH_take (i := 1) (v := ?_) rfl (by kernel_rfl) (by kernel_rfl) (by kernel_rfl) (fun _ _ _ h => h) (Or.inl ⟨by rfl, ?_⟩) (HS0.out) ?_
      rotate_left
      ·intro w _; go_simp; with_reducible rfl
      try simp only [Act.put, List.getElem_toArray, List.getElem_cons_zero, List.getElem_cons_succ, List.setIfInBounds_toArray, List.set_cons_zero, List.set_cons_succ]
      refine wpAnyH_take (i := 2) (v := ?_) rfl (by kernel_rfl) (by kernel_rfl) (by kernel_rfl) (fun _ _ _ h => h) (Or.inl ⟨by rfl, ?_⟩) (HS0.out) ?_
      rotate_left
      ·intro w' hw; go_simp; with_reducible rfl
      try simp only [Act.put, List.getElem_toArray, List.getElem_cons_zero, List.getElem_cons_succ, List.setIfInBounds_toArray, List.set_cons_zero, List.set_cons_succ]
      refine wpAnyH_take (i := 3) rfl (by kernel_rfl) (by kernel_rfl) (by kernel_rfl) (fun _ _ _ h => h) (takes_row 91 (.tmp 8) rfl (by rfl) (wr.heap.size) rfl 91 (#[.int .i64 n, .slice Af lf cf]) _ (fun w' h => h _ _ _ _ (by decide) (Blk.new wr _ _)) Tryd.underlying91 rfl (by kernel_rfl)) (HS0.out) ?_
      try simp only [Act.put, List.getElem_toArray, List.getElem_cons_zero, List.getElem_cons_succ, List.setIfInBounds_toArray, List.set_cons_zero, List.set_cons_succ]
      refine all_one (i := 4) (by kernel_rfl) rfl (by rfl) (fun K hK => ?_)
      go_simp
      refine (CF _).mono ?_
      rintro e w' ⟨rfl, rfl⟩
      dsimp only
      refine hK _ _ (HS1.out) ?_; clear hK K
      try simp only [Act.put, List.getElem_toArray, List.getElem_cons_zero, List.getElem_cons_succ, List.setIfInBounds_toArray, List.set_cons_zero, List.set_cons_succ]
      refine wpAnyH_take (i := 5) (v := ?_) rfl (by kernel_rfl) (by kernel_rfl) (by kernel_rfl) (fun _ _ _ h => h) (Or.inl ⟨by rfl, ?_⟩) HS1.out ?_
      rotate_left
      ·intro w' hw; go_simp; with_reducible rfl
      try simp only [Act.put, List.getElem_toArray, List.getElem_cons_zero, List.getElem_cons_succ, List.setIfInBounds_toArray, List.set_cons_zero, List.set_cons_succ]
      refine wpAnyH_done (by kernel_rfl) ?_ _
      go_wp2
      have H2 : ∀ m, Hid (WritePost s fs aK aR w (.returned (.tuple #[.slice none 0 0, ev aR])) (((boxF wr n Af lf cf).drew.alloc (Obj.cells #[.int .i64 n, .slice Af lf cf] 91)).drewN m)) := H
      clear H HB3 HS1
      generalize (boxF wr n Af lf cf).drew.alloc (Obj.cells #[.int .i64 n, .slice Af lf cf] 91) = wo at pR2 H2 ⊢
      go_quiet (fail)
      go_wp2
      go_ret2
      exact (H2 _).out
     ·rw [hfit] at CF
      have HO2 := Lib.hid (HYES.out hfit)
      have CP := put_any s[k].toNat n Af lf cf bs u6 _ w.heap.size w (boxF (boxF wr n Af lf cf).drew n Af lf cf).drew rfl hP3 HRD.out.1 HRD.out.2 hfit (Nat.le_trans (Oc.encs_len _ _ (fun f hf => by rw [(HF.out.r f (List.mem_of_mem_take hf)).2]; exact hlb f (List.mem_of_mem_take hf))) (by rw [List.length_take]; omega))
      rw [← HENC.out] at CP
      clear hP3 pR
      go_wp2_with (refine wpList_load_mid rfl 91 (.tmp 24) rfl b (o + k * 2) rfl _ _ HG.out Tryd.underlying91 rfl (by kernel_rfl) ?_)
      refine wp_region_held (S := (fun w' => Others (boxF wr n Af lf cf) w')) (by kernel_rfl) ?_
      change wpAnyH _ _ _ _ _ _ _ _ (boxF wr n Af lf cf).drew
      refine wpAnyH_take (i := 0) (v := ?_) rfl (by kernel_rfl) (by kernel_rfl) (by kernel_rfl) (fun _ _ _ h => h) (Or.inl ⟨by rfl, ?_⟩) (HS0.out) ?_
      rotate_left
      ·intro w _; go_simp; with_reducible rfl
      try simp only [Act.put, List.getElem_toArray, List.getElem_cons_zero, List.setIfInBounds_toArray, List.set_cons_zero, List.set_cons_succ]
      refine wpAnyH_take (i := 1) (v := ?_) rfl (by kernel_rfl) (by kernel_rfl) (by kernel_rfl) (fun _ _ _ h => h) (Or.inl ⟨by rfl, ?_⟩) (HS0.out) ?_
      rotate_left
      ·intro w _; go_simp; with_reducible rfl
      try simp only [Act.put, List.getElem_toArray, List.getElem_cons_zero, List.getElem_cons_succ, List.setIfInBounds_toArray, List.set_cons_zero, List.set_cons_succ]
      refine wpAnyH_take (i := 2) (v := ?_) rfl (by kernel_rfl) (by kernel_rfl) (by kernel_rfl) (fun _ _ _ h => h) (Or.inl ⟨by rfl, ?_⟩) (HS0.out) ?_
      rotate_left
      ·intro w' hw; go_simp; with_reducible rfl
      try simp only [Act.put, List.getElem_toArray, List.getElem_cons_zero, List.getElem_cons_succ, List.setIfInBounds_toArray, List.set_cons_zero, List.set_cons_succ]
      refine wpAnyH_take (i := 3) rfl (by kernel_rfl) (by kernel_rfl) (by kernel_rfl) (fun _ _ _ h => h) (takes_row 91 (.tmp 8) rfl (by rfl) (wr.heap.size) rfl 91 (#[.int .i64 n, .slice Af lf cf]) _ (fun w' h => h _ _ _ _ (by decide) (Blk.new wr _ _)) Tryd.underlying91 rfl (by kernel_rfl)) (HS0.out) ?_
      try simp only [Act.put, List.getElem_toArray, List.getElem_cons_zero, List.getElem_cons_succ, List.setIfInBounds_toArray, List.set_cons_zero, List.set_cons_succ]
      refine all_one (i := 4) (by kernel_rfl) rfl (by rfl) (fun K hK => ?_)
      go_simp
      refine (CF _).mono ?_
      rintro e w' ⟨rfl, rfl⟩
      dsimp only
      refine hK _ _ (HS1.out) ?_; clear hK K
      try simp only [Act.put, List.getElem_toArray, List.getElem_cons_zero, List.getElem_cons_succ, List.setIfInBounds_toArray, List.set_cons_zero, List.set_cons_succ]
      refine wpAnyH_take (i := 5) (v := ?_) rfl (by kernel_rfl) (by kernel_rfl) (by kernel_rfl) (fun _ _ _ h => h) (Or.inl ⟨by rfl, ?_⟩) HS1.out ?_
      rotate_left
      ·intro w' hw; go_simp; with_reducible rfl
      try simp only [Act.put, List.getElem_toArray, List.getElem_cons_zero, List.getElem_cons_succ, List.setIfInBounds_toArray, List.set_cons_zero, List.set_cons_succ]
      refine wpAnyH_done (by kernel_rfl) ?_ _
      go_wp2
      refine wp_region_held (S := (fun w' => Others (boxF wr n Af lf cf) w')) (by kernel_rfl) ?_
      change wpAnyH _ _ _ _ _ _ _ _ (boxF (boxF wr n Af lf cf).drew n Af lf cf).drew
      refine wpAnyH_take (i := 0) (v := ?_) rfl (by kernel_rfl) (by kernel_rfl) (by kernel_rfl) (fun _ _ _ h => h) (Or.inl ⟨by rfl, ?_⟩) (HS1.out) ?_
      rotate_left
      ·intro w _; go_simp; with_reducible rfl
      try simp only [Act.put, List.getElem_toArray, List.getElem_cons_zero, List.setIfInBounds_toArray, List.set_cons_zero, List.set_cons_succ]
      refine wpAnyH_take (i := 1) (v := ?_) rfl (by kernel_rfl) (by kernel_rfl) (by kernel_rfl) (fun _ _ _ h => h) (Or.inl ⟨by rfl, ?_⟩) (HS1.out) ?_
      rotate_left
      ·intro w _; go_simp; with_reducible rfl
      try simp only [Act.put, List.getElem_toArray, List.getElem_cons_zero, List.getElem_cons_succ, List.setIfInBounds_toArray, List.set_cons_zero, List.set_cons_succ]
      refine wpAnyH_take (i := 2) (v := ?_) rfl (by kernel_rfl) (by kernel_rfl) (by kernel_rfl) (fun _ _ _ h => h) (Or.inl ⟨by rfl, ?_⟩) (HS1.out) ?_
      rotate_left
      ·intro w _; go_simp; with_reducible rfl
      try simp only [Act.put, List.getElem_toArray, List.getElem_cons_zero, List.getElem_cons_succ, List.setIfInBounds_toArray, List.set_cons_zero, List.set_cons_succ]
      refine wpAnyH_take (i := 3) (v := ?_) rfl (by kernel_rfl) (by kernel_rfl) (by kernel_rfl) (fun _ _ _ h => h) (Or.inl ⟨by rfl, ?_⟩) (HS1.out) ?_
      rotate_left
      ·intro w' hw; go_simp; with_reducible rfl
      try simp only [Act.put, List.getElem_toArray, List.getElem_cons_zero, List.getElem_cons_succ, List.setIfInBounds_toArray, List.set_cons_zero, List.set_cons_succ]
      refine wpAnyH_take (i := 4) rfl (by kernel_rfl) (by kernel_rfl) (by kernel_rfl) (fun _ _ _ h => h) (takes_row 91 (.tmp 8) rfl (by rfl) (wr.heap.size) rfl 91 (#[.int .i64 n, .slice Af lf cf]) _ (fun w' h => h _ _ _ _ (by decide) (Blk.new wr _ _)) Tryd.underlying91 rfl (by kernel_rfl)) (HS1.out) ?_
      try simp only [Act.put, List.getElem_toArray, List.getElem_cons_zero, List.getElem_cons_succ, List.setIfInBounds_toArray, List.set_cons_zero, List.set_cons_succ]
      refine all_one (i := 5) (by kernel_rfl) rfl (by rfl) (fun K hK => ?_)
      go_simp
      refine (CP).mono ?_
      rintro e w' ⟨v', rfl, hp, ho⟩
      have HP2 := Lib.hid hp
      have HO3 : Hid (Others (boxF wr n Af lf cf) w') := Lib.hid (HS1.out.trans ho)
      clear hp ho
      dsimp only
      refine hK _ _ (HO3.out) ?_; clear hK K
      try simp only [Act.put, List.getElem_toArray, List.getElem_cons_zero, List.getElem_cons_succ, List.setIfInBounds_toArray, List.set_cons_zero, List.set_cons_succ]
      refine wpAnyH_take (i := 6) (v := ?_) rfl (by kernel_rfl) (by kernel_rfl) (by kernel_rfl) (fun _ _ _ h => h) (Or.inl ⟨by rfl, ?_⟩) HO3.out ?_
      rotate_left
      ·intro w' hw; go_simp; with_reducible rfl
      try simp only [Act.put, List.getElem_toArray, List.getElem_cons_zero, List.getElem_cons_succ, List.setIfInBounds_toArray, List.set_cons_zero, List.set_cons_succ]
      refine wpAnyH_done (by kernel_rfl) ?_ _
      go_wp2
      go_roundw
      case rel => exact ⟨k + 1, by omega, by go_num, HP2, HO2⟩
      case measure => simp [intOf]; omega
    ·obtain rfl : k = fs.length := by omega
     have H : Hid (WritePost s fs aK aR w (.returned (.tuple #[u6, .nilIface])) wr) := Lib.hid ⟨HP.out.bel, fun h => (by rw [← HKN.out] at h; cases h), fun _ h => (by rcases h with h | h; exact absurd hn h; exact absurd (hn ▸ HO.out) h), fun _ _ _ => ⟨_, rfl, by
      have h := HP.out
      rwa [List.take_of_length_le (by simp; omega), List.take_of_length_le (Nat.le_refl _)] at h⟩⟩
     go_wp2
     go_ret2
     exact H.out
  ·have H : ∀ m, Hid (WritePost s fs aK aR w (.returned (.tuple #[.slice none 0 0, ev aR])) (w.drewN m)) := fun m => Lib.hid ⟨below_drewN (Below.refl _ _) m, fun h => (by rw [← HKN.out] at h; cases h), fun _ _ => rfl, fun _ h _ => absurd h hn⟩
   have b1 : ((fs.length : Int) != (s.size : Int)) = true := by simp; omega
   go_enter Tryd.func52, Tryd.ntmps52
   go_wp2_with (go_at_call 66; refine (C1 _ (by omega)).mono ?_; rintro e w' ⟨rfl, rfl⟩)
   go_quiet (fail)
   go_wp2
   go_ret2
   exact (H _).out
end Go.Proofs.YtdokojlgcplefaaDoor
/- The document's comparison of two rows of fields (cartageref02.Same). -/
namespace Go.Proofs.YtdokojlgcplefaaDoor
open Go Go.RowKit
def Fld.says (f : Fld) : Int × List Nat := (f.n, f.bs)
end Go.Proofs.YtdokojlgcplefaaDoor
/- Fields as the document's fields (cartagelaw02.of). -/
namespace Go.Proofs.YtdokojlgcplefaaDoor
open Go Go.RowKit
def cellsF (fs : List Fld) : List Value := fs.flatMap fun f => [.int .i64 f.n, .slice f.A f.l f.c]
theorem cellsF_len (fs : List Fld) : (cellsF fs).length = fs.length * 2 := by
 induction fs with
 | nil => rfl
 | cons f fs ih => rw [cellsF, List.flatMap_cons, List.length_append, ← cellsF, ih]; simp; omega
theorem cellsF_get : ∀ {fs : List Fld} {i : Nat} (h : i < fs.length), (cellsF fs)[2 * i]? = some (.int .i64 fs[i].n) ∧ (cellsF fs)[2 * i + 1]? = some (.slice fs[i].A fs[i].l fs[i].c)
 | f :: fs, 0, _ => by simp [cellsF]
 | f :: fs, i + 1, h => by
  have := cellsF_get (fs := fs) (i := i) (by simpa using h)
  rw [show 2 * (i + 1) = 2 * i + 1 + 1 by omega]
  simpa [cellsF] using this
end Go.Proofs.YtdokojlgcplefaaDoor
