/- Fields of layer 2 made of numbers, texts and bytes; a row of fields of one's own. -/
import Derived.Test.YtgcgomdhdgjpdaaGreatDoorMEn11s
import Derived.Test.YtgcgomdhdgjpdaaGreatDoorMOct11s
import Derived.Lib.ConvBytes
import Derived.Test.YtgcgomdhdgjpdaaGreatDoorMShelfs
import Derived.Lib.Repeat
namespace Go.Proofs.YtgcgomdhdgjpdaaGreatDoor
open Go Go.RowKit
theorem below_bytesWE (w : World) (e : TypeId) (s : ByteArray) : Below w.heap.size w (Lib.bytesWorld w e s) :=
 ⟨rfl, rfl, rfl, by rw [Lib.bytesWorld_size]; omega, fun i hi => Lib.bytesWorld_at_old w e s i hi⟩
theorem strB_convE (s : ByteArray) (w : World) : ∃ c w2, (convert 9 46 (.string s)).run Tryz.prog w = .ok (.slice (some ⟨w.heap.size, 0, none⟩) s.size c) w2 ∧ Rd w2 (.slice (some ⟨w.heap.size, 0, none⟩) s.size c) (strB s) ∧ (∃ cs z, w2.heap[w.heap.size]? = some (.cells cs 5 z)) ∧ Below w.heap.size w w2 := by
 have hc := Lib.run_convert_string_bytes (P := Tryz.prog) w 9 46 5 s Tryz.underlying9 Tryz.underlying46 Tryz.underlying5
 refine ⟨_, _, hc, ⟨_, _, by rw [strB_len], by rw [strB_len]; exact grownCap_ge w s.size 0 5, fun h0 => ⟨w.heap.size, 0, rfl, by rw [Lib.bytesWorld_size]; omega, fun i hi => ?_⟩⟩, ⟨_, _, Lib.bytesWorld_at_new w _ s⟩, below_bytesWE w _ _⟩
 rw [strB_len] at hi
 rw [Nat.zero_add, Lib.bytesWorld_cell w _ _ i (by omega)]
 have hi2 : i < s.data.toList.length := by have : s.data.toList.length = s.size := rfl; omega
 unfold strB
 simp only [List.getD, List.getElem?_map, List.getElem?_eq_getElem hi2, Option.map_some, Option.getD_some]
structure TxtF (w : World) (f : Fld) : Prop where
 rd : Rd w (.slice f.A f.l f.c) f.bs
 len : f.bs.length = f.l
 off : 0 < f.l → ∃ g o cs z, f.A = some ⟨g, o, none⟩ ∧ w.heap[g]? = some (.cells cs 5 z)
theorem heap_lt {w : World} {g : Nat} {x : Obj} (h : w.heap[g]? = some x) : g < w.heap.size := (Array.getElem?_eq_some_iff.1 h).1
theorem TxtF.below {w w' : World} {f : Fld} (h : TxtF w f) (hb : Below w.heap.size w w') : TxtF w' f :=
 ⟨h.rd.below hb (Nat.le_refl _), h.len, fun h0 => by
  obtain ⟨g, o, cs, z, ha, hg⟩ := h.off h0
  exact ⟨g, o, cs, z, ha, (hb.block g (heap_lt hg)).trans hg⟩⟩
theorem TxtF.grown {w w' : World} {f : Fld} {row : Option Nat} (h : TxtF w f) (hg : w.grownBy w' row) (hr : ∀ g, row = some g → ∃ cs T z, w.heap[g]? = some (.cells cs T z) ∧ T ≠ 5) : TxtF w' f := by
 have hne : ∀ g cs z, w.heap[g]? = some (.cells cs 5 z) → some g ≠ row := fun g cs z hx e => by
  obtain ⟨cs', T, z', h1, h2⟩ := hr g e.symm
  rw [hx] at h1
  injection h1 with h1
  injection h1 with _ h3 _
  exact h2 h3.symm
 refine ⟨?_, h.len, fun h0 => ?_⟩
 ·obtain ⟨A, c, hv, hc, hA⟩ := h.rd
  refine ⟨A, c, hv, hc, fun h0 => ?_⟩
  obtain ⟨b, o, ha, hl, hx⟩ := hA h0
  have h0' : 0 < f.l := by rw [← h.len]; exact h0
  obtain ⟨g, o2, cs, z, ha2, hgb⟩ := h.off h0'
  injection hv with e1 _ _
  rw [ha, ha2] at e1
  injection e1 with e1
  injection e1 with e1 _ _
  subst e1
  refine ⟨g, o, ha, Nat.lt_of_lt_of_le hl hg.size, fun i hi => ?_⟩
  rw [World.cell?_of_block (a := ⟨g, o + i, none⟩) (hg.block g hl (hne g cs z hgb))]
  exact hx i hi
 ·obtain ⟨g, o, cs, z, ha, hgb⟩ := h.off h0
  exact ⟨g, o, cs, z, ha, (hg.block g (heap_lt hgb) (hne g cs z hgb)).trans hgb⟩
def fldN (n : Int) : Fld := ⟨n, none, 0, 0, []⟩
theorem TxtF.num (w : World) (n : Int) : TxtF w (fldN n) := ⟨⟨none, 0, rfl, Nat.le_refl _, fun h => absurd h (by simp [fldN])⟩, rfl, fun h => absurd h (by simp [fldN])⟩
def fldC (f : Fld) : List Value := [.int .i64 f.n, .slice f.A f.l f.c]
def cellsFd (fs : List Fld) : List Value := fs.flatMap fldC
theorem cellsFd_app (fs gs : List Fld) : cellsFd (fs ++ gs) = cellsFd fs ++ cellsFd gs := List.flatMap_append
theorem cellsFd_one (fs : List Fld) : ∀ u ∈ cellsFd fs, u.oneCell' = true := by
 intro u hu
 obtain ⟨f, _, h⟩ := List.mem_flatMap.1 hu
 simp [fldC] at h
 rcases h with rfl | rfl <;> rfl
theorem cellsFd_at : ∀ (fs : List Fld) (k : Nat) (hk : k < fs.length), (cellsFd fs)[2 * k]? = some (.int .i64 fs[k].n) ∧ (cellsFd fs)[2 * k + 1]? = some (.slice fs[k].A fs[k].l fs[k].c)
 | f :: fs, 0, _ => ⟨rfl, rfl⟩
 | f :: fs, k + 1, hk => by
  have h := cellsFd_at fs k (by simpa using hk)
  have e : cellsFd (f :: fs) = .int .i64 f.n :: .slice f.A f.l f.c :: cellsFd fs := rfl
  rw [e, show 2 * (k + 1) = 2 * k + 1 + 1 by omega, List.getElem?_cons_succ, List.getElem?_cons_succ, show 2 * k + 1 + 1 + 1 = (2 * k + 1) + 1 + 1 by omega, List.getElem?_cons_succ, List.getElem?_cons_succ]
  exact h
structure FW (w wr : World) (v : Value) (fs : List Fld) : Prop where
 own : wr.ownsRow w.heap.size 151 2 v fs.length (cellsFd fs)
 txt : ∀ f ∈ fs, TxtF wr f
 bel : Below w.heap.size w wr
section
variable {w wr w' : World} {v v2 : Value} {fs gs : List Fld}
theorem FW.low (h : FW w wr v fs) {x : Nat} (hx : v.ownBlock = some x) : w.heap.size ≤ x ∧ ∃ cs T z, wr.heap[x]? = some (.cells cs T z) ∧ T ≠ 5 := by
 rcases h.own.2 with ⟨hv, _⟩ | ⟨g, cap, cur, hv, hb, hh, _⟩
 ·rw [hv] at hx; simp [Value.ownBlock] at hx
 ·rw [hv] at hx
  obtain rfl : g = x := by simpa [Value.ownBlock] using hx
  exact ⟨hb, cur, _, _, hh, by decide⟩
theorem FW.below (h : FW w wr v fs) (hb : Below wr.heap.size wr w') : FW w w' v fs :=
 ⟨h.own.kept (only_of_below hb none) (by cases hv : v.ownBlock with | none => exact Or.inl rfl | some g => exact Or.inr (by simp)), fun f hf => (h.txt f hf).below hb, below_next h.bel hb⟩
theorem FW.put (h : FW w wr v fs) (ho : w'.ownsRow w.heap.size 151 2 v2 (fs.length + gs.length) (cellsFd fs ++ cellsFd gs)) (hg : wr.grownBy w' v.ownBlock) (ht : ∀ f ∈ gs, TxtF wr f) : FW w w' v2 (fs ++ gs) := by
 have ht2 : ∀ f, TxtF wr f → TxtF w' f := fun f hf => hf.grown hg fun g e => (h.low e).2
 refine ⟨by rw [List.length_append, cellsFd_app]; exact ho, fun f hf => ?_, ?_⟩
 ·rcases List.mem_append.1 hf with hf | hf
  ·exact ht2 f (h.txt f hf)
  ·exact ht2 f (ht f hf)
 ·exact ⟨hg.os.trans h.bel.os, hg.tape.trans h.bel.tape, hg.output.trans h.bel.output, Nat.le_trans h.bel.size hg.size, fun b hb => (hg.block b (Nat.lt_of_lt_of_le hb h.bel.size) (fun e => by have := (h.low e.symm).1; omega)).trans (h.bel.block b hb)⟩
theorem FW.row (h : FW w wr v fs) (h0 : 0 < fs.length) : ∃ g c, v = .slice (some ⟨g, 0, none⟩) fs.length c ∧ FRow wr g 0 fs := by
 rcases h.own.2 with ⟨_, hn⟩ | ⟨g, cap, cur, hv, hb, hh, hnc, hcm, hcs, htk⟩
 ·omega
 ·have hc : ∀ j u, (cellsFd fs)[j]? = some u → wr.cell? ⟨g, j, none⟩ = some u := fun j u hj => by
   have hB : Blk wr g 151 cur := hh
   rw [hB.cell j]
   rw [← htk, List.getElem?_take] at hj
   split at hj
   ·simpa using hj
   ·cases hj
  refine ⟨g, cap, hv, ⟨fun i hi => ?_, fun i hi => ?_, fun f hf => ⟨(h.txt f hf).rd, (h.txt f hf).len⟩, heap_lt hh⟩⟩
  ·rw [Nat.zero_add]; exact hc _ _ (cellsFd_at fs i hi).1
  ·rw [Nat.zero_add]; exact hc _ _ (cellsFd_at fs i hi).2
end
theorem fldE_info : (Tryz.prog.info? 151).map (fun i => (i.zero, i.size, i.bytes)) = some (some (.agg #[.int .i64 0, .slice none 0 0]), 2, 32) := by kernel_rfl
theorem fill_threeE (zc : Array Value) (x0 x1 y0 y1 z0 z1 : Value) : Instr.fill (fun i => some (i * 2, 2)) ((Array.range (3 * 2)).map (zc[· % zc.size]!)) [(0, .agg #[x0, x1]), (1, .agg #[y0, y1]), (2, .agg #[z0, z1])] = some #[x0, x1, y0, y1, z0, z1] := by
 obtain ⟨old, ho⟩ : ∃ old : List Value, (Array.range (3 * 2)).map (zc[· % zc.size]!) = old.toArray := ⟨_, (Array.toArray_toList ..).symm⟩
 have hl : old.length = 6 := by
  have := congrArg Array.size ho
  simpa using this.symm
 rw [ho]
 match old, hl with
 | [a, b, c, d, e, f], _ => rfl
theorem fill_oneE (zc : Array Value) (x0 x1 : Value) : Instr.fill (fun i => some (i * 2, 2)) ((Array.range (1 * 2)).map (zc[· % zc.size]!)) [(0, .agg #[x0, x1])] = some #[x0, x1] := by
 obtain ⟨old, ho⟩ : ∃ old : List Value, (Array.range (1 * 2)).map (zc[· % zc.size]!) = old.toArray := ⟨_, (Array.toArray_toList ..).symm⟩
 have hl : old.length = 2 := by
  have := congrArg Array.size ho
  simpa using this.symm
 rw [ho]
 match old, hl with
 | [a, b], _ => rfl
theorem fnum_any (n : Int) (w : World) : Calls Tryz.prog 76 #[.int .i64 n] w fun e w' => e = .returned (.agg #[.int .i64 n, .slice none 0 0]) ∧ Below w.heap.size w w' := by
 have HB : Hid (Below w.heap.size w (w.alloc (.cells #[.int .i64 n, .slice none 0 0] 151))) := Lib.hid ((Below.refl _ _).alloc (Nat.le_refl _) _)
 have HK : Hid (Blk (w.alloc (.cells #[.int .i64 n, .slice none 0 0] 151)) w.heap.size 151 #[.int .i64 n, .slice none 0 0]) := Lib.hid (Blk.new w _ _)
 go_enter Tryz.func76, Tryz.ntmps76
 go_wp2
 exact bodyPost_ret (v := .agg #[.int .i64 n, .slice none 0 0]) (results_cell_row rfl _ _ w.heap.size 151 _ (0, 0) _ rfl HK.out Tryz.underlying151 rfl (by kernel_rfl)) rfl ⟨rfl, HB.out⟩
theorem fld_end {w w2 w3 : World} {f : Fld} (hf : TxtF w2 f) (hx : Blk w2 w.heap.size 151 #[.int .i64 0, .slice none 0 0]) (hb : Below w.heap.size w w2) (e : w3 = w2.setRow w.heap.size (fldC f).toArray) : TxtF w3 f ∧ Blk w3 w.heap.size 151 (fldC f).toArray ∧ Below w.heap.size w w3 := by
 subst e
 have hg : w2.grownBy (w2.setRow w.heap.size (fldC f).toArray) (some w.heap.size) := only_setRow (World.grownBy.refl w2 _) (Or.inl rfl) _
 exact ⟨hf.grown hg (fun g e => by injection e with e; subst e; exact ⟨_, _, _, hx, by decide⟩), hx.row _, below_row hb (Nat.le_refl _) _⟩
set_option maxRecDepth 100000 in
theorem fbytes_any (A : Option Addr) (n c : Nat) (xs : List Nat) (w : World) (hv : Rd w (.slice A n c) xs) (hz : xs.length ≤ 1000000) :
  Calls Tryz.prog 78 #[.slice A n c] w fun e w' => ∃ A' c', e = .returned (.agg (fldC ⟨0, A', xs.length, c', xs⟩).toArray) ∧ TxtF w' ⟨0, A', xs.length, c', xs⟩ ∧ Below w.heap.size w w' := by
 obtain ⟨w1, hw1⟩ : ∃ w1, w1 = w.alloc (.cells #[.int .i64 0, .slice none 0 0] 151) := ⟨_, rfl⟩
 have b1 : Below w.heap.size w w1 := hw1 ▸ (Below.refl _ _).alloc (Nat.le_refl _) _
 have HX : Hid (Blk w1 w.heap.size 151 #[.int .i64 0, .slice none 0 0]) := Lib.hid (hw1 ▸ Blk.new w _ _)
 have CC := clone_any (.slice A n c) xs w1 (hv.below b1 (Nat.le_refl _)) (by omega)
 have HB := Lib.hid b1
 have e1 := hw1.symm
 clear hv b1 hw1
 go_enter Tryz.func78, Tryz.ntmps78
 go_wp2_with (go_at_call 33; refine pause ?_)
 unfold Paused
 refine CC.mono ?_
 rintro e w2 ⟨A', c', rfl, hr, hk, hb⟩
 have HT : Hid (TxtF w2 ⟨0, A', xs.length, c', xs⟩) := Lib.hid ⟨hr, rfl, fun h0 => by
  obtain ⟨g, cs, ha, _, hg⟩ := hk h0
  exact ⟨g, 0, cs, _, ha, hg⟩⟩
 have HX2 := Lib.hid (HX.out.below hb HX.out.lt)
 have HB2 := Lib.hid (below_next HB.out hb)
 clear hr hk hb CC
 go_wp2_with (with_reducible (show wpList _ _ _ (Oper.mk _ (Op.store 151 _ _) _ _ _ _ :: _) _ _); refine pause ?_)
 unfold Paused
 refine wpList_store_row (by rfl) 151 (.tmp 2) (.tmp 5) (by rfl) w.heap.size #[.int .i64 0, .slice A' xs.length c'] (by rfl) (by rfl) 151 #[.int .i64 0, .slice none 0 0] HX2.out (by kernel_rfl) (by rfl) (by simp [Value.oneCell']) ?_
 have HF := Lib.hid (fld_end (w3 := w2.setRow w.heap.size #[.int .i64 0, .slice A' xs.length c']) HT.out HX2.out HB2.out rfl)
 generalize w2.setRow w.heap.size #[.int .i64 0, .slice A' xs.length c'] = w3 at HF ⊢
 simp only [Act.put]
 go_wp2
 exact bodyPost_ret (v := .agg #[.int .i64 0, .slice A' xs.length c']) (results_cell_row rfl _ _ w.heap.size 151 _ (0, 0) _ rfl HF.out.2.1 Tryz.underlying151 rfl (by kernel_rfl)) rfl ⟨A', c', rfl, HF.out.1, HF.out.2.2⟩
set_option maxRecDepth 100000 in
theorem ftext_any (s : ByteArray) (w : World) :
  Calls Tryz.prog 77 #[.string s] w fun e w' => ∃ A' c', e = .returned (.agg (fldC ⟨0, A', s.size, c', strB s⟩).toArray) ∧ TxtF w' ⟨0, A', s.size, c', strB s⟩ ∧ Below w.heap.size w w' := by
 obtain ⟨w1, hw1⟩ : ∃ w1, w1 = w.alloc (.cells #[.int .i64 0, .slice none 0 0] 151) := ⟨_, rfl⟩
 have b1 : Below w.heap.size w w1 := hw1 ▸ (Below.refl _ _).alloc (Nat.le_refl _) _
 have HX : Hid (Blk w1 w.heap.size 151 #[.int .i64 0, .slice none 0 0]) := Lib.hid (hw1 ▸ Blk.new w _ _)
 obtain ⟨c, w2, hcv, hr, ⟨cs, z, hg⟩, hb⟩ := strB_convE s w1
 obtain ⟨g1, hg1⟩ : ∃ g1, g1 = w1.heap.size := ⟨_, rfl⟩
 rw [← hg1] at hcv hr hg
 have HT : Hid (TxtF w2 ⟨0, some ⟨g1, 0, none⟩, s.size, c, strB s⟩) := Lib.hid ⟨hr, by rw [strB_len], fun h0 => ⟨g1, 0, cs, z, rfl, hg⟩⟩
 have HX2 := Lib.hid (HX.out.below hb HX.out.lt)
 have HB2 := Lib.hid (below_next b1 hb)
 have e1 := hw1.symm
 clear b1 hw1 hr hg hb hg1 HX
 go_enter Tryz.func77, Tryz.ntmps77
 go_wp2_with (with_reducible (show wpList _ _ _ (Oper.mk _ (Op.store 151 _ _) _ _ _ _ :: _) _ _); refine pause ?_)
 unfold Paused
 refine wpList_store_row (by rfl) 151 (.tmp 2) (.tmp 5) (by rfl) w.heap.size #[.int .i64 0, .slice (some ⟨g1, 0, none⟩) s.size c] (by rfl) (by rfl) 151 #[.int .i64 0, .slice none 0 0] HX2.out (by kernel_rfl) (by rfl) (by simp [Value.oneCell']) ?_
 have HF := Lib.hid (fld_end (w3 := w2.setRow w.heap.size #[.int .i64 0, .slice (some ⟨g1, 0, none⟩) s.size c]) HT.out HX2.out HB2.out rfl)
 generalize w2.setRow w.heap.size #[.int .i64 0, .slice (some ⟨g1, 0, none⟩) s.size c] = w3 at HF ⊢
 simp only [Act.put]
 go_wp2
 exact bodyPost_ret (v := .agg #[.int .i64 0, .slice (some ⟨g1, 0, none⟩) s.size c]) (results_cell_row rfl _ _ w.heap.size 151 _ (0, 0) _ rfl HF.out.2.1 Tryz.underlying151 rfl (by kernel_rfl)) rfl ⟨_, _, rfl, HF.out.1, HF.out.2.2⟩
end Go.Proofs.YtgcgomdhdgjpdaaGreatDoor
/- An entry's shape, and what its fields come to as bytes. -/
namespace Go.Proofs.YtgcgomdhdgjpdaaGreatDoor
open Go Go.RowKit
namespace Oc
def encP : List UInt8 → List (Int × List Nat) → List Nat
 | c :: s, f :: fs => enc c.toNat f.1 f.2 ++ encP s fs
 | _, _ => []
def fitP : List UInt8 → List (Int × List Nat) → Bool
 | c :: s, f :: fs => fits c.toNat f.1 f.2.length && fitP s fs
 | _, _ => true
theorem encP_app : ∀ (s : List UInt8) (fs : List (Int × List Nat)) (s2 : List UInt8) (gs : List (Int × List Nat)), s.length = fs.length → encP (s ++ s2) (fs ++ gs) = encP s fs ++ encP s2 gs
 | [], [], _, _, _ => rfl
 | [], _ :: _, _, _, h => by simp at h
 | _ :: _, [], _, _, h => by simp at h
 | c :: s, f :: fs, s2, gs, h => by
  rw [List.cons_append, List.cons_append, encP, encP, encP_app s fs s2 gs (by simpa using h), List.append_assoc]
theorem fitP_app : ∀ (s : List UInt8) (fs : List (Int × List Nat)) (s2 : List UInt8) (gs : List (Int × List Nat)), s.length = fs.length → fitP (s ++ s2) (fs ++ gs) = (fitP s fs && fitP s2 gs)
 | [], [], _, _, _ => rfl
 | [], _ :: _, _, _, h => by simp at h
 | _ :: _, [], _, _, h => by simp at h
 | c :: s, f :: fs, s2, gs, h => by
  rw [List.cons_append, List.cons_append, fitP, fitP, fitP_app s fs s2 gs (by simpa using h), Bool.and_assoc]
def fkey (f : Fld) : Int × List Nat := (f.n, f.bs)
theorem encs_P : ∀ (s : List UInt8) (fs : List Fld), encs s fs = encP s (fs.map fkey)
 | [], fs => by cases fs <;> rfl
 | _ :: _, [] => rfl
 | c :: s, f :: fs => by rw [List.map_cons, encs, encP, encs_P s fs]; rfl
theorem okTo_P : ∀ (s : List UInt8) (fs : List Fld), (∀ f ∈ fs, f.bs.length = f.l) → fitP s (fs.map fkey) = true → ∀ k, okTo s fs k
 | [], _, _, _, _ => fun i h _ _ => absurd h (by simp)
 | _ :: _, [], _, _, _ => fun i _ h _ => absurd h (by simp)
 | c :: s, f :: fs, hl, h, k => by
  rw [List.map_cons, fitP, Bool.and_eq_true] at h
  intro i h1 h2 h3
  cases i with
  | zero =>
   show fits c.toNat f.n f.l = true
   rw [← hl f (List.mem_cons_self ..)]
   exact h.1
  | succ i => exact okTo_P s fs (fun f hf => hl f (List.mem_cons_of_mem _ hf)) h.2 (i + 1) i (by simpa using h1) (by simpa using h2) (by omega)
end Oc
namespace En
def shapeL (nu no : Nat) : List UInt8 := [98, 113, 98] ++ ((98 :: Lib.repeatL [116, 111, 111] nu) ++ (98 :: Lib.repeatL [116] no))
def upF (u : Up) : List (Int × List Nat) := [(0, strB u.ref), (0, u.old), (0, u.new)]
def obF (x : List Nat) : Int × List Nat := (0, x)
def fields (e : E) : List (Int × List Nat) := [(e.client, []), (e.number, []), (e.answer, [])] ++ (((e.ups.length : Int), []) :: (e.ups.flatMap upF) ++ (((e.objs.length : Int), []) :: e.objs.map obF))
theorem repeat_ups (us : List Up) : (Lib.repeatL [116, 111, 111] us.length).length = (us.flatMap upF).length := by
 induction us with
 | nil => rfl
 | cons u us ih => rw [List.length_cons, Lib.repeatL, List.flatMap_cons, List.length_append, List.length_append, ih]; rfl
theorem repeat_objs (os : List (List Nat)) : (Lib.repeatL [116] os.length).length = (os.map obF).length := by
 induction os with
 | nil => rfl
 | cons u us ih => rw [List.length_cons, Lib.repeatL, List.map_cons, List.length_append, List.length_cons, ih]; simp; omega
theorem enc_t (n : Int) (bs : List Nat) : Oc.enc 116 n bs = Oc.nums 2 bs.length ++ bs := by unfold Oc.enc; rw [if_neg (by decide), if_pos rfl]
theorem enc_o (n : Int) (bs : List Nat) : Oc.enc 111 n bs = bs := by unfold Oc.enc; rw [if_pos rfl]
theorem enc_b (n : Int) (bs : List Nat) : Oc.enc 98 n bs = Oc.nums 1 n.toNat := by unfold Oc.enc; rw [if_neg (by decide), if_neg (by decide)]; rfl
theorem enc_q (n : Int) (bs : List Nat) : Oc.enc 113 n bs = Oc.nums 8 n.toNat := by unfold Oc.enc; rw [if_neg (by decide), if_neg (by decide)]; rfl
theorem enc_ups (us : List Up) : Oc.encP (Lib.repeatL [116, 111, 111] us.length) (us.flatMap upF) = laidUps us := by
 induction us with
 | nil => rfl
 | cons u us ih =>
  rw [List.length_cons, Lib.repeatL, List.flatMap_cons, Oc.encP_app [116, 111, 111] (upF u) _ _ rfl, ih]
  unfold laidUps
  rw [List.flatMap_cons]
  congr 1
  show Oc.enc 116 0 (strB u.ref) ++ (Oc.enc 111 0 u.old ++ (Oc.enc 111 0 u.new ++ [])) = _
  rw [enc_t, enc_o, enc_o, List.append_nil, List.append_assoc, List.append_assoc, List.append_assoc]
theorem enc_objs (os : List (List Nat)) : Oc.encP (Lib.repeatL [116] os.length) (os.map obF) = laidObjs os := by
 induction os with
 | nil => rfl
 | cons u us ih =>
  rw [List.length_cons, Lib.repeatL, List.map_cons, show obF u :: us.map obF = [obF u] ++ us.map obF from rfl, Oc.encP_app [116] [obF u] _ _ rfl, ih]
  unfold laidObjs
  rw [List.flatMap_cons]
  congr 1
  show Oc.enc 116 0 u ++ [] = _
  rw [enc_t, List.append_nil]
theorem fields_len (e : E) : (shapeL e.ups.length e.objs.length).length = (fields e).length := by
 unfold shapeL fields
 simp only [List.length_append, List.length_cons, repeat_ups, repeat_objs]
 rfl
theorem enc_all (e : E) : Oc.encP (shapeL e.ups.length e.objs.length) (fields e) = laid e := by
 unfold shapeL fields
 rw [Oc.encP_app [98, 113, 98] _ _ _ rfl, List.cons_append, show (((e.ups.length : Int), ([] : List Nat)) :: (e.ups.flatMap upF)) ++ (((e.objs.length : Int), []) :: e.objs.map obF) = [((e.ups.length : Int), [])] ++ (e.ups.flatMap upF ++ (((e.objs.length : Int), []) :: e.objs.map obF)) from rfl,
  show (98 : UInt8) :: (Lib.repeatL [116, 111, 111] e.ups.length ++ (98 :: Lib.repeatL [116] e.objs.length)) = [98] ++ (Lib.repeatL [116, 111, 111] e.ups.length ++ ([98] ++ Lib.repeatL [116] e.objs.length)) from rfl,
  show ((e.objs.length : Int), ([] : List Nat)) :: e.objs.map obF = [((e.objs.length : Int), [])] ++ e.objs.map obF from rfl,
  Oc.encP_app [98] _ _ _ rfl, Oc.encP_app _ _ _ _ (repeat_ups e.ups), Oc.encP_app [98] _ _ _ rfl, enc_ups, enc_objs]
 show (Oc.enc 98 e.client [] ++ (Oc.enc 113 e.number [] ++ (Oc.enc 98 e.answer [] ++ []))) ++ ((Oc.enc 98 (e.ups.length : Int) [] ++ []) ++ (laidUps e.ups ++ ((Oc.enc 98 (e.objs.length : Int) [] ++ []) ++ laidObjs e.objs))) = _
 rw [enc_b, enc_q, enc_b, enc_b, enc_b]
 simp [laid]
theorem fits_t {n : Int} {l : Nat} (h : l ≤ 65535) : Oc.fits 116 n l = true := by unfold Oc.fits; rw [if_neg (by decide), if_pos rfl]; exact decide_eq_true h
theorem fits_o (n : Int) : Oc.fits 111 n 32 = true := by unfold Oc.fits; rw [if_pos rfl]; rfl
theorem fits_b {n : Int} {l : Nat} (h0 : 0 ≤ n) (h : n ≤ 255) : Oc.fits 98 n l = true := by unfold Oc.fits; rw [if_neg (by decide), if_neg (by decide), decide_eq_true h0, decide_eq_true (show n ≤ Oc.most 98 from h)]; rfl
theorem fits_q {n : Int} {l : Nat} (h0 : 0 ≤ n) (h : n ≤ 4611686018427387903) : Oc.fits 113 n l = true := by unfold Oc.fits; rw [if_neg (by decide), if_neg (by decide), decide_eq_true h0, decide_eq_true (show n ≤ Oc.most 113 from h)]; rfl
theorem fit_ups (us : List Up) (hf : ∀ u ∈ us, u.Fit) (hr : ∀ u ∈ us, u.ref.size ≤ 65535) : Oc.fitP (Lib.repeatL [116, 111, 111] us.length) (us.flatMap upF) = true := by
 induction us with
 | nil => rfl
 | cons u us ih =>
  have h1 := hf u (List.mem_cons_self ..)
  rw [List.length_cons, Lib.repeatL, List.flatMap_cons, Oc.fitP_app [116, 111, 111] (upF u) _ _ rfl, ih (fun v hv => hf v (List.mem_cons_of_mem _ hv)) (fun v hv => hr v (List.mem_cons_of_mem _ hv)), Bool.and_true]
  show (Oc.fits 116 0 (strB u.ref).length && (Oc.fits 111 0 u.old.length && (Oc.fits 111 0 u.new.length && true))) = true
  rw [h1.1.1, h1.2.1, fits_o, fits_t (by rw [strB_len]; exact hr u (List.mem_cons_self ..))]
  rfl
theorem fit_objs (os : List (List Nat)) (hr : ∀ x ∈ os, x.length ≤ 65535) : Oc.fitP (Lib.repeatL [116] os.length) (os.map obF) = true := by
 induction os with
 | nil => rfl
 | cons u us ih =>
  rw [List.length_cons, Lib.repeatL, List.map_cons, show obF u :: us.map obF = [obF u] ++ us.map obF from rfl, Oc.fitP_app [116] [obF u] _ _ rfl, ih (fun v hv => hr v (List.mem_cons_of_mem _ hv)), Bool.and_true]
  show (Oc.fits 116 0 u.length && true) = true
  rw [fits_t (hr u (List.mem_cons_self ..))]
  rfl
structure Frm (e : E) : Prop where
 c0 : 0 ≤ e.client
 c1 : e.client < 8
 n0 : 1 ≤ e.number
 n1 : e.number ≤ 1099511627776
 a0 : 0 ≤ e.answer
 a1 : e.answer ≤ 10
 nu : e.ups.length ≤ 8
 no : e.objs.length ≤ 64
 refs : ∀ u ∈ e.ups, u.ref.size ≤ 24
 objs : ∀ x ∈ e.objs, x.length ≤ 300
theorem formed_frm {e : E} (h : formed e = true) : Frm e := by
 unfold formed at h
 simp only [Bool.and_eq_true, decide_eq_true_iff] at h
 obtain ⟨h1, h2, h3, h4, h5, h6, h7⟩ := h
 by_cases h0 : e.answer = 0
 ·rw [if_pos h0] at h7
  simp only [Bool.and_eq_true] at h7
  obtain ⟨hu, ho⟩ := h7
  unfold upsOk at hu
  unfold objsOk at ho
  simp only [Bool.and_eq_true, decide_eq_true_iff] at hu ho
  refine ⟨h1, h2, h3, h4, h5, h6, hu.2.1, ho.1, fun u hm => ?_, fun x hm => ?_⟩
  ·have := ((once_iff _).1 hu.2.2).1 (upKey u) (List.mem_map.2 ⟨u, hm, rfl⟩)
   unfold upKey at this
   simp only [Bool.and_eq_true] at this
   exact ref_size this.1
  ·have := ((once_iff _).1 ho.2).1 (obKey x) (List.mem_map.2 ⟨x, hm, rfl⟩)
   exact ((objOk_iff x).1 this).1
 ·rw [if_neg h0] at h7
  simp only [Bool.and_eq_true, decide_eq_true_iff] at h7
  have e1 := List.length_eq_zero_iff.1 h7.1
  have e2 := List.length_eq_zero_iff.1 h7.2
  refine ⟨h1, h2, h3, h4, h5, h6, by omega, by omega, fun u hm => ?_, fun x hm => ?_⟩
  ·rw [e1] at hm; cases hm
  ·rw [e2] at hm; cases hm
theorem fit_all {e : E} (h : Frm e) (hf : ∀ u ∈ e.ups, u.Fit) : Oc.fitP (shapeL e.ups.length e.objs.length) (fields e) = true := by
 unfold shapeL fields
 rw [Oc.fitP_app [98, 113, 98] _ _ _ rfl, List.cons_append, show (((e.ups.length : Int), ([] : List Nat)) :: (e.ups.flatMap upF)) ++ (((e.objs.length : Int), []) :: e.objs.map obF) = [((e.ups.length : Int), [])] ++ (e.ups.flatMap upF ++ (((e.objs.length : Int), []) :: e.objs.map obF)) from rfl,
  show (98 : UInt8) :: (Lib.repeatL [116, 111, 111] e.ups.length ++ (98 :: Lib.repeatL [116] e.objs.length)) = [98] ++ (Lib.repeatL [116, 111, 111] e.ups.length ++ ([98] ++ Lib.repeatL [116] e.objs.length)) from rfl,
  show ((e.objs.length : Int), ([] : List Nat)) :: e.objs.map obF = [((e.objs.length : Int), [])] ++ e.objs.map obF from rfl,
  Oc.fitP_app [98] _ _ _ rfl, Oc.fitP_app _ _ _ _ (repeat_ups e.ups), Oc.fitP_app [98] _ _ _ rfl, fit_ups e.ups hf (fun u hu => by have := h.refs u hu; omega), fit_objs e.objs (fun x hx => by have := h.objs x hx; omega)]
 show ((Oc.fits 98 e.client 0 && (Oc.fits 113 e.number 0 && (Oc.fits 98 e.answer 0 && true))) && ((Oc.fits 98 (e.ups.length : Int) 0 && true) && (true && ((Oc.fits 98 (e.objs.length : Int) 0 && true) && true)))) = true
 have := h.c0
 have := h.c1
 have := h.n0
 have := h.n1
 have := h.a0
 have := h.a1
 have := h.nu
 have := h.no
 rw [fits_b (by omega) (by omega), fits_q (by omega) (by omega), fits_b (by omega) (by omega), fits_b (by omega) (by omega), fits_b (by omega) (by omega)]
 rfl
theorem known_shape (nu no : Nat) : Oc.known (shapeL nu no) = true := by
 have h3 : ∀ n, Oc.known (Lib.repeatL [116, 111, 111] n) = true := fun n => by
  induction n with
  | zero => rfl
  | succ n ih => rw [Lib.repeatL]; unfold Oc.known at ih ⊢; rw [List.all_append, ih]; decide +kernel
 have h1 : ∀ n, Oc.known (Lib.repeatL [116] n) = true := fun n => by
  induction n with
  | zero => rfl
  | succ n ih => rw [Lib.repeatL]; unfold Oc.known at ih ⊢; rw [List.all_append, ih]; decide +kernel
 have e1 := h3 nu
 have e2 := h1 no
 unfold Oc.known at e1 e2 ⊢
 unfold shapeL
 have e3 : (98 :: Lib.repeatL [116, 111, 111] nu).all Oc.isL = true := by rw [List.all_cons, e1]; decide +kernel
 have e4 : (98 :: Lib.repeatL [116] no).all Oc.isL = true := by rw [List.all_cons, e2]; decide +kernel
 rw [List.all_append, List.all_append, e3, e4]
 decide +kernel
end En
end Go.Proofs.YtgcgomdhdgjpdaaGreatDoor
/- An entry's shape: entry.shape. -/
namespace Go.Proofs.YtgcgomdhdgjpdaaGreatDoor
open Go Go.RowKit
theorem rep_size (l : List UInt8) (n : Nat) : (⟨(Lib.repeatL l n).toArray⟩ : ByteArray).size = n * l.length := by
 show (Lib.repeatL l n).toArray.size = _
 rw [List.size_toArray, Lib.repeatL_length]
def En.shape (nu no : Nat) : ByteArray := ⟨(En.shapeL nu no).toArray⟩
theorem shape_size (nu no : Nat) : (En.shape nu no).size = 5 + nu * 3 + no := by
 show (En.shapeL nu no).toArray.size = _
 rw [List.size_toArray]
 unfold En.shapeL
 simp only [List.length_append, List.length_cons, Lib.repeatL_length, List.length_nil]
 omega
theorem ba_size (a b : ByteArray) : (a ++ b).size = a.size + b.size := by simp
theorem shape_eq (nu no : Nat) (T1 T2 B1 B2 : ByteArray) (h1 : T1 = ⟨(Lib.repeatL [116, 111, 111] nu).toArray⟩) (h2 : T2 = ⟨(Lib.repeatL [116] no).toArray⟩) (h3 : B1 = { data := #[98] } ++ T1) (h4 : B2 = { data := #[98] } ++ T2) : ({ data := #[98, 113, 98] } ++ B1) ++ B2 = En.shape nu no := by
 subst h3 h4 h1 h2
 apply ByteArray.ext
 apply Array.ext'
 simp [En.shape, En.shapeL]
set_option maxRecDepth 100000 in
set_option maxHeartbeats 2000000 in
theorem shape_any (e : En.E) (ca : Array Value) (U O : Option Addr) (cu co : Nat) (ts : List En.Bt) (w : World) (h : EnC w e ca U cu O co ts) (hu : e.ups.length ≤ 8) (ho : e.objs.length ≤ 64) :
  Calls Tryz.prog 80 #[.agg ca] w fun r w' => r = .returned (.string (En.shape e.ups.length e.objs.length)) ∧ Below w.heap.size w w' := by
 obtain ⟨w1, hw1⟩ : ∃ w1, w1 = w.alloc (.cells ca 32) := ⟨_, rfl⟩
 have hb : EnB w w1 e ca U cu O co ts := hw1 ▸ EnB.of h
 have p3 := hb.c3
 have HB := Lib.hid hb
 have e1 := hw1.symm
 obtain ⟨nu, hnu⟩ : ∃ n, n = e.ups.length := ⟨_, rfl⟩
 obtain ⟨no, hno⟩ : ∃ n, n = e.objs.length := ⟨_, rfl⟩
 rw [← hnu] at p3 hu ⊢
 rw [← hno] at ho ⊢
 have HNO := Lib.hid hno
 have HU := Lib.hid hu
 have HO := Lib.hid ho
 have C1 := Tryz.strings_Repeat { data := #[116, 111, 111] } nu w1 (by omega) (by show 3 * nu ≤ _; omega)
 clear h hb hw1 hnu hno hu ho
 go_enter Tryz.func80, Tryz.ntmps80
 go_wp2_with (go_at_call 109; refine pause ?_)
 unfold Paused
 refine C1.mono ?_
 rintro r w2 ⟨rfl, hb2⟩
 obtain ⟨T1, hT1⟩ : ∃ T : ByteArray, T = ⟨(Lib.repeatL ({ data := #[116, 111, 111] } : ByteArray).data.toList nu).toArray⟩ := ⟨_, rfl⟩
 rw [← hT1]
 have z1 : (T1.size : Int) ≤ 100 := by rw [hT1, rep_size]; show ((nu * 3 : Nat) : Int) ≤ 100; have := HU.out; omega
 have HT1 := Lib.hid hT1
 have HB2 := Lib.hid (HB.out.below hb2)
 have p4 := HB2.out.c4
 rw [← HNO.out] at p4
 have C2 := Tryz.strings_Repeat { data := #[116] } no w2 (by have := HO.out; omega) (by have := HO.out; show 1 * no ≤ _; omega)
 clear hb2 C1 p3 hT1
 have q1 : (Op.stringOp .add { data := #[98] } T1).run Tryz.prog w2 = .ok (.string ({ data := #[98] } ++ T1)) w2 := run_string_add_sum w2 _ _ (by show 1 + T1.size ≤ _; omega)
 go_wp2_with (go_at_call 109; refine pause ?_)
 unfold Paused
 refine C2.mono ?_
 rintro r w3 ⟨rfl, hb3⟩
 obtain ⟨T2, hT2⟩ : ∃ T : ByteArray, T = ⟨(Lib.repeatL ({ data := #[116] } : ByteArray).data.toList no).toArray⟩ := ⟨_, rfl⟩
 rw [← hT2]
 have z2 : (T2.size : Int) ≤ 100 := by rw [hT2, rep_size]; show ((no * 1 : Nat) : Int) ≤ 100; have := HO.out; omega
 have HT2 := Lib.hid hT2
 have HB3 := Lib.hid (HB2.out.below hb3)
 clear hb3 C2 p4 hT2 q1
 obtain ⟨B1, hB1⟩ : ∃ B : ByteArray, B = { data := #[98] } ++ T1 := ⟨_, rfl⟩
 rw [← hB1]
 obtain ⟨B2, hB2⟩ : ∃ B : ByteArray, B = { data := #[98] } ++ T2 := ⟨_, rfl⟩
 have y1 : B1.size ≤ 101 := by rw [hB1, ba_size]; show 1 + T1.size ≤ _; omega
 have y2 : B2.size ≤ 101 := by rw [hB2, ba_size]; show 1 + T2.size ≤ _; omega
 have q2 : (Op.stringOp .add { data := #[98] } T2).run Tryz.prog w3 = .ok (.string B2) w3 := by rw [hB2]; exact run_string_add_sum w3 _ _ (by show 1 + T2.size ≤ _; omega)
 have q3 : (Op.stringOp .add { data := #[98, 113, 98] } B1).run Tryz.prog w3 = .ok (.string ({ data := #[98, 113, 98] } ++ B1)) w3 := run_string_add_sum w3 _ _ (by show 3 + B1.size ≤ _; omega)
 have q4 : (Op.stringOp .add ({ data := #[98, 113, 98] } ++ B1) B2).run Tryz.prog w3 = .ok (.string (({ data := #[98, 113, 98] } ++ B1) ++ B2)) w3 := run_string_add_sum w3 _ _ (by rw [ba_size]; show 3 + B1.size + B2.size ≤ _; omega)
 have HS := Lib.hid (shape_eq nu no T1 T2 B1 B2 HT1.out HT2.out hB1 hB2)
 clear z1 z2 hB1 hB2 y1 y2
 go_wp2
 go_ret
 exact ⟨by rw [← HS.out]; rfl, HB3.out.bel⟩
end Go.Proofs.YtgcgomdhdgjpdaaGreatDoor
