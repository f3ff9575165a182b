/- Layer 5: what deeds leave of all else, by types; a half is wiped. -/
import Derived.Test.YtdokojlgcplefaaDoorMHv5
import Derived.Laws.Cover3
namespace Go.Proofs.YtdokojlgcplefaaDoor
open Go Go.RowKit
structure TFr (B : Nat) (w w' : World) : Prop where
 os : w'.os = w.os
 tape : w'.tape = w.tape
 output : w'.output = w.output
 size : w.heap.size ≤ w'.heap.size
 low : ∀ b, b < B → b < w.heap.size → w'.heap[b]? = w.heap[b]?
 rows : ∀ (b : Nat) (t : TypeId) (cs : Array Value) (z : Nat × Nat), w.heap[b]? = some (Obj.cells cs t z) → t ≠ 53 → t ≠ 68 → w'.heap[b]? = some (Obj.cells cs t z)
theorem TFr.typed {B : Nat} {w w' : World} (h : TFr B w w') : ∀ b t cs, Blk w b t cs → t ≠ 53 → t ≠ 68 → Blk w' b t cs := fun b t cs hb h1 h2 => h.rows b t cs _ hb h1 h2
theorem TFr.refl {B : Nat} {w : World} : TFr B w w := ⟨rfl, rfl, rfl, Nat.le_refl _, fun _ _ _ => rfl, fun _ _ _ _ h _ _ => h⟩
theorem TFr.trans {B : Nat} {a b c : World} (h : TFr B a b) (k : TFr B b c) : TFr B a c :=
 ⟨k.os.trans h.os, k.tape.trans h.tape, k.output.trans h.output, Nat.le_trans h.size k.size, fun x hx hl => (k.low x hx (Nat.lt_of_lt_of_le hl h.size)).trans (h.low x hx hl), fun x t cs z hb h1 h2 => k.rows x t cs z (h.rows x t cs z hb h1 h2) h1 h2⟩
theorem TFr.below {B : Nat} {w w' : World} (h : Below w.heap.size w w') : TFr B w w' := ⟨h.os, h.tape, h.output, h.size, fun b _ hl => h.block b hl, fun b _t _cs _z hb _ _ => (h.block b (Array.getElem?_eq_some_iff.1 hb).1).trans hb⟩
theorem TFr.run {B : Nat} {w0 w w' : World} (h : TFr B w w') (hB : w0.heap.size ≤ B) (hb : Below w0.heap.size w0 w) : Below w0.heap.size w0 w' :=
 ⟨h.os.trans hb.os, h.tape.trans hb.tape, h.output.trans hb.output, Nat.le_trans hb.size h.size, fun b hi => (h.low b (by omega) (Nat.lt_of_lt_of_le hi hb.size)).trans (hb.block b hi)⟩
section
variable {B : Nat} {w w' : World} {d ms ml k : Nat} {S : Dk.D} {v : Value}
theorem dk_rows {b : Nat} (h : DkAt B w d S ms ml v k) (hb : b = d ∨ b = ms ∨ b = ml ∨ v.ownBlock = some b) : (∃ es c, w.heap[b]? = some (Obj.map es c)) ∨ ∃ cs t, w.heap[b]? = some (Obj.cells cs t (0, 0)) ∧ (t = 53 ∨ t = 68) := by
 obtain ⟨⟨c1, c2, fS, h1, _, _⟩, _, _⟩ := h
 rcases hb with rfl | rfl | rfl | hb
 ·exact Or.inr ⟨_, _, h1.blk, Or.inl rfl⟩
 ·obtain ⟨D, ⟨es, clock, h2, _⟩, _⟩ := h1.safe; exact Or.inl ⟨_, _, h2⟩
 ·obtain ⟨D, ⟨es, clock, h2, _⟩, _⟩ := h1.last; exact Or.inl ⟨_, _, h2⟩
 ·rcases h1.row.2 with ⟨hv, _⟩ | ⟨g', cap, cur, hv, _, hh, _⟩
  ·rw [hv] at hb; simp [Value.ownBlock] at hb
  ·rw [hv] at hb; simp [Value.ownBlock] at hb
   subst hb
   exact Or.inr ⟨_, _, hh, Or.inr rfl⟩
theorem DkAt.otherZ (hd : DkAt B w d S ms ml v k) {b t : Nat} {cs : Array Value} {z : Nat × Nat} (hb : w.heap[b]? = some (Obj.cells cs t z)) (h1 : t ≠ 53) (h2 : t ≠ 68) : ∀ b', (b' = d ∨ b' = ms ∨ b' = ml ∨ v.ownBlock = some b') → b ≠ b' := fun b' hx e => by
 subst e
 rcases dk_rows hd hx with ⟨es, c, hm⟩ | ⟨cs', t', hc, ht⟩
 ·rw [hb] at hm; cases hm
 ·have := hb.symm.trans hc
  injection this with this
  injection this with _ e _
  subst e
  rcases ht with ht | ht
  ·exact h1 ht
  ·exact h2 ht
theorem DkAt.other (hd : DkAt B w d S ms ml v k) {b t : Nat} {cs : Array Value} (hb : Blk w b t cs) (h1 : t ≠ 53) (h2 : t ≠ 68) : ∀ b', (b' = d ∨ b' = ms ∨ b' = ml ∨ v.ownBlock = some b') → b ≠ b' := hd.otherZ hb h1 h2
theorem DkAt.tfr (hd : DkAt B w d S ms ml v k) (hf : Fr w w' d ms ml v) : TFr B w w' := by
 refine ⟨hf.os, hf.tape, hf.output, hf.size, fun b hb hl => ?_, fun b t cs z hb h1 h2 => ?_⟩
 ·have l := hd.lts
  refine hf.block b hl (fun e => ?_) (fun e => ?_) (fun e => ?_) (fun e => ?_)
  ·have := (l b (Or.inl e)).1; omega
  ·have := (l b (Or.inr (Or.inl e))).1; omega
  ·have := (l b (Or.inr (Or.inr (Or.inl e)))).1; omega
  ·have := (l b (Or.inr (Or.inr (Or.inr e.symm)))).1; omega
 ·have key := hd.otherZ hb h1 h2
  exact (hf.block b (Array.getElem?_eq_some_iff.1 hb).1 (key d (Or.inl rfl)) (key ms (Or.inr (Or.inl rfl))) (key ml (Or.inr (Or.inr (Or.inl rfl)))) (fun e => key b (Or.inr (Or.inr (Or.inr e.symm))) rfl)).trans hb
end
theorem rdB_nil (w : World) (p : Nat) : RdB w p (.slice none 0 0) [] := ⟨none, 0, rfl, Nat.le_refl _, fun h => absurd h (by simp)⟩
def DkX (B : Nat) (w : World) (d : Nat) (S : Dk.D) (k : Nat) : Prop := ∃ ms ml v, DkAt B w d S ms ml v k
theorem DkX.below {B : Nat} {w w' : World} {d k : Nat} {S : Dk.D} (h : DkX B w d S k) (hb : Below w.heap.size w w') : DkX B w' d S k := by
 obtain ⟨ms, ml, v, h⟩ := h; exact ⟨ms, ml, v, h.below hb⟩
theorem DkX.mono {B : Nat} {w : World} {d k k' : Nat} {S : Dk.D} (h : DkX B w d S k) (hk : k ≤ k') : DkX B w d S k' := by
 obtain ⟨ms, ml, v, h⟩ := h; exact ⟨ms, ml, v, h.mono hk⟩
theorem DkX.ok {B : Nat} {w : World} {d k : Nat} {S : Dk.D} (h : DkX B w d S k) : Dk.Ok S := by obtain ⟨ms, ml, v, h⟩ := h; exact h.ok
theorem DkX.lt {B : Nat} {w : World} {d k : Nat} {S : Dk.D} (h : DkX B w d S k) : B ≤ d ∧ d < w.heap.size := by obtain ⟨ms, ml, v, h⟩ := h; exact h.lts d (Or.inl rfl)
theorem DkX.kept {B : Nat} {w w' : World} {d k : Nat} {S : Dk.D} (h : DkX B w d S k) {row : Option Nat} (hg : w.grownBy w' row) (hr : ∀ g, row = some g → ∃ cs t, Blk w g t cs ∧ t ≠ 53 ∧ t ≠ 68) : DkX B w' d S k := by
 obtain ⟨ms, ml, v, h⟩ := h
 refine ⟨ms, ml, v, h.stands fun b hb => hg.block b (h.lts b hb).2 fun e => ?_⟩
 obtain ⟨cs, t, h1, h2, h3⟩ := hr b e.symm
 exact h.other h1 h2 h3 b hb rfl
section
variable {B : Nat} {d k : Nat} {S : Dk.D}
theorem xread_any (f z i : Nat) (w : World) (h : DkX B w d S k) (ho : S.off = false) (hi : f + i < S.size) :
  Calls Tryd.prog 47 #[halfV d f z, .int .i64 (i : Int)] w fun e w' => ∃ g, e = .returned (.slice (some ⟨g, 0, none⟩) 32 32) ∧ Blk w' g 66 (u8s (Dk.seen S (f + i))) ∧ w.heap.size ≤ g ∧ Below w.heap.size w w' := by
 obtain ⟨ms, ml, v, h⟩ := h; exact hread_any f z i w h ho hi
theorem xwrite_any (f z i : Nat) (A : Option Addr) (n c : Nat) (bs : List Nat) (aD : Addr) (w : World) (h : DkX B w d S k) (hi : f + i < S.size) (hn : n ≤ 32) (hv : RdB w d (.slice A n c) bs) (hb : Sha.Byte bs) (hk : k < 1000000)
  (hD : w.cell? ⟨2, 0, none⟩ = some (ev aD)) (hne : d ≠ 2) :
  Calls Tryd.prog 41 #[halfV d f z, .int .i64 (i : Int), .slice A n c] w fun e w' => e = outc (Dk.done S) unitV aD ∧ DkX B w' d (Dk.wrote S (f + i) bs) (k + 1) ∧ TFr B w w' := by
 obtain ⟨ms, ml, v, h⟩ := h
 exact (hwrite_any f z i A n c bs aD w h hi hn hv hb hk hD hne).mono fun e w' ⟨h1, ⟨v', h2⟩, h3⟩ => ⟨h1, ⟨ms, ml, v', h2⟩, h.tfr h3⟩
theorem xsync_any (f z : Nat) (aD : Addr) (w : World) (h : DkX B w d S k) (hk : k < 1000000) (hD : w.cell? ⟨2, 0, none⟩ = some (ev aD)) (hne : d ≠ 2) :
  Calls Tryd.prog 26 #[halfV d f z] w fun e w' => e = outc (Dk.done S) unitV aD ∧ DkX B w' d (Dk.syncs S) (k + 1) ∧ TFr B w w' := by
 obtain ⟨ms, ml, v, h⟩ := h
 exact (hsync_any f z aD w h hk hD hne).mono fun e w' ⟨h1, ⟨v', h2⟩, h3⟩ => ⟨h1, ⟨ms, ml, v', h2⟩, h.tfr (h3 v)⟩
theorem xhead_any (f z : Nat) (a : Nat → Addr) (w : World) (h : DkX B w d S k) (ho : S.off = false) (hi : f < S.size) (hS : HSents w a) (ht : Tabs w) :
  Calls Tryd.prog 34 #[halfV d f z] w fun e w' => e = .returned (.agg #[.int .i64 ((Hv.headM (Dk.seen S f)).1 : Nat), .int .i64 ((Hv.headM (Dk.seen S f)).2 : Nat)]) ∧ Below w.heap.size w w' := by
 obtain ⟨ms, ml, v, h⟩ := h; exact hhead_any f z a w h ho hi hS ht
end
namespace Hv
def zs : List Nat := List.replicate 32 0
def wipeN (f : Nat) : Nat → Nat → Dk.D → Bool × Bool × Dk.D
 | _, 0, S => (true, false, S)
 | i, n + 1, S => if Dk.seen S (f + i) = zs then wipeN f (i + 1) n S else if Dk.done S then ((wipeN f (i + 1) n (Dk.wrote S (f + i) [])).1, true, (wipeN f (i + 1) n (Dk.wrote S (f + i) [])).2.2) else (false, true, Dk.wrote S (f + i) [])
end Hv
theorem wrote_nums (S : Dk.D) (i : Nat) (bs : List Nat) : (Dk.wrote S i bs).size = S.size ∧ (Dk.wrote S i bs).armed = S.armed ∧ (Dk.wrote S i bs).off = !Dk.done S := by
 unfold Dk.wrote Dk.done
 cases ho : S.off
 ·cases hz : Dk.dead S
  ·cases ha : S.armed <;> simp [Dk.wr, Dk.did, ha, ho]
  ·simp
 ·simp [ho]
theorem syncs_nums (S : Dk.D) : (Dk.syncs S).size = S.size ∧ (Dk.syncs S).armed = S.armed ∧ (Dk.syncs S).off = !Dk.done S := by
 unfold Dk.syncs Dk.done
 cases ho : S.off
 ·cases hz : Dk.dead S
  ·obtain ⟨_, h2, h3, h4, h5, h6⟩ := Dk.puts_keeps (Dk.did S) (Dk.did S).pend
   simp only [Dk.synced, h2, h3, h4, h5, h6]
   cases ha : S.armed <;> simp [Dk.did, ha, ho]
  ·simp
 ·simp [ho]
set_option maxRecDepth 100000 in
theorem eq_zero32 {ws : List Nat} (hl : ws.length = 32) (hb : Sha.Byte ws) (w : World) : (Op.equalIn 10000 65 (.agg (u8s ws)) (.agg #[Value.int .u8 0, Value.int .u8 0, Value.int .u8 0, Value.int .u8 0, Value.int .u8 0, Value.int .u8 0, Value.int .u8 0, Value.int .u8 0, Value.int .u8 0, Value.int .u8 0, Value.int .u8 0, Value.int .u8 0, Value.int .u8 0, Value.int .u8 0, Value.int .u8 0, Value.int .u8 0, Value.int .u8 0, Value.int .u8 0, Value.int .u8 0, Value.int .u8 0, Value.int .u8 0, Value.int .u8 0, Value.int .u8 0, Value.int .u8 0, Value.int .u8 0, Value.int .u8 0, Value.int .u8 0, Value.int .u8 0, Value.int .u8 0, Value.int .u8 0, Value.int .u8 0, Value.int .u8 0])).run Tryd.prog w = .ok (ws == Hv.zs) w := by
 rw [← zeroSec]
 exact run_equalIn_u8s w _ _ 32 Tryd.underlying65 Tryd.underlying5 sec_u8 ws _ hl (by simp) hb (Sha.Byte.zeros 32)
set_option maxRecDepth 100000 in
set_option maxHeartbeats 1000000 in
theorem hwipe_any {B d k : Nat} {S : Dk.D} (f z i n : Nat) (a : Nat → Addr) (w0 w : World) (h : DkX B w d S k) (ho : S.off = false) (hz : i + n = z) (hi : f + z ≤ S.size) (hk : k + n < 1000000) (hS : HSents w0 a) (hB : w0.heap.size ≤ B) (hb : Below w0.heap.size w0 w) :
  Calls Tryd.prog 39 #[halfV d f z, .int .i64 (i : Int)] w fun e w' => e = outc (Hv.wipeN f i n S).1 (.bool (Hv.wipeN f i n S).2.1) (a 15) ∧ DkX B w' d (Hv.wipeN f i n S).2.2 (k + n) ∧ TFr B w w' := by
 have HS := Lib.hid hS
 have HB := Lib.hid hb
 have HB0 := Lib.hid hB
 have HD0 := Lib.hid (h.below (below_halfBox w d f z))
 have HSZ : Hid (S.size ≤ 4096) := Lib.hid h.ok.size
 have HNE : Hid (d ≠ 2) := Lib.hid (fun e => by have h1 := (hS 15 (by omega)).lt; have h2 := h.lt.1; have h4 : sgs.getD 15 0 = 2 := rfl; omega)
 have HX0 : Hid (Blk (halfBox w d f z) w.heap.size 56 #[.pointer (some ⟨d, 0, none⟩), .int .i64 (f : Int), .int .i64 (z : Int)]) := Lib.hid (Blk.new w _ _)
 obtain ⟨R, hR⟩ : ∃ R, R = Hv.wipeN f i n S := ⟨_, rfl⟩
 rw [← hR]
 have HR0 : Hid (R = ((Hv.wipeN f i n S).1, false || (Hv.wipeN f i n S).2.1, (Hv.wipeN f i n S).2.2)) := Lib.hid (by rw [hR]; simp)
 clear h hS hB hb hR
 unfold halfV
 go_enter Tryd.func39, Tryd.ntmps39
 go_wp2_with fail
 have HT0 : Hid (TFr B w (halfBox w d f z)) := Lib.hid (TFr.below (below_halfBox w d f z))
 go_loopw [5, 6] (fun u j wr => ∃ m : Nat, m ≤ n ∧ j = .int .i64 ((i + m : Nat) : Int) ∧ ∃ st S', u = .bool st ∧ S'.off = false ∧ S'.size = S.size ∧ Hid (R = ((Hv.wipeN f (i + m) (n - m) S').1, st || (Hv.wipeN f (i + m) (n - m) S').2.1, (Hv.wipeN f (i + m) (n - m) S').2.2)) ∧ Hid (DkX B wr d S' (k + m)) ∧ Hid (TFr B (halfBox w d f z) wr)) (fun _ j _ => i + n - (intOf j).toNat)
 case atStart => exact ⟨0, Nat.zero_le _, rfl, false, S, rfl, ho, rfl, HR0, HD0, Lib.hid TFr.refl⟩
 case round =>
  obtain ⟨m, hm, rfl, st, S', rfl, ho', hs', HR, HD, HT⟩ := hrel
  have HX := Lib.hid (HT.out.typed _ _ _ HX0.out (by decide) (by decide))
  have c2 : wr.cell? ⟨w.heap.size, 2, none⟩ = some (.int .i64 (z : Int)) := HX.out.cell 2
  by_cases hlt : m < n
  ·have i0 : ((i + m : Nat) : Int) < (z : Int) := by omega
   have HW : Hid (wrap64 ((i : Int) + (m : Int) + 1) = ((i + (m + 1) : Nat) : Int)) := Lib.hid (by rw [IntWalk.wrap64_in _ (by have := HSZ.out; omega)]; omega)
   obtain ⟨r, hr⟩ : ∃ r, n - m = r + 1 := ⟨n - m - 1, by omega⟩
   have hr2 : r = n - (m + 1) := by omega
   have HRR := Lib.hid hr
   have HR2 := Lib.hid hr2
   have HLT := Lib.hid hlt
   have HM := Lib.hid hm
   have HO := Lib.hid ho'
   have HSS := Lib.hid hs'
   have CR := xread_any f z (i + m) wr HD.out ho' (by rw [hs']; omega)
   obtain ⟨bs, hbs⟩ : ∃ bs, bs = Dk.seen S' (f + (i + m)) := ⟨_, rfl⟩
   rw [← hbs] at CR
   have HBS := Lib.hid hbs
   have HBL : Hid (bs.length = 32) := Lib.hid (by rw [hbs]; exact seen_len HD.out.ok _)
   have HBY : Hid (Sha.Byte bs) := Lib.hid (by rw [hbs]; exact seen_byte HD.out.ok _)
   clear hr hr2 hlt hm ho' hs' hbs
   go_wp2_with (refine wpList_load_row rfl 56 (.tmp 2) rfl w.heap.size rfl 56 _ (0,0) _ HX.out Tryd.underlying56 rfl (by kernel_rfl) ?_)
   go_at_call 47
   refine CR.mono ?_
   rintro e w1 ⟨g, rfl, hk1, hg1, hb1⟩
   have HK1 := Lib.hid hk1
   have HB1 := Lib.hid hb1
   clear hk1 hg1 hb1 CR
   have hat : ∀ w, (Instr.arrayAt 65 (.slice (some ⟨g, 0, none⟩) 32 32)).run Tryd.prog w = .ok (.pointer (some ⟨g, 0, none⟩)) w := fun w => run_arrayAt w 65 _ 32 _ 32 32 Tryd.underlying65 (Nat.le_refl _)
   have hq := eq_zero32 HBL.out HBY.out
   have HDR : Hid (DkX B w1 d S' (k + m)) := Lib.hid (HD.out.below HB1.out)
   have HTR : Hid (TFr B (halfBox w d f z) w1) := Lib.hid (HT.out.trans (TFr.below HB1.out))
   have HX1 : Hid (Blk w1 w.heap.size 56 #[.pointer (some ⟨d, 0, none⟩), .int .i64 (f : Int), .int .i64 (z : Int)]) := Lib.hid (HX.out.below HB1.out HX.out.lt)
   cases hz0 : (bs == Hv.zs) with
   | true =>
    have HE : Hid (Hv.wipeN f (i + m) (n - m) S' = Hv.wipeN f (i + (m + 1)) (n - (m + 1)) S') := Lib.hid (by
     rw [HRR.out, ← HR2.out]
     show (if Dk.seen S' (f + (i + m)) = Hv.zs then _ else _) = _
     rw [← HBS.out, if_pos (by simpa using hz0)]
     rfl)
    have HR3 : Hid (R = ((Hv.wipeN f (i + (m + 1)) (n - (m + 1)) S').1, st || (Hv.wipeN f (i + (m + 1)) (n - (m + 1)) S').2.1, (Hv.wipeN f (i + (m + 1)) (n - (m + 1)) S').2.2)) := Lib.hid (by rw [HR.out, HE.out])
    rw [hz0] at hq
    clear hz0
    go_wp2_with (refine wpList_load_row rfl 65 (.tmp 17) rfl g rfl 66 (u8s bs) (0,0) _ HK1.out Tryd.underlying65 rfl (by rw [u8s_size, HBL.out]; kernel_rfl) ?_)
    refine ⟨⟨m + 1, HLT.out, by rw [HW.out], st, S', rfl, HO.out, HSS.out, HR3, Lib.hid (HDR.out.mono (by omega)), HTR⟩, by have := HLT.out; rw [HW.out]; simp [intOf]; omega⟩
   | false =>
    rw [hz0] at hq
    have HNZ : Hid (¬ Dk.seen S' (f + (i + m)) = Hv.zs) := Lib.hid (by rw [← HBS.out]; simpa using hz0)
    obtain ⟨dn, hdn⟩ : ∃ dn, dn = Dk.done S' := ⟨_, rfl⟩
    have HDN := Lib.hid hdn
    have CW := xwrite_any f z (i + m) none 0 0 [] (a 15) w1 HDR.out (by rw [HSS.out]; have := HLT.out; omega) (Nat.zero_le _) (rdB_nil _ _) (fun i => by simp) (by have := HLT.out; omega) ((HS.out.below ((HTR.out).run HB0.out (below_then HB.out (below_halfBox w d f z))) (Nat.le_refl _)) 15 (by omega)).var HNE.out
    rw [← hdn] at CW
    clear hz0 hdn
    cases dn with
    | false =>
     have HFIN : Hid (R = (false, true, Dk.wrote S' (f + (i + m)) [])) := Lib.hid (by
      rw [HR.out, HRR.out]
      have e : Hv.wipeN f (i + m) (r + 1) S' = (false, true, Dk.wrote S' (f + (i + m)) []) := by
       show (if Dk.seen S' (f + (i + m)) = Hv.zs then _ else if Dk.done S' then _ else _) = _
       rw [if_neg HNZ.out, if_neg (by rw [← HDN.out]; simp)]
      rw [e]
      simp)
     go_wp2_with (first | (refine wpList_load_row rfl 65 (.tmp 17) rfl g rfl 66 (u8s bs) (0,0) _ HK1.out Tryd.underlying65 rfl (by rw [u8s_size, HBL.out]; kernel_rfl) ?_) | (refine wpList_load_row rfl 56 (.tmp 2) rfl w.heap.size rfl 56 _ (0,0) _ HX1.out Tryd.underlying56 rfl (by kernel_rfl) ?_))
     go_at_call 41
     refine CW.mono ?_
     rintro e w2 ⟨rfl, hd2, ht2⟩
     refine ⟨rfl, ?_⟩
     rw [HFIN.out]
     exact ⟨rfl, hd2.mono (by have := HLT.out; omega), HT0.out.trans (HTR.out.trans ht2)⟩
    | true =>
     have HO2 : Hid ((Dk.wrote S' (f + (i + m)) []).off = false) := Lib.hid (by rw [(wrote_nums _ _ _).2.2, ← HDN.out]; rfl)
     have HS2 : Hid ((Dk.wrote S' (f + (i + m)) []).size = S.size) := Lib.hid (by rw [(wrote_nums _ _ _).1, HSS.out])
     have HR3 : Hid (R = ((Hv.wipeN f (i + (m + 1)) (n - (m + 1)) (Dk.wrote S' (f + (i + m)) [])).1, true || (Hv.wipeN f (i + (m + 1)) (n - (m + 1)) (Dk.wrote S' (f + (i + m)) [])).2.1, (Hv.wipeN f (i + (m + 1)) (n - (m + 1)) (Dk.wrote S' (f + (i + m)) [])).2.2)) := Lib.hid (by
      rw [HR.out, HRR.out, ← HR2.out]
      have e : Hv.wipeN f (i + m) (r + 1) S' = ((Hv.wipeN f (i + m + 1) r (Dk.wrote S' (f + (i + m)) [])).1, true, (Hv.wipeN f (i + m + 1) r (Dk.wrote S' (f + (i + m)) [])).2.2) := by
       show (if Dk.seen S' (f + (i + m)) = Hv.zs then _ else if Dk.done S' then _ else _) = _
       rw [if_neg HNZ.out, if_pos HDN.out.symm]
      rw [e]
      simp [Nat.add_assoc])
     go_wp2_with (first | (refine wpList_load_row rfl 65 (.tmp 17) rfl g rfl 66 (u8s bs) (0,0) _ HK1.out Tryd.underlying65 rfl (by rw [u8s_size, HBL.out]; kernel_rfl) ?_) | (refine wpList_load_row rfl 56 (.tmp 2) rfl w.heap.size rfl 56 _ (0,0) _ HX1.out Tryd.underlying56 rfl (by kernel_rfl) ?_))
     go_at_call 41
     refine CW.mono ?_
     rintro e w2 ⟨rfl, hd2, ht2⟩
     have HD2 := Lib.hid hd2
     have HT2 := Lib.hid ht2
     clear hd2 ht2 CW
     unfold outc
     go_wp2_with fail
     refine ⟨⟨m + 1, HLT.out, by rw [HW.out], true, _, rfl, HO2.out, HS2.out, HR3, Lib.hid (HD2.out.mono (by omega)), Lib.hid (HTR.out.trans HT2.out)⟩, by have := HLT.out; rw [HW.out]; simp [intOf]; omega⟩
  ·obtain rfl : m = n := by omega
   have i0 : ¬ ((i + m : Nat) : Int) < (z : Int) := by omega
   have HFIN : Hid (R = (true, st, S')) := Lib.hid (by rw [HR.out, Nat.sub_self]; simp [Hv.wipeN])
   have HTF : Hid (TFr B w wr) := Lib.hid (HT0.out.trans HT.out)
   clear hlt hm
   go_wp2_with fail
   go_ret
   rw [HFIN.out]
   exact ⟨rfl, HD.out, HTF.out⟩
end Go.Proofs.YtdokojlgcplefaaDoor
