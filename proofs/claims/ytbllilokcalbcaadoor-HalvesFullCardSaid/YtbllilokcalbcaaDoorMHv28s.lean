/- Layer 5: a log on a fresh disk of any size, and how it grows. -/
import Derived.Test.YtbllilokcalbcaaDoorMHv21s
import Derived.Test.YtbllilokcalbcaaDoorMHv23s
import Derived.BigQuiet
namespace Go.Proofs.YtbllilokcalbcaaDoor
open Go Go.RowKit
namespace Hv
def fl0 (z sz : Nat) : Dk.D := wholeS 0 1 (begunS 0 z 1 (fresh sz))
def fl1 (z sz : Nat) : Dk.D := tailS 0 1 (z - 1) (fl0 z sz)
theorem fl0_up (z sz : Nat) : Up (fl0 z sz) := (up_fresh sz).begin.2.finish.2
theorem fl1_up (z sz : Nat) : Up (fl1 z sz) := ((fl0_up z sz).tail 0 1 (z - 1)).1
theorem fl0_size (z sz : Nat) : (fl0 z sz).size = sz := by unfold fl0; rw [wholeS_size, begunS_size]; rfl
theorem fl1_size (z sz : Nat) : (fl1 z sz).size = sz := ((fl0_up z sz).tail 0 1 (z - 1)).2.trans (fl0_size z sz)
theorem fl0_seen (z sz j : Nat) (hz : 1 ≤ z) : Dk.seen (fl0 z sz) j = if 0 = j then headB 1 2 else zs := by
  unfold fl0
  rw [seen_whole (up_fresh sz).begin.2]
  by_cases h : 0 = j
  · rw [if_pos h, if_pos h]
  · rw [if_neg h, if_neg h, seen_begun (up_fresh sz) _ _ _ _ hz, seen_fresh, if_neg h]
    split <;> rfl
theorem fl1_seen (z sz j : Nat) (hz : 1 ≤ z) : Dk.seen (fl1 z sz) j = if 0 = j then headB 1 2 else zs := by
  unfold fl1
  rw [seen_tail (fl0_up z sz), fl0_seen z sz j hz]
  by_cases h : 0 + 1 ≤ j ∧ j < 0 + 1 + (z - 1)
  · rw [if_pos h, if_neg (by omega)]
  · rw [if_neg h]
/-- the sectors of all records -/
def sumN (ls : List (List Nat)) : Nat := (ls.map fun x => need (x.length : Int)).sum
theorem sumN_snoc (ls : List (List Nat)) (x : List Nat) : sumN (ls ++ [x]) = sumN ls + need (x.length : Int) := by simp [sumN]
theorem sumN_take {ls : List (List Nat)} {k : Nat} (h : k < ls.length) : sumN (ls.take (k + 1)) = sumN (ls.take k) + need (ls[k].length : Int) := by
  rw [List.take_succ_eq_append_getElem h, sumN_snoc]
end Hv
section
variable {B d : Nat}
theorem fl_open (a : Nat → Addr) (w0 : World) (z sz : Nat) (hz : z = sz / 2) (h4 : 4 ≤ sz) (h9 : sz ≤ 4096) (l : Nat) (w : World) (hL : LogAt B w l d z 0 0 (.slice none 0 0) 0 false) (hD : DkX B w d (fresh sz) 0) (hE : Env B a w0 w) :
    Calls Tryd.prog 27 #[.pointer (some ⟨l, 0, none⟩)] w fun e w' => e = .returned (.tuple #[]) ∧ (∃ v, LogAt B w' l d z 0 1 v 1 false ∧ (∃ us, Recs B w' v us [])) ∧ DkX B w' d (Hv.fl1 z sz) (0 + 2 * z + 10) ∧ LFr B l w w' :=
  open_new a w0 w hL hD (Hv.up_fresh sz) (by omega) (by show z + z ≤ sz; omega) (by omega) hE (fun _ => (0, 0)) (by rw [Hv.seen_fresh]; exact Hv.headM_zs) (by rw [Hv.seen_fresh]; exact Hv.headM_zs) (by rfl) 1 (by rfl) (by decide) _ rfl [] (by simp) (by simp) (by intro i hi; obtain rfl : i = 0 := (by simpa using hi); decide) 1 rfl (by omega)
    (reads_small (T := Hv.fl0 z sz) (by simp) (by simp; omega) (by rw [Hv.fl0_size]; omega) (by decide) (by omega) (by simp) (Or.inr (by rw [Hv.fl0_seen z sz _ (by omega)]; rfl)))
end
/-- The log of the law behind some rounds: half 0, serial one; its head and the other half as they were. -/
structure Fl (B : Nat) (w : World) (l d z m k i : Nat) (ls : List (List Nat)) (S : Dk.D) : Prop where
  log : LogsAt B w l d z 0 1 m false ls S k
  up : Hv.Up S
  size : z + z ≤ S.size
  h0 : Dk.seen S 0 = Hv.headB 1 2
  h1 : Dk.seen S z = Hv.zs
  sum : m = 1 + Hv.sumN ls
  mz : m ≤ z
  kb : k ≤ 1000 + 100 * i
  lb : ls.length ≤ i
  each : ∀ x ∈ ls, x.length ≤ 3000
theorem Fl.next {B : Nat} {w w' : World} {l d z m k i : Nat} {ls : List (List Nat)} {S : Dk.D} (h : Fl B w l d z m k i ls S) {bs : List Nat} {nd : Nat} (hb : bs.length ≤ 3000) (hnd : nd = Hv.need (bs.length : Int)) (hm : m + nd ≤ z)
    (hl : LogsAt B w' l d z 0 1 (m + nd) false (ls ++ [bs]) (Hv.laidS 0 m 1 ls.length bs S) (k + nd + 1)) : Fl B w' l d z (m + nd) (k + nd + 1) (i + 1) (ls ++ [bs]) (Hv.laidS 0 m 1 ls.length bs S) where
  log := hl
  up := h.up.laid.1
  size := by rw [h.up.laid.2]; exact h.size
  h0 := by rw [Hv.seen_laid_other h.up _ _ _ _ _ _ (Or.inl (by have := h.sum; omega))]; exact h.h0
  h1 := by rw [Hv.seen_laid_other h.up _ _ _ _ _ _ (Or.inr (by rw [← hnd]; omega))]; exact h.h1
  sum := by rw [Hv.sumN_snoc, ← hnd, h.sum]; omega
  mz := hm
  kb := by have := Hv.need_le (bs.length : Int); have := h.kb; omega
  lb := by simp; exact h.lb
  each := fun x hx => by
    rcases List.mem_append.1 hx with hx | hx
    · exact h.each x hx
    · rw [List.mem_singleton.1 hx]; exact hb
theorem Fl.below {B : Nat} {w w' : World} {l d z m k i : Nat} {ls : List (List Nat)} {S : Dk.D} (h : Fl B w l d z m k i ls S) (hb : Below w.heap.size w w') : Fl B w' l d z m k i ls S := { h with log := h.log.below hb }
theorem Fl.more {B : Nat} {w : World} {l d z m k i : Nat} {ls : List (List Nat)} {S : Dk.D} (h : Fl B w l d z m k i ls S) : Fl B w l d z m k (i + 1) ls S := { h with kb := by have := h.kb; omega, lb := by have := h.lb; omega }
end Go.Proofs.YtbllilokcalbcaaDoor
/- Layer 5: HalvesFull, the law. -/
namespace Go.Proofs.YtbllilokcalbcaaDoor
open Go Go.RowKit
/-- The numbers of the law's second argument, as they lie. -/
def IRow (w : World) (A : Option Addr) (ns : List Int) : Prop := ∀ i (h : i < ns.length), ∃ b o, A = some ⟨b, o, none⟩ ∧ b < w.heap.size ∧ w.cell? ⟨b, o + i, none⟩ = some (.int .i64 ns[i])
theorem rem_nat (x : Int) (m : Nat) (h0 : 0 < m) (hm : m ≤ 1000) (p : Nat) (hp : p ≤ 1000) : ∃ r : Nat, r < m ∧ (IntKind.u64.wrap x).tmod (m : Int) = (r : Int) ∧ wrap64 (r : Int) = (r : Int) ∧ wrap64 ((p : Int) + (r : Int)) = ((p + r : Nat) : Int) := by
  have h1 : 0 ≤ x % 18446744073709551616 := Int.emod_nonneg _ (by omega)
  have h2 : (IntKind.u64.wrap x).tmod (m : Int) = (x % 18446744073709551616) % (m : Int) := by
    rw [wrap_u64, Int.tmod_eq_emod_of_nonneg h1]
  have h3 : 0 ≤ (x % 18446744073709551616) % (m : Int) := Int.emod_nonneg _ (by omega)
  have h4 : (x % 18446744073709551616) % (m : Int) < (m : Int) := Int.emod_lt_of_pos _ (by omega)
  refine ⟨((x % 18446744073709551616) % (m : Int)).toNat, by omega, by rw [h2]; omega, IntWalk.wrap64_in _ (by omega), ?_⟩
  rw [IntWalk.wrap64_in _ (by omega)]
  omega
theorem rem_nb (q : Int) : ∃ nb r : Nat, (1 ≤ nb ∧ nb ≤ 200) ∧ (IntKind.u64.wrap q).tmod 200 = (r : Int) ∧ wrap64 (r : Int) = (r : Int) ∧ wrap64 (1 + (r : Int)) = (nb : Int) := by
  obtain ⟨r, h1, h2, h3, h4⟩ := rem_nat q 200 (by omega) (by omega) 1 (by omega)
  exact ⟨1 + r, r, ⟨Nat.le_add_right 1 r, by rw [Nat.add_comm]; exact h1⟩, h2, h3, h4⟩
namespace Hv
theorem sumN_le (ls : List (List Nat)) : ∀ k, sumN (ls.take k) ≤ sumN ls := fun k => by
  have h := List.take_append_drop k ls
  have h2 : sumN ls = sumN (ls.take k) + sumN (ls.drop k) := by
    conv => lhs; rw [← h]
    simp only [sumN, List.map_append, List.sum_append]
  omega
end Hv
theorem recs_at {B : Nat} {w : World} {v : Value} {us : List Value} {ls : List (List Nat)} (h : Recs B w v us ls) {j : Nat} (hj : j < ls.length) : ∃ A n c g A' c', v = .slice A n c ∧ n = ls.length ∧ A = some ⟨g, 0, none⟩ ∧ w.cell? ⟨g, 0 + j, none⟩ = some (.slice A' ls[j].length c') := by
  have hl := h.row.1
  rw [Nat.mul_one] at hl
  obtain ⟨u, hu⟩ : ∃ u, us[j]? = some u := ⟨us[j]'(by omega), List.getElem?_eq_getElem _⟩
  obtain ⟨A', c', he, _, _⟩ := h.each j u hu
  have hg : ls.getD j [] = ls[j] := by simp [List.getD, hj]
  rw [hg] at he
  rcases h.row.2 with ⟨_, h0⟩ | ⟨g, cap, cur, hv, _, hgg, _⟩
  · omega
  · refine ⟨_, _, _, g, A', c', hv, rfl, rfl, ?_⟩
    have := h.row.cells (by rw [hv]; rfl) j u hu
    rw [Addr.add_mid] at this
    rw [this, he]
def zrow (n : Nat) : Array Value := u8s (List.replicate n 0)
theorem zrow_rd {B n : Nat} {w : World} (w' : World) (ht : TFr B (w.alloc (.cells (zrow n) 5)) w') : Rd w' (.slice (some ⟨w.heap.size, 0, none⟩) n n) (List.replicate n 0) := by
  have hk := ht.typed w.heap.size 5 (zrow n) (Blk.new w _ _) (by decide) (by decide)
  refine ⟨_, n, by rw [List.length_replicate], by rw [List.length_replicate]; exact Nat.le_refl _, fun _ => ⟨_, 0, rfl, hk.lt, fun i hi => ?_⟩⟩
  rw [Nat.zero_add, hk.cell i]
  exact u8s_get _ _ hi
theorem zrow_byte (n : Nat) : Sha.Byte (List.replicate n 0) := fun i => by
  rw [List.getD_eq_getElem?_getD]
  by_cases h : i < n
  · simp [h]
  · simp [h]
theorem mk_zrow (n : Nat) (hn : n ≤ 1000) (w : World) : (Instr.makeSlice 39 (.int .i64 (n : Int)) (.int .i64 (n : Int))).run Tryd.prog w = .ok (.slice (some ⟨w.heap.size, 0, none⟩) n n) (w.alloc (.cells (zrow n) 5)) := by
  have h := run_makeOne (P := Tryd.prog) Tryd.underlying39 byte_info rfl n (by omega) (by omega) rfl w
  have hz : (List.replicate n (Value.int .u8 0)).toArray = zrow n := by unfold zrow u8s; rw [List.map_replicate]; rfl
  rw [hz] at h
  exact h
theorem wf_nat (n : Nat) (h : n ≤ 3000) : (Lit.int .i64 (n : Int)).wf = true := by
  show (decide (IntKind.i64.min ≤ (n : Int)) && decide ((n : Int) ≤ IntKind.i64.max)) = true
  have h1 : IntKind.i64.min ≤ (n : Int) := Int.le_trans (b := 0) (by decide) (Int.natCast_nonneg n)
  have h2 : (n : Int) ≤ IntKind.i64.max := Int.le_trans (b := 3000) (by omega) (by decide)
  rw [decide_eq_true h1, decide_eq_true h2]
  rfl
theorem IRow.get {w w' : World} {A : Option Addr} {ns : List Int} (h : IRow w A ns) (hb : Below w.heap.size w w') {i : Nat} (hi : i < ns.length) : ∃ b o, A = some ⟨b, o, none⟩ ∧ w'.cell? ⟨b, o + i, none⟩ = some (.int .i64 ns[i]) := by
  obtain ⟨b, o, hA, hl, hc⟩ := h i hi
  exact ⟨b, o, hA, (hb.cell (p := ⟨b, o + i, none⟩) hl).trans hc⟩
def Paused1 (p : Prop) : Prop := p
theorem pause1 {p : Prop} (h : Paused1 p) : p := h
set_option maxRecDepth 100000 in
set_option maxHeartbeats 8000000 in
theorem full_law (x : Int) (A : Option Addr) (c : Nat) (ns : List Int) (a : Nat → Addr) (w : World) (hA : IRow w A ns) (hS : Sents w a) (hT : Tabs w) :
    Calls Tryd.prog 5 #[.int .i64 x, .slice A ns.length c] w fun e w' => e = .returned (.bool true) ∧ Below w.heap.size w w' := by
  have CA := halive_any a w hS.h hT
  obtain ⟨r, hr, e1, e2, e3⟩ := rem_nat x 100 (by omega) (by omega) 6 (by omega)
  have e3 : wrap64 (6 + (r : Int)) = ((6 + r : Nat) : Int) := e3
  have e1 : (IntKind.u64.wrap x).tmod 100 = (r : Int) := e1
  have HSN := Lib.hid hS
  have HAR := Lib.hid hA
  have HE0 : Hid (∀ w', Below w.heap.size w w' → Env w.heap.size a w w') := Lib.hid (fun w' hb => ⟨hS.h, hT, Nat.le_refl _, hb⟩)
  obtain ⟨sz, hsz⟩ : ∃ sz, sz = 6 + r := ⟨_, rfl⟩
  rw [← hsz] at e3
  have HSZ := Lib.hid (show 6 ≤ sz ∧ sz ≤ 105 by omega)
  obtain ⟨z, hz⟩ : ∃ z, z = sz / 2 := ⟨_, rfl⟩
  have HZ := Lib.hid hz
  have HZ2 := Lib.hid (show 3 ≤ z ∧ z ≤ 52 by have := HSZ.out; omega)
  have HHO : Hid (Hv.halfOf (sz : Int) = z) := Lib.hid (by unfold Hv.halfOf; rw [if_pos (by have := HSZ.out; omega)]; omega)
  have e4 : wrap64 ((z : Int) - 1) = ((z - 1 : Nat) : Int) := by have := HZ2.out; rw [IntWalk.wrap64_in _ (by omega)]; omega
  clear hS hT hA hsz hr hz
  go_enter Tryd.func5, Tryd.ntmps5
  go_wp2_with fail
  refine CA.mono ?_
  rintro e w1 ⟨rfl, hb1⟩
  have HB1 := Lib.hid hb1
  clear hb1 CA
  by_cases hl : (40 : Int) < ns.length
  · go_wp2_with fail
    go_ret
    exact ⟨rfl, HB1.out⟩
  have HLN := Lib.hid (show ns.length ≤ 40 by omega)
  go_wp2_with fail
  go_at_call 8
  refine (dk_new sz w1 (by have := HSZ.out; omega) (by have := HSZ.out; omega)).mono ?_
  rintro e w2 ⟨d, ms, ml, rfl, hd, hb⟩
  have HD2 : Hid (DkX w1.heap.size w2 d (fresh sz) 0) := Lib.hid ⟨ms, ml, _, hd⟩
  have HE2 : Hid (Env w1.heap.size a w w2) := Lib.hid (by
    have h := HE0.out w2 (below_then HB1.out hb)
    exact ⟨h.sents, h.tabs, HB1.out.size, h.bel⟩)
  clear hd hb HE0
  generalize w1.heap.size = B at HD2 HE2
  go_wp2_with fail
  go_at_call 9
  refine (Open_any (z := z) a w w2 HD2.out HE2.out HZ.out (by have := HSZ.out; show 4 ≤ sz; omega) (fun l w' h1 h2 h3 => fl_open a w z sz HZ.out (by have := HSZ.out; omega) (by have := HSZ.out; omega) l w' h1 h2 h3)).mono ?_
  rintro e w3 ⟨l, rfl, h3, ht3, _⟩
  have HE3 := Lib.hid (HE2.out.tfr ht3)
  have HF3 : Hid (Fl B w3 l d z 1 (0 + 2 * z + 10) 0 [] (Hv.fl1 z sz)) := Lib.hid ⟨h3, Hv.fl1_up z sz, by rw [Hv.fl1_size]; have := HZ.out; omega, by rw [Hv.fl1_seen z sz _ (by have := HZ2.out; omega)]; rfl, by rw [Hv.fl1_seen z sz _ (by have := HZ2.out; omega), if_neg (by have := HZ2.out; omega)], rfl, by have := HZ2.out; omega, by have := HZ2.out; omega, Nat.le_refl _, fun x h => by cases h⟩
  have CSZ : ∀ {S k} (w : World), DkX B w d S k → S.size = sz → Calls Tryd.prog 23 #[.pointer (some ⟨d, 0, none⟩)] w fun e w' => e = .returned (.int .i64 (sz : Int)) ∧ w = w' := fun w h hs => hs ▸ dk_sizeX w h
  have CSZ3 := CSZ w3 HF3.out.log.2 (Hv.fl1_size z sz)
  have CHF := half_any (sz : Int) w3 (wf_nat sz (by have := HSZ.out; omega))
  rw [HHO.out] at CHF
  clear h3 ht3 HD2 CSZ
  go_wp2_with (first
    | (go_at_call 23; refine CSZ3.mono ?_; rintro e wn ⟨rfl, rfl⟩)
    | (go_at_call 22; refine CHF.mono ?_; rintro e wn ⟨rfl, rfl⟩))
  simp only [e4]
  clear CSZ3 CHF e1 e2 e3 e4
  generalize 0 + 2 * z + 10 = k0 at HF3
  generalize Hv.fl1 z sz = S0 at HF3
  go_loopw [50] (fun i wr => ∃ (k m kk : Nat) (ls : List (List Nat)) (S : Dk.D), k ≤ ns.length ∧ i = .int .i64 k ∧ Hid (Fl B wr l d z m kk k ls S) ∧ Hid (Env B a w wr)) (fun i _ => ns.length - (intOf i).toNat)
  case atStart => exact ⟨0, 1, k0, [], S0, Nat.zero_le _, rfl, HF3, HE3⟩
  case round =>
    obtain ⟨k, m, kk, ls, S, hk, rfl, HF, HE⟩ := hrel
    by_cases hlt : k < ns.length
    · obtain ⟨b, o, rfl, hc⟩ := HAR.out.get HE.out.bel hlt
      obtain ⟨q, hq⟩ : ∃ q, q = ns[k] := ⟨_, rfl⟩
      rw [← hq] at hc
      clear hq
      obtain ⟨nb, r2, hnb, hff⟩ := rem_nb q
      have HNB := Lib.hid hnb
      have HFF := Lib.hid hff
      clear hnb hff
      have i1 : ((k : Nat) : Int) < ns.length := by omega
      have i2 : (0 : Int) ≤ ((k : Nat) : Int) := by omega
      obtain ⟨nd, hnd⟩ : ∃ nd, nd = Hv.need (nb : Int) := ⟨_, rfl⟩
      have HND := Lib.hid hnd
      have HND2 := Lib.hid (show 1 ≤ nd ∧ nd ≤ 95 from ⟨by rw [hnd, Hv.need_of HNB.out.1 (by have := HNB.out; omega)]; omega, hnd ▸ Hv.need_le _⟩)
      have hwn : (Lit.int .i64 (nb : Int)).wf = true := wf_nat nb (by have := HNB.out; omega)
      have CN : ∀ w, Calls Tryd.prog 20 #[.int .i64 (nb : Int)] w fun e w' => e = .returned (.int .i64 (nd : Nat)) ∧ w = w' := fun w => hnd ▸ need_any (nb : Int) w hwn
      clear hwn hnd
      obtain ⟨rm, hrm⟩ : ∃ rm, rm = z - m := ⟨_, rfl⟩
      have HRM := Lib.hid hrm
      obtain ⟨v, hlog, us, hrec⟩ := HF.out.log.1
      have CR := lroom_any wr hlog (Or.inl rfl) HF.out.mz (by have := HZ2.out; omega)
      rw [← hrm] at CR
      clear hrm
      have HMZ := Lib.hid HF.out.mz
      have HLG := Lib.hid hlog
      have HRC := Lib.hid hrec
      clear hlog hrec
      obtain ⟨f1, f2, f3⟩ := HFF.out
      go_wp2_with (go_at_call 24; refine pause1 ?_)
      unfold Paused1
      simp only [f3]
      refine CR.mono ?_
      rintro e wq ⟨rfl, j, rfl⟩
      clear CR hc f1 f2 f3
      have hmk := mk_zrow nb (by have := HNB.out; omega)
      go_wp2_with (go_at_call 12; refine pause1 ?_)
      unfold Paused1
      obtain ⟨wc, hwc⟩ : ∃ wc, wc = (wr.drewN j).alloc (.cells (zrow nb) 5) := ⟨_, rfl⟩
      have hbc : Below wr.heap.size wr wc := hwc ▸ (below_drewN (Below.refl _ _) j).alloc (Nat.le_refl _) _
      have HBC := Lib.hid hbc
      have HWC := Lib.hid hwc
      rw [← hwc]
      clear hbc hwc hmk
      have HEc := Lib.hid (HE.out.below HBC.out)
      by_cases hfit : m + nd ≤ z
      · refine (append_0 a w wc 1 m v us ls (HLG.out.below HBC.out) (HRC.out.below HBC.out) (HF.out.log.2.below HBC.out) HF.out.up (by have := HZ2.out; omega) HF.out.size (by have := HF.out.kb; have := HLN.out; omega) HEc.out (by decide) (by have := HF.out.lb; have := HLN.out; omega) _ nb nb nd (List.replicate nb 0) (by simp) HNB.out.1 (by have := HNB.out; omega) (fun w' ht => by rw [HWC.out] at ht; exact zrow_rd (w := wr.drewN j) w' ht) (zrow_byte nb) HND.out hfit).mono ?_
        rintro e w5 ⟨rfl, h5, hf5⟩
        have HF5 := Lib.hid (HF.out.next (bs := List.replicate nb 0) (by simp; have := HNB.out; omega) (by rw [List.length_replicate]; exact HND.out) hfit h5)
        have HE5 := Lib.hid (HEc.out.afr hf5)
        clear h5 hf5
        obtain ⟨v5, hlog5, us5, hrec5⟩ := HF5.out.log.1
        have CR5 : ∀ n, Calls Tryd.prog 24 #[.pointer (some ⟨l, 0, none⟩)] (w5.drewN n) _ := fun n => lroom_any (w5.drewN n) (hlog5.below (below_drewN (Below.refl _ _) n)) (Or.inl rfl) hfit (by have := HZ2.out; omega)
        clear hlog5 hrec5
        have g0 : nd ≤ rm := by have := HRM.out; omega
        have g1 : decide ((nd : Int) ≤ (rm : Int)) = true := by rw [decide_eq_true_eq]; omega
        have g2 : wrap64 ((rm : Int) - (nd : Int)) = ((z - (m + nd) : Nat) : Int) := by have := HRM.out; have := HZ2.out; rw [IntWalk.wrap64_in _ (by omega)]; omega
        obtain ⟨rn, hrn⟩ : ∃ rn, rn = z - (m + nd) := ⟨_, rfl⟩
        rw [← hrn] at CR5 g2
        clear hrn
        go_wp2
        go_quiet (first
          | (go_at_call 20; exact Calls.quiet_of_same ((CN _).mono fun _ _ h => ⟨h.1, h.2.symm⟩))
          | (go_at_call 24; exact Calls.quiet_of (CR5 _)))
        go_wp2
        have HFn : Hid (Fl B (w5.drewN nq) l d z (m + nd) (kk + nd + 1) (k + 1) (ls ++ [List.replicate nb 0]) (Hv.laidS 0 m 1 ls.length (List.replicate nb 0) S)) := Lib.hid (HF5.out.below (below_drewN (Below.refl _ _) nq))
        have HEn := Lib.hid (HE5.out.below (below_drewN (Below.refl _ _) nq))
        go_roundw
        case rel => exact ⟨k + 1, _, _, _, _, by omega, by go_num, HFn, HEn⟩
        case measure => simp [intOf]; omega
      · refine (append_no0 a w wc 1 m v (HLG.out.below HBC.out) (HF.out.log.2.below HBC.out) (by have := HZ2.out; omega) HF.out.size HEc.out _ nb nb nd HNB.out.1 (by have := HNB.out; omega) HND.out HMZ.out (by omega)).mono ?_
        rintro e w5 ⟨rfl, h5⟩
        have HE5 := Lib.hid (HEc.out.below h5)
        have HF5 := Lib.hid ((HF.out.below HBC.out).below h5).more
        clear h5
        have g0 : ¬ nd ≤ rm := by have := HRM.out; have := HMZ.out; have := HND2.out; omega
        have g1 : decide ((nd : Int) ≤ (rm : Int)) = false := by rw [decide_eq_false_iff_not]; omega
        have CNM : ∀ w', Below w5.heap.size w5 w' → Calls Tryd.prog 25 #[ev (a 10)] w' _ := fun w' hb => num_any 10 (by omega) a w' (HSN.out.below (below_then HE5.out.bel hb) (Nat.le_refl _))
        go_wp2
        refine wp_region_held (S := (fun w' => Below w5.heap.size w5 w')) (by kernel_rfl) ?_
        change wpAnyH _ _ _ _ _ _ _ _ w5.drew
        have HS0 := Lib.hid (below_drewN (Below.refl w5.heap.size w5) 1)
        refine wpAnyH_take (i := 0) (v := ?_) rfl (by kernel_rfl) (by kernel_rfl) (by kernel_rfl) (fun _ _ _ h => h) (Or.inl ⟨by rfl, ?_⟩) (HS0.out) ?_
        rotate_left
        · intro w' hw; go_simp; with_reducible rfl
        try simp only [Act.put, List.getElem_toArray, List.getElem_cons_zero, List.setIfInBounds_toArray, List.set_cons_zero, List.set_cons_succ]
        refine wpAnyH_take (i := 1) (v := ?_) rfl (by kernel_rfl) (by kernel_rfl) (by kernel_rfl) (fun _ _ _ h => h) (Or.inl ⟨by rfl, ?_⟩) (HS0.out) ?_
        rotate_left
        · intro w' hw; go_simp; with_reducible rfl
        try simp only [Act.put, List.getElem_toArray, List.getElem_cons_zero, List.getElem_cons_succ, List.setIfInBounds_toArray, List.set_cons_zero, List.set_cons_succ]
        refine wpAnyH_take (i := 2) (v := ?_) rfl (by kernel_rfl) (by kernel_rfl) (by kernel_rfl) (fun _ _ _ h => h) (Or.inl ⟨by rfl, ?_⟩) (HS0.out) ?_
        rotate_left
        · intro w' hw; go_simp; with_reducible rfl
        try simp only [Act.put, List.getElem_toArray, List.getElem_cons_zero, List.getElem_cons_succ, List.setIfInBounds_toArray, List.set_cons_zero, List.set_cons_succ]
        refine wpAnyH_take (i := 4) (v := ?_) rfl (by kernel_rfl) (by kernel_rfl) (by kernel_rfl) (fun _ _ _ h => h) (Or.inl ⟨by rfl, ?_⟩) (HS0.out) ?_
        rotate_left
        · intro w' hw; go_simp; with_reducible rfl
        try simp only [Act.put, List.getElem_toArray, List.getElem_cons_zero, List.getElem_cons_succ, List.setIfInBounds_toArray, List.set_cons_zero, List.set_cons_succ]
        refine all_one (i := 3) (by kernel_rfl) rfl (by rfl) (fun K hK => ?_)
        go_simp
        refine (CN _).mono ?_
        rintro e w6 ⟨rfl, rfl⟩
        dsimp only
        refine hK _ _ HS0.out ?_; clear hK K
        try simp only [Act.put, List.getElem_toArray, List.getElem_cons_zero, List.getElem_cons_succ, List.setIfInBounds_toArray, List.set_cons_zero, List.set_cons_succ]
        refine wpAnyH_take (i := 5) (v := ?_) rfl (by kernel_rfl) (by kernel_rfl) (by kernel_rfl) (fun _ _ _ h => h) (Or.inl ⟨by rfl, ?_⟩) (HS0.out) ?_
        rotate_left
        · intro w' hw; go_simp; with_reducible rfl
        try simp only [Act.put, List.getElem_toArray, List.getElem_cons_zero, List.getElem_cons_succ, List.setIfInBounds_toArray, List.set_cons_zero, List.set_cons_succ]
        refine wpAnyH_take (i := 6) (v := ?_) rfl (by kernel_rfl) (by kernel_rfl) (by kernel_rfl) (fun _ _ _ h => h) (Or.inl ⟨by rfl, ?_⟩) (HS0.out) ?_
        rotate_left
        · intro w' hw; go_simp; with_reducible rfl
        try simp only [Act.put, List.getElem_toArray, List.getElem_cons_zero, List.getElem_cons_succ, List.setIfInBounds_toArray, List.set_cons_zero, List.set_cons_succ]
        refine wpAnyH_take (i := 7) (v := ?_) rfl (by kernel_rfl) (by kernel_rfl) (by kernel_rfl) (fun _ _ _ h => h) (Or.inl ⟨by rfl, ?_⟩) (HS0.out) ?_
        rotate_left
        · intro w' hw; go_simp; with_reducible rfl
        try simp only [Act.put, List.getElem_toArray, List.getElem_cons_zero, List.getElem_cons_succ, List.setIfInBounds_toArray, List.set_cons_zero, List.set_cons_succ]
        refine wpAnyH_take (i := 8) (v := ?_) rfl (by kernel_rfl) (by kernel_rfl) (by kernel_rfl) (fun _ _ _ h => h) (Or.inl ⟨by rfl, ?_⟩) (HS0.out) ?_
        rotate_left
        · intro w' hw; go_simp; with_reducible rfl
        try simp only [Act.put, List.getElem_toArray, List.getElem_cons_zero, List.getElem_cons_succ, List.setIfInBounds_toArray, List.set_cons_zero, List.set_cons_succ]
        refine wpAnyH_take (i := 9) (v := ?_) rfl (by kernel_rfl) (by kernel_rfl) (by kernel_rfl) (fun _ _ _ h => h) (Or.inl ⟨by rfl, ?_⟩) (HS0.out) ?_
        rotate_left
        · intro w' hw; go_simp; with_reducible rfl
        try simp only [Act.put, List.getElem_toArray, List.getElem_cons_zero, List.getElem_cons_succ, List.setIfInBounds_toArray, List.set_cons_zero, List.set_cons_succ]
        refine wpAnyH_take (i := 10) (v := ?_) rfl (by kernel_rfl) (by kernel_rfl) (by kernel_rfl) (fun _ _ _ h => h) (Or.inl ⟨by rfl, ?_⟩) (HS0.out) ?_
        rotate_left
        · intro w' hw; go_simp; with_reducible rfl
        try simp only [Act.put, List.getElem_toArray, List.getElem_cons_zero, List.getElem_cons_succ, List.setIfInBounds_toArray, List.set_cons_zero, List.set_cons_succ]
        refine wpAnyH_take (i := 11) (v := ?_) rfl (by kernel_rfl) (by kernel_rfl) (by kernel_rfl) (fun _ _ _ h => h) (Or.inl ⟨by rfl, ?_⟩) (HS0.out) ?_
        rotate_left
        · intro w' hw; go_simp; with_reducible rfl
        try simp only [Act.put, List.getElem_toArray, List.getElem_cons_zero, List.getElem_cons_succ, List.setIfInBounds_toArray, List.set_cons_zero, List.set_cons_succ]
        refine all_one (i := 12) (by kernel_rfl) rfl (by rfl) (fun K hK => ?_)
        go_simp
        refine (CNM _ HS0.out).mono ?_
        rintro e w7 ⟨rfl, hn7⟩
        have HS7 : Hid (Below w5.heap.size w5 w7) := Lib.hid (by
          have h0 := HS0.out
          exact ⟨hn7.os.trans h0.os, hn7.tape.trans h0.tape, hn7.output.trans h0.output, Nat.le_trans h0.size hn7.size, fun i hi => (hn7.block i (Nat.lt_of_lt_of_le hi h0.size)).trans (h0.block i hi)⟩)
        clear hn7
        dsimp only
        refine hK _ _ HS7.out ?_; clear hK K
        try simp only [Act.put, List.getElem_toArray, List.getElem_cons_zero, List.getElem_cons_succ, List.setIfInBounds_toArray, List.set_cons_zero, List.set_cons_succ]
        refine wpAnyH_take (i := 13) (v := ?_) rfl (by kernel_rfl) (by kernel_rfl) (by kernel_rfl) (fun _ _ _ h => h) (Or.inl ⟨by rfl, ?_⟩) (HS7.out) ?_
        rotate_left
        · intro w' hw; go_simp; with_reducible rfl
        try simp only [Act.put, List.getElem_toArray, List.getElem_cons_zero, List.getElem_cons_succ, List.setIfInBounds_toArray, List.set_cons_zero, List.set_cons_succ]
        refine wpAnyH_take (i := 14) (v := ?_) rfl (by kernel_rfl) (by kernel_rfl) (by kernel_rfl) (fun _ _ _ h => h) (Or.inl ⟨by rfl, ?_⟩) (HS7.out) ?_
        rotate_left
        · intro w' hw; go_simp; with_reducible rfl
        try simp only [Act.put, List.getElem_toArray, List.getElem_cons_zero, List.getElem_cons_succ, List.setIfInBounds_toArray, List.set_cons_zero, List.set_cons_succ]
        refine wpAnyH_take (i := 15) (v := ?_) rfl (by kernel_rfl) (by kernel_rfl) (by kernel_rfl) (fun _ _ _ h => h) (Or.inl ⟨by rfl, ?_⟩) (HS7.out) ?_
        rotate_left
        · intro w' hw; go_simp; with_reducible rfl
        try simp only [Act.put, List.getElem_toArray, List.getElem_cons_zero, List.getElem_cons_succ, List.setIfInBounds_toArray, List.set_cons_zero, List.set_cons_succ]
        refine wpAnyH_take (i := 16) (v := ?_) rfl (by kernel_rfl) (by kernel_rfl) (by kernel_rfl) (fun _ _ _ h => h) (Or.inl ⟨by rfl, ?_⟩) (HS7.out) ?_
        rotate_left
        · intro w' hw; go_simp; with_reducible rfl
        try simp only [Act.put, List.getElem_toArray, List.getElem_cons_zero, List.getElem_cons_succ, List.setIfInBounds_toArray, List.set_cons_zero, List.set_cons_succ]
        refine wpAnyH_take (i := 17) (v := ?_) rfl (by kernel_rfl) (by kernel_rfl) (by kernel_rfl) (fun _ _ _ h => h) (Or.inl ⟨by rfl, ?_⟩) (HS7.out) ?_
        rotate_left
        · intro w' hw; go_simp; with_reducible rfl
        try simp only [Act.put, List.getElem_toArray, List.getElem_cons_zero, List.getElem_cons_succ, List.setIfInBounds_toArray, List.set_cons_zero, List.set_cons_succ]
        refine wpAnyH_take (i := 18) (v := ?_) rfl (by kernel_rfl) (by kernel_rfl) (by kernel_rfl) (fun _ _ _ h => h) (Or.inl ⟨by rfl, ?_⟩) (HS7.out) ?_
        rotate_left
        · intro w' hw; go_simp; with_reducible rfl
        try simp only [Act.put, List.getElem_toArray, List.getElem_cons_zero, List.getElem_cons_succ, List.setIfInBounds_toArray, List.set_cons_zero, List.set_cons_succ]
        refine wpAnyH_take (i := 19) (v := ?_) rfl (by kernel_rfl) (by kernel_rfl) (by kernel_rfl) (fun _ _ _ h => h) (Or.inl ⟨by rfl, ?_⟩) (HS7.out) ?_
        rotate_left
        · intro w' hw; go_simp; with_reducible rfl
        try simp only [Act.put, List.getElem_toArray, List.getElem_cons_zero, List.getElem_cons_succ, List.setIfInBounds_toArray, List.set_cons_zero, List.set_cons_succ]
        refine wpAnyH_take (i := 20) (v := undef) rfl (by kernel_rfl) (by kernel_rfl) (by kernel_rfl) (fun _ _ _ h => h) (Or.inr ⟨by rfl, rfl⟩) (HS7.out) ?_
        try simp only [Act.put, List.getElem_toArray, List.getElem_cons_zero, List.getElem_cons_succ, List.setIfInBounds_toArray, List.set_cons_zero, List.set_cons_succ]
        refine wpAnyH_take (i := 21) (v := undef) rfl (by kernel_rfl) (by kernel_rfl) (by kernel_rfl) (fun _ _ _ h => h) (Or.inr ⟨by rfl, rfl⟩) (HS7.out) ?_
        try simp only [Act.put, List.getElem_toArray, List.getElem_cons_zero, List.getElem_cons_succ, List.setIfInBounds_toArray, List.set_cons_zero, List.set_cons_succ]
        refine wpAnyH_take (i := 22) (v := undef) rfl (by kernel_rfl) (by kernel_rfl) (by kernel_rfl) (fun _ _ _ h => h) (Or.inr ⟨by rfl, rfl⟩) (HS7.out) ?_
        try simp only [Act.put, List.getElem_toArray, List.getElem_cons_zero, List.getElem_cons_succ, List.setIfInBounds_toArray, List.set_cons_zero, List.set_cons_succ]
        refine wpAnyH_take (i := 23) (v := undef) rfl (by kernel_rfl) (by kernel_rfl) (by kernel_rfl) (fun _ _ _ h => h) (Or.inr ⟨by rfl, rfl⟩) (HS7.out) ?_
        try simp only [Act.put, List.getElem_toArray, List.getElem_cons_zero, List.getElem_cons_succ, List.setIfInBounds_toArray, List.set_cons_zero, List.set_cons_succ]
        refine wpAnyH_take (i := 24) (v := undef) rfl (by kernel_rfl) (by kernel_rfl) (by kernel_rfl) (fun _ _ _ h => h) (Or.inr ⟨by rfl, rfl⟩) (HS7.out) ?_
        try simp only [Act.put, List.getElem_toArray, List.getElem_cons_zero, List.getElem_cons_succ, List.setIfInBounds_toArray, List.set_cons_zero, List.set_cons_succ]
        refine wpAnyH_take (i := 25) (v := undef) rfl (by kernel_rfl) (by kernel_rfl) (by kernel_rfl) (fun _ _ _ h => h) (Or.inr ⟨by rfl, rfl⟩) (HS7.out) ?_
        try simp only [Act.put, List.getElem_toArray, List.getElem_cons_zero, List.getElem_cons_succ, List.setIfInBounds_toArray, List.set_cons_zero, List.set_cons_succ]
        refine wpAnyH_take (i := 26) (v := undef) rfl (by kernel_rfl) (by kernel_rfl) (by kernel_rfl) (fun _ _ _ h => h) (Or.inr ⟨by rfl, rfl⟩) (HS7.out) ?_
        try simp only [Act.put, List.getElem_toArray, List.getElem_cons_zero, List.getElem_cons_succ, List.setIfInBounds_toArray, List.set_cons_zero, List.set_cons_succ]
        refine wpAnyH_take (i := 27) (v := ?_) rfl (by kernel_rfl) (by kernel_rfl) (by kernel_rfl) (fun _ _ _ h => h) (Or.inl ⟨by rfl, ?_⟩) (HS7.out) ?_
        rotate_left
        · intro w' hw; go_simp; with_reducible rfl
        try simp only [Act.put, List.getElem_toArray, List.getElem_cons_zero, List.getElem_cons_succ, List.setIfInBounds_toArray, List.set_cons_zero, List.set_cons_succ]
        refine wpAnyH_take (i := 28) (v := ?_) rfl (by kernel_rfl) (by kernel_rfl) (by kernel_rfl) (fun _ _ _ h => h) (Or.inl ⟨by rfl, ?_⟩) (HS7.out) ?_
        rotate_left
        · intro w' hw; go_simp; with_reducible rfl
        try simp only [Act.put, List.getElem_toArray, List.getElem_cons_zero, List.getElem_cons_succ, List.setIfInBounds_toArray, List.set_cons_zero, List.set_cons_succ]
        refine wpAnyH_done (by kernel_rfl) ?_ _
        go_wp2
        have HFn := Lib.hid (HF5.out.below HS7.out)
        have HEn := Lib.hid (HE5.out.below HS7.out)
        go_roundw
        case rel => exact ⟨k + 1, _, _, _, _, by omega, by go_num, HFn, HEn⟩
        case measure => simp [intOf]; omega
    · have hke : k = ns.length := by omega
      obtain ⟨v, hlog, us, hrec⟩ := HF.out.log.1
      have CR := lrecords_any wr hlog hrec (by have := HF.out.lb; have := HLN.out; omega) (fun x hx => by have := HF.out.each x hx; omega)
      have HV1 : Hid (v.oneCell' = true) := Lib.hid (by obtain ⟨A9, c9, e9⟩ := row_slice hrec.row; rw [e9]; rfl)
      have HLG := Lib.hid hlog
      clear hlog hrec hke
      go_wp2_with (go_at_call 16; refine pause1 ?_)
      unfold Paused1
      refine CR.mono ?_
      rintro e w5 ⟨v5, rfl, ⟨us5, hr5⟩, hb5⟩
      have HR5 := Lib.hid hr5
      have HF5 := Lib.hid (HF.out.below hb5)
      have HE5 := Lib.hid (HE.out.below hb5)
      have HL5 := Lib.hid (HLG.out.below hb5)
      have HEA := Lib.hid HF.out.each
      have HSM : Hid (m = 1 + Hv.sumN ls ∧ m ≤ z) := Lib.hid ⟨HF.out.sum, HF.out.mz⟩
      have HKB : Hid (kk ≤ 1000 + 100 * 40) := Lib.hid (by have := HF.out.kb; have := HLN.out; omega)
      have HLB : Hid (ls.length ≤ 40) := Lib.hid (by have := HF.out.lb; have := HLN.out; omega)
      obtain ⟨A5, c5, rfl⟩ := row_slice hr5.row
      clear CR hr5 hb5 HF HE HLG hlt hk HAR
      go_wp2
      go_loopw [13, 98] (fun s i wr2 => ∃ j : Nat, j ≤ ls.length ∧ s = .int .i64 ((Hv.sumN (ls.take j) : Nat) : Int) ∧ i = .int .i64 j ∧ wr2 = w5) (fun _ i _ => ls.length - (intOf i).toNat)
      case atStart => exact ⟨0, Nat.zero_le _, rfl, rfl, rfl⟩
      case round =>
        obtain ⟨j, hj, rfl, rfl, hwr⟩ := hrel
        obtain rfl := hwr.symm
        by_cases hlt : j < ls.length
        · obtain ⟨A6, n6, c6, g6, A7, c7, h6, hn6, hA6, hc6⟩ := recs_at HR5.out hlt
          injection h6 with x1 x2 x3
          clear x2 x3
          subst x1
          subst hA6
          have HNX := Lib.hid (Hv.sumN_take hlt)
          have HLE := Lib.hid (Hv.sumN_le ls (j + 1))
          have hlj : ls[j].length ≤ 3000 := HEA.out _ (List.getElem_mem hlt)
          obtain ⟨nl, hnl⟩ : ∃ nl, nl = ls[j].length := ⟨_, rfl⟩
          rw [← hnl] at hc6 HNX hlj
          have CN := fun w => need_any (nl : Int) w (wf_nat nl hlj)
          obtain ⟨nd, hnd⟩ : ∃ nd, nd = Hv.need (nl : Int) := ⟨_, rfl⟩
          rw [← hnd] at CN HNX
          obtain ⟨s0, hs0⟩ : ∃ s0, s0 = Hv.sumN (ls.take j) := ⟨_, rfl⟩
          rw [← hs0] at HNX
          rw [← hs0]
          have HWR : Hid (wrap64 ((s0 : Int) + (nd : Int)) = ((Hv.sumN (ls.take (j + 1)) : Nat) : Int)) := Lib.hid (by
            have h1 := HNX.out
            have h2 := HLE.out
            have h3 := HSM.out
            have h4 := HZ2.out
            rw [IntWalk.wrap64_in _ (by omega)]; omega)
          have hc7 : w5.cell? ⟨g6, j, none⟩ = some (.slice A7 nl c7) := by rw [← hc6, Nat.zero_add]
          clear hnl hlj hnd hs0 hn6
          have i1 : ((j : Nat) : Int) < ls.length := by omega
          have i2 : (0 : Int) ≤ ((j : Nat) : Int) := by omega
          have hj40 : (j : Int) < 40 := by have := HLB.out; omega
          go_wp2_with (go_at_call 20; refine (CN _).mono ?_; rintro e wn ⟨rfl, rfl⟩)
          go_roundw
          case rel => exact ⟨j + 1, by omega, by first | rfl | (rw [HWR.out]), by go_num, (by first | rfl | trivial)⟩
          case measure => simp [intOf]; omega
        · have hje : j = ls.length := by omega
          subst hje
          rw [List.take_length]
          obtain ⟨sm, hsm⟩ : ∃ sm, sm = Hv.sumN ls := ⟨_, rfl⟩
          have HSM2 := HSM
          rw [← hsm] at HSM2
          rw [← hsm]
          clear hsm
          have CRM := lroom_any w5 HL5.out (Or.inl rfl) HSM2.out.2 (by have := HZ2.out; omega)
          obtain ⟨rm, hrm⟩ : ∃ rm, rm = z - m := ⟨_, rfl⟩
          rw [← hrm] at CRM
          have HRM := Lib.hid hrm
          have HE6 : Hid (wrap64 ((sm : Int) + (rm : Int)) = ((z - 1 : Nat) : Int)) := Lib.hid (by
            have h1 := HSM2.out
            have h2 := HRM.out
            have h3 := HZ2.out
            rw [IntWalk.wrap64_in _ (by omega)]; omega)
          clear hrm
          go_wp2_with (go_at_call 24; refine pause1 ?_)
          unfold Paused1
          refine CRM.mono ?_
          rintro e w6 ⟨rfl, j6, rfl⟩
          clear CRM
          go_wp2_with (with_reducible (show wpList _ _ _ (Oper.mk _ (Op.binOp BinOp.neq _ _ _ _) _ _ _ _ :: _) _ _); refine pause1 ?_)
          unfold Paused1
          simp only [HE6.out]
          have hb6 : Below w5.heap.size w5 (w5.drewN j6) := below_drewN (Below.refl _ _) j6
          have HF7 := Lib.hid (HF5.out.below hb6)
          have HE7 := Lib.hid (HE5.out.below hb6)
          have HL7 := Lib.hid (HL5.out.below hb6)
          clear hb6
          generalize w5.drewN j6 = w7 at HF7 HE7 HL7 ⊢
          have CSR := lserial_any w7 HL7.out
          have CCP := compact_nil a w w7 1 m v HL7.out HV1.out HF7.out.log.2 HF7.out.up (by have := HZ2.out; omega) HF7.out.size (by have := HKB.out; omega) HE7.out 1 2 0 0 (by rw [HF7.out.h0]; exact Hv.headM_of (by omega) (by decide) (Or.inr rfl)) (by rw [HF7.out.h1]; exact Hv.headM_zs) 2 (by rfl) (by decide)
          go_wp2_with (first
            | (go_at_call 19; refine CSR.mono ?_; rintro e wn ⟨rfl, rfl⟩)
            | (go_at_call 14; refine pause1 ?_))
          unfold Paused1
          refine CCP.mono ?_
          rintro e w8 ⟨rfl, h8, hf8⟩
          obtain ⟨⟨v8, hl8, us8, hr8⟩, _⟩ := h8
          have HL8 := Lib.hid hl8
          have HR8 := Lib.hid hr8
          have HE8 := Lib.hid (HE7.out.lfr hf8)
          have CRM := lroom_any w8 hl8 (Or.inr rfl) (by have := HZ2.out; omega) (by have := HZ2.out; omega)
          clear CCP CSR hf8 hl8 hr8
          go_wp2_with (go_at_call 24; refine pause1 ?_)
          unfold Paused1
          refine CRM.mono ?_
          rintro e w9 ⟨rfl, j9, rfl⟩
          have hb9 : Below w8.heap.size w8 (w8.drewN j9) := below_drewN (Below.refl _ _) j9
          have HL9 := Lib.hid (HL8.out.below hb9)
          have HR9 := Lib.hid (HR8.out.below hb9)
          have HE9 := Lib.hid (HE8.out.below hb9)
          clear hb9 CRM
          generalize w8.drewN j9 = w10 at HL9 HR9 HE9 ⊢
          have CRC := lrecords_any w10 HL9.out HR9.out (by simp) (by simp)
          go_wp2_with (go_at_call 16; refine pause1 ?_)
          unfold Paused1
          refine CRC.mono ?_
          rintro e w11 ⟨v11, rfl, ⟨us11, hr11⟩, hb11⟩
          obtain ⟨A11, c11, rfl⟩ := row_slice hr11.row
          have HL11 := Lib.hid (HL9.out.below hb11)
          have HE11 := Lib.hid (HE9.out.below hb11)
          have CSR := lserial_any w11 HL11.out
          clear CRC hr11 hb11
          go_wp2_with (go_at_call 19; refine CSR.mono ?_; rintro e wn ⟨rfl, rfl⟩)
          go_ret
          exact ⟨by first | rfl | simp, HE11.out.bel⟩
end Go.Proofs.YtbllilokcalbcaaDoor
