/- The walk of (*In).fields. -/
import Derived.Test.YtdokojlgcplefaaDoorMOct13s
import Derived.Recover
import Derived.Lib.Builder
namespace Go.Proofs.YtdokojlgcplefaaDoor
open Go Go.RowKit
def OSents (w : World) (a : Nat → Addr) : Prop := ∀ k, (k = 0 ∨ k = 1 ∨ k = 2 ∨ k = 3 ∨ k = 6) → SentAt w (sgs.getD k 0) (stexts.getD k []) (a k)
theorem OSents.below {w w' : World} {a : Nat → Addr} (h : OSents w a) {B : Nat} (hb : Below B w w') (hB : w.heap.size ≤ B) : OSents w' a := fun k hk => (h k hk).below hb hB
theorem Sents.o {w : World} {a : Nat → Addr} (h : Sents w a) : OSents w a := fun k hk => h k (by omega)
theorem fldO_info : (Tryd.prog.info? 91).map (fun i => (i.zero, i.size, i.bytes)) = some (some (.agg #[.int .i64 0, .slice none 0 0]), 2, 32) := by kernel_rfl
def FieldsPost (s : ByteArray) (xs : List Nat) (a : Nat → Addr) (w0 w : World) (i r : Nat) (e : Ending) (w' : World) : Prop :=
 (Oc.known s.data.toList = false → Fails w r (ev (a 6)) e w') ∧
 (Oc.known s.data.toList = true → ∀ c, Oc.reads (shN s) xs = .bad c → Fails w r (ev (a (c - 1))) e w') ∧
 (Oc.known s.data.toList = true → ∀ l p, Oc.reads (shN s) xs = .ok l p → ∃ v fs, e = .returned v ∧ fs.map Oc.says = l.map Oc.lays ∧ FX w0 w w' i r v s.size fs (xs.drop p))
theorem fld_num (B : Nat) (w : World) (n : Int) : FOwn B w ⟨n, none, 0, 0, []⟩ := ⟨⟨none, 0, rfl, Nat.le_refl _, fun h => absurd h (by simp)⟩, rfl, fun h => absurd h (by simp)⟩
theorem fld_own {B : Nat} {w : World} {A : Option Addr} {V c : Nat} {ys : List Nat} {B' : Nat} (h : Own B' w A V c ys 5) (hB : B ≤ B') : FOwn B w ⟨0, A, V, c, ys⟩ :=
 ⟨h.1, h.2.1, fun h0 => by obtain ⟨g, cs, e1, e2, e3⟩ := h.2.2 h0; exact ⟨g, cs, _, e1, Nat.le_trans hB e2, e3, by decide, by decide⟩⟩
theorem fld_oid {B : Nat} {w : World} (hB : B ≤ w.heap.size) {ys : List Nat} (hy : ys.length = 32) : FOwn B ((oidBox w).setRow w.heap.size (u8s ys)) ⟨0, some ⟨w.heap.size, 0, none⟩, 32, 32, ys⟩ := by
 have hb : Blk ((oidBox w).setRow w.heap.size (u8s ys)) w.heap.size 116 (u8s ys) := (Blk.new w _ _).row _
 refine ⟨⟨_, _, by rw [hy], by rw [hy]; exact Nat.le_refl _, fun _ => ⟨_, _, rfl, hb.lt, fun i hi => ?_⟩⟩, hy, fun _ => ⟨_, _, _, rfl, hB, hb, by decide, by decide⟩⟩
 rw [Nat.zero_add, hb.cell i, u8s_get _ _ hi]
theorem below_oid (w : World) (cs : Array Value) : Below w.heap.size w ((oidBox w).setRow w.heap.size cs) := below_row ((Below.refl _ _).alloc (Nat.le_refl _) _) (Nat.le_refl _) _
theorem step_num {c : Nat} (h1 : c ≠ 111) (h2 : c ≠ 116) (xs : List Nat) : Oc.step c xs = if xs.length < Oc.zs c then .bad 2 else if Oc.mostN c < Oc.val (xs.take (Oc.zs c)) then .bad 1 else .ok (Oc.val (xs.take (Oc.zs c))) [] (Oc.zs c) := by
 unfold Oc.step; rw [if_neg h1, if_neg h2]
theorem step_oid (xs : List Nat) : Oc.step 111 xs = if xs.length < 32 then .bad 2 else .ok 0 (xs.take 32) 32 := rfl
theorem step_text (xs : List Nat) : Oc.step 116 xs = if xs.length < 2 then .bad 2 else if xs.length < 2 + Oc.val (xs.take 2) then .bad 2 else .ok 0 ((xs.drop 2).take (Oc.val (xs.take 2))) (2 + Oc.val (xs.take 2)) := rfl
theorem says_snoc {fs : List Fld} {l : List (Nat × List Nat)} (h : fs.map Oc.says = l.map Oc.lays) {f : Fld} {n : Nat} {x : List Nat} (h1 : f.n = (n : Int)) (h2 : f.bs = x) : (fs ++ [f]).map Oc.says = (l ++ [(n, x)]).map Oc.lays := by
 rw [List.map_append, List.map_append, h]
 simp [Oc.says, Oc.lays, h1, h2]
theorem zs_pos {c : Nat} (h : 0 ≤ Oc.size c) (h1 : c ≠ 111) (h2 : c ≠ 116) : 0 < Oc.zs c ∧ Oc.zs c ≤ 8 ∧ Oc.nsize c = Oc.zs c := by
 rcases Oc.letter h with rfl | rfl | rfl | rfl | rfl
 ·exact ⟨by decide, by decide, rfl⟩
 ·exact ⟨by decide, by decide, rfl⟩
 ·exact ⟨by decide, by decide, rfl⟩
 ·exact absurd rfl h1
 ·exact absurd rfl h2
theorem fieldsPost_bad {s : ByteArray} {xs : List Nat} {a : Nat → Addr} {w0 w : World} {i r c : Nat} {e : Ending} {w' : World} (hk : Oc.known s.data.toList = true) (hr : Oc.reads (shN s) xs = .bad c) (hf : Fails w r (ev (a (c - 1))) e w') : FieldsPost s xs a w0 w i r e w' :=
 ⟨fun h => (by rw [hk] at h; cases h), fun _ c' h => (by rw [hr] at h; injection h with h; subst h; exact hf), fun _ l p h => (by rw [hr] at h; cases h)⟩
def FRel (s : ByteArray) (xs : List Nat) (w0 wf wr : World) (i r : Nat) (v : Value) (k : Nat) : Prop :=
 ∃ l p fs, Oc.reads ((shN s).take k) xs = .ok l p ∧ fs.map Oc.says = l.map Oc.lays ∧ FX w0 wf wr i r v k fs (xs.drop p)
set_option maxRecDepth 100000 in
set_option maxHeartbeats 1000000 in
theorem fields_any (s : ByteArray) (i r : Nat) (xs : List Nat) (a : Nat → Addr) (w0 w : World) (h : InAt w0 w i r xs) (hs : s.size ≤ 1000) (hb : Oc.bytes xs) (hS : OSents w0 a) :
  Calls Tryd.prog 63 #[.pointer (some ⟨i, 0, none⟩), .string s] w (FieldsPost s xs a w0 w i r) := by
 have C1 := known_any s
 obtain ⟨kn, hkn⟩ : ∃ kn, kn = Oc.known s.data.toList := ⟨_, rfl⟩
 rw [← hkn] at C1
 have HKN := Lib.hid hkn
 clear hkn
 have HSE := Lib.hid hS
 have hSw := hS.below h.bel.1 (Nat.le_refl _)
 cases kn
 ·have pK : w.cell? ⟨4, 0, none⟩ = some (ev (a 6)) := (hSw 6 (by omega)).var
  obtain ⟨v, hR, _⟩ := h
  have CF := fail_any i r v (a 6) w hR
  clear hR hS hSw
  go_enter Tryd.func63, Tryd.ntmps63
  go_wp2_with (first | (go_at_call 66; refine (C1 _ (by omega)).mono ?_; rintro e w' ⟨rfl, rfl⟩) | (go_at_call 75; refine CF.mono ?_; rintro e w' ⟨rfl, hd, hg⟩))
  exact ⟨rfl, fun _ => ⟨rfl, hd, hg⟩, fun h => (by rw [← HKN.out] at h; cases h), fun h => (by rw [← HKN.out] at h; cases h)⟩
 ·have H0 : Hid (FRel s xs w0 w w i r (.slice none 0 0) 0) := Lib.hid ⟨[], 0, [], rfl, rfl, FX.start h⟩
  have HBY := Lib.hid hb
  clear hS hSw hb h
  go_enter Tryd.func63, Tryd.ntmps63
  go_wp2_with (go_at_call 66; refine (C1 _ (by omega)).mono ?_; rintro e w' ⟨rfl, rfl⟩)
  go_loopw [5, 17] (fun v j wr => ∃ k : Nat, k ≤ s.size ∧ j = .int .i64 k ∧ Hid (FRel s xs w0 w wr i r v k)) (fun _ j _ => s.size - (intOf j).toNat)
  case atStart => exact ⟨0, Nat.zero_le _, rfl, H0⟩
  case round =>
   obtain ⟨k, hk, rfl, HR⟩ := hrel
   by_cases hlt : k < s.size
   ·obtain ⟨l, p, fs, h1, h2, h3⟩ := HR.out
    have hks : k < (shN s).length := by rw [shN_len]; exact hlt
    have hL : 0 ≤ Oc.size s[k].toNat := of_decide_eq_true (Oc.known_at HKN.out.symm hlt)
    have hnext := fun (n m : Nat) (x : List Nat) (hst : Oc.step s[k].toNat (xs.drop p) = .ok n x m) => Oc.reads_ok_next h1 hks (shN_get hlt) hst
    have hbad := fun (e : Nat) (hst : Oc.step s[k].toNat (xs.drop p) = .bad e) => Oc.reads_bad_next h1 hks (shN_get hlt) hst
    have hys := Oc.bytes_drop HBY.out p
    have hSr := HSE.out.below h3.at_.bel.1 (Nat.le_refl _)
    have pS : wr.cell? ⟨6, 0, none⟩ = some (ev (a 1)) := (hSr 1 (by omega)).var
    have pR : wr.cell? ⟨0, 0, none⟩ = some (ev (a 0)) := (hSr 0 (by omega)).var
    have hrS : r ≠ 6 := fun e => by have g1 := h3.at_.bel.2; have g2 := (HSE.out 1 (by omega)).lt; have g3 : sgs.getD 1 0 = 6 := rfl; omega
    have hrR : r ≠ 0 := fun e => by have g1 := h3.at_.bel.2; have g2 := (HSE.out 0 (by omega)).lt; have g3 : sgs.getD 0 0 = 0 := rfl; omega
    have hrl : r < wr.heap.size := h3.at_.lt
    have HDR : ∀ m, Hid ((xs.drop p).drop m = xs.drop (p + m)) := fun m => Lib.hid (by rw [List.drop_drop])
    obtain ⟨ys, hyy⟩ : ∃ ys, ys = xs.drop p := ⟨_, rfl⟩
    rw [← hyy] at hnext hbad hys h3 HDR
    have HFX := Lib.hid h3
    have HSY := Lib.hid h2
    have HNX := Lib.hid hnext
    have HBD := Lib.hid hbad
    clear h1 hnext hbad hSr h2 hyy
    have iq0 : ((k : Nat) : Int) < s.size := by omega
    have iq1 : (0 : Int) ≤ ((k : Nat) : Int) := by omega
    obtain ⟨i0, hi0, hiz, his, hib⟩ := info_parts fldO_info
    have hat := h3.at_
    clear h3 hks
    by_cases c1 : s[k].toNat = 111
    ·have bq1 : (s[k].toNat : Int) = 111 := by omega
     rw [c1] at HNX HBD
     by_cases hn : ys.length < 32
     ·have CF := oid_short i r (a 1) ys w0 wr hat hn pS
      have HB := Lib.hid (HBD.out 2 (by rw [step_oid, if_pos hn]))
      clear hat pS pR hi0 hiz his hib HNX HBD
      go_wp2_with (go_at_call 76; refine CF.mono ?_; rintro e w' ⟨rfl, hd, hg⟩)
      exact ⟨rfl, fieldsPost_bad HKN.out.symm HB.out ⟨rfl, hd, only_trans HFX.out.grw hg⟩⟩
     ·have CF := oid_ok i r ys w0 wr hat (by omega)
      have hNX := HNX.out 0 32 (ys.take 32) (by rw [step_oid, if_neg hn])
      have hol : (ys.take 32).length = 32 := by rw [List.length_take]; omega
      obtain ⟨os, hos⟩ : ∃ os, os = ys.take 32 := ⟨_, rfl⟩
      rw [← hos] at CF hNX hol
      have HDR := HDR 32
      have HOL := Lib.hid hol
      clear HNX
      have HNX := Lib.hid hNX
      clear hat pS pR HBD hNX hos hol
      go_wp2_with (first
       | (go_at_call 76; refine CF.mono ?_; rintro e w1 ⟨rfl, hi, hg⟩; have HX1 := Lib.hid (HFX.out.read hg hi); have HBX : Hid (Blk (oidBox w1) w1.heap.size 116 (u8s (List.replicate 32 0))) := Lib.hid (Blk.new w1 _ _); have HXB : Hid (FX w0 w (((oidBox w1).setRow w1.heap.size (u8s os)).alloc (.cells #[.int .i64 0, .slice (some ⟨w1.heap.size, 0, none⟩) 32 32] 91)) i r u5 k fs (ys.drop 32)) := Lib.hid ((HX1.out.below (below_oid w1 _)).below ((Below.refl _ _).alloc (Nat.le_refl _) _)); have HFO : Hid (FOwn w.heap.size (((oidBox w1).setRow w1.heap.size (u8s os)).alloc (.cells #[.int .i64 0, .slice (some ⟨w1.heap.size, 0, none⟩) 32 32] 91)) ⟨0, some ⟨w1.heap.size, 0, none⟩, 32, 32, os⟩) := Lib.hid ((fld_oid HX1.out.grw.size HOL.out).below ((Below.refl _ _).alloc (Nat.le_refl _) _)); have HY : Hid (Blk (((oidBox w1).setRow w1.heap.size (u8s os)).alloc (.cells #[.int .i64 0, .slice (some ⟨w1.heap.size, 0, none⟩) 32 32] 91)) (w1.heap.size + 1) 91 #[.int .i64 0, .slice (some ⟨w1.heap.size, 0, none⟩) 32 32]) := Lib.hid (by have h := Blk.new ((oidBox w1).setRow w1.heap.size (u8s os)) 91 #[.int .i64 0, .slice (some ⟨w1.heap.size, 0, none⟩) 32 32]; rwa [show ((oidBox w1).setRow w1.heap.size (u8s os)).heap.size = w1.heap.size + 1 by simp [World.setRow]] at h); clear hi hg)
       | (refine wpList_store_row rfl 116 (.tmp 8) (.tmp 34) rfl w1.heap.size _ rfl rfl 116 _ HBX.out (by rw [u8s_size, HOL.out]; exact oid_size) (by rw [u8s_size, u8s_size, HOL.out]; rfl) (u8s_one _) ?_)
       | (refine wpList_append_own _ rfl (.tmp 35) (.tmp 38) 87 rfl w.heap.size 91 i0 _ 2 32 Tryd.underlying87 hi0 hiz his hib rfl (by decide) _ k _ rfl HXB.out.row ⟨w1.heap.size + 1, 0, none⟩ 1 1 [.int .i64 0, .slice (some ⟨w1.heap.size, 0, none⟩) 32 32] rfl rfl (fun j u hj => by rw [Addr.add_mid, Nat.zero_add]; exact (HY.out.cell j).trans (by simpa using hj)) (fun u hu => by simp at hu; rcases hu with rfl | rfl <;> rfl) (by unfold maxLen; omega) (by omega) HXB.out.grw.size ?_; intro v' w2 hown hgrow _; have HN : Hid (FRel s xs w0 w w2 i r v' (k + 1)) := Lib.hid ⟨_, _, _, HNX.out, says_snoc HSY.out rfl rfl, by rw [← HDR.out]; exact FX.app HXB.out hown hgrow HFO.out⟩; clear hown hgrow))
      go_roundw
      case rel => exact ⟨k + 1, by omega, by go_num, HN⟩
      case measure => simp [intOf]; omega
    ·by_cases c2 : s[k].toNat = 116
     ·have bq1 : ((s[k].toNat : Int) == 111) = false := by simp; omega
      have bq2 : (s[k].toNat : Int) = 116 := by omega
      rw [c2] at HNX HBD
      by_cases hn : ys.length < 2
      ·have CF := text_short i r (a 1) ys w0 wr hat hn pS
       have HB := Lib.hid (HBD.out 2 (by rw [step_text, if_pos hn]))
       clear hat pS pR hi0 hiz his hib HNX HBD
       go_wp2_with (go_at_call 77; refine CF.mono ?_; rintro e w' ⟨rfl, hd, hg⟩)
       exact ⟨rfl, fieldsPost_bad HKN.out.symm HB.out ⟨rfl, hd, only_trans HFX.out.grw hg⟩⟩
      ·by_cases hn2 : ys.length < 2 + Oc.val (ys.take 2)
       ·have CF := text_short2 i r (a 1) ys w0 wr hat (by omega) hn2 hys hrS pS
        have HB := Lib.hid (HBD.out 2 (by rw [step_text, if_neg hn, if_pos hn2]))
        clear hat pS pR hi0 hiz his hib HNX HBD
        go_wp2_with (go_at_call 77; refine CF.mono ?_; rintro e w' ⟨rfl, hd, hg⟩)
        exact ⟨rfl, fieldsPost_bad HKN.out.symm HB.out ⟨rfl, hd, only_trans HFX.out.grw hg⟩⟩
       ·have CF := text_ok i r ys w0 wr hat (by omega) (by omega) hys hrl
        have hNX := HNX.out 0 (2 + Oc.val (ys.take 2)) ((ys.drop 2).take (Oc.val (ys.take 2))) (by rw [step_text, if_neg hn, if_neg hn2])
        have HDR := HDR (2 + Oc.val (ys.take 2))
        clear HNX
        have hvl := Oc.val_lt 2 (ys.take 2) (Oc.bytes_take hys 2) (by rw [List.length_take]; omega)
        generalize Oc.val (ys.take 2) = V at CF hNX HDR hvl hn2
        obtain ⟨zs, hzs⟩ : ∃ zs, zs = (ys.drop 2).take V := ⟨_, rfl⟩
        rw [← hzs] at CF hNX
        have HNX := Lib.hid hNX
        clear hat pS pR HBD hNX hzs hn2
        go_wp2_with (first
         | (go_at_call 77; refine CF.mono ?_; rintro e w1 ⟨A, c, rfl, how, hi, hg⟩; have HXB : Hid (FX w0 w (w1.alloc (.cells #[.int .i64 0, .slice A V c] 91)) i r u5 k fs (ys.drop (2 + V))) := Lib.hid ((HFX.out.read hg hi).below ((Below.refl _ _).alloc (Nat.le_refl _) _)); have HFO : Hid (FOwn w.heap.size (w1.alloc (.cells #[.int .i64 0, .slice A V c] 91)) ⟨0, A, V, c, zs⟩) := Lib.hid ((fld_own how HFX.out.grw.size).below ((Below.refl _ _).alloc (Nat.le_refl _) _)); have HY : Hid (Blk (w1.alloc (.cells #[.int .i64 0, .slice A V c] 91)) w1.heap.size 91 #[.int .i64 0, .slice A V c]) := Lib.hid (Blk.new w1 _ _); clear hi hg how)
         | (refine wpList_append_own _ rfl (.tmp 42) (.tmp 46) 87 rfl w.heap.size 91 i0 _ 2 32 Tryd.underlying87 hi0 hiz his hib rfl (by decide) _ k _ rfl HXB.out.row ⟨w1.heap.size, 0, none⟩ 1 1 [.int .i64 0, .slice A V c] rfl rfl (fun j u hj => by rw [Addr.add_mid, Nat.zero_add]; exact (HY.out.cell j).trans (by simpa using hj)) (fun u hu => by simp at hu; rcases hu with rfl | rfl <;> rfl) (by unfold maxLen; omega) (by omega) HXB.out.grw.size ?_; intro v' w2 hown hgrow _; have HN : Hid (FRel s xs w0 w w2 i r v' (k + 1)) := Lib.hid ⟨_, _, _, HNX.out, says_snoc HSY.out rfl rfl, by rw [← HDR.out]; exact FX.app HXB.out hown hgrow HFO.out⟩; clear hown hgrow))
        go_roundw
        case rel => exact ⟨k + 1, by omega, by go_num, HN⟩
        case measure => simp [intOf]; omega
     ·have bq1 : ((s[k].toNat : Int) == 111) = false := by simp; omega
      have bq2 : ((s[k].toNat : Int) == 116) = false := by simp; omega
      have hstep := step_num c1 c2 ys
      obtain ⟨hz0, hz8, hnz⟩ := zs_pos hL c1 c2
      obtain ⟨_, hmm⟩ := Oc.zs_most hL c1 c2
      have CS := fun (hl : ys.length < Oc.zs (s[k]'hlt).toNat) => inum_short i r s[k].toNat (Oc.zs s[k].toNat) (a 1) ys w0 wr hat hnz hz0 hl pS
      have CO := fun (hl : Oc.zs (s[k]'hlt).toNat ≤ ys.length) (hm : Oc.val (ys.take (Oc.zs (s[k]'hlt).toNat)) ≤ Oc.mostN (s[k]'hlt).toNat) => inum_ok i r s[k].toNat (Oc.zs s[k].toNat) ys w0 wr hat hnz hz0 hz8 hl hys hm hmm
      have CR := fun (hl : Oc.zs (s[k]'hlt).toNat ≤ ys.length) (hm : Oc.mostN (s[k]'hlt).toNat < Oc.val (ys.take (Oc.zs (s[k]'hlt).toNat))) => inum_range i r s[k].toNat (Oc.zs s[k].toNat) (a 0) ys w0 wr hat hnz hz0 hz8 hl hys hm hmm hrR pR
      generalize Oc.zs s[k].toNat = z at hstep hz0 hz8 CS CO CR hnz
      generalize Oc.mostN s[k].toNat = M at hstep CO CR
      clear hnz hmm
      by_cases hn : ys.length < z
      ·have CF := CS hn
       have HB := Lib.hid (HBD.out 2 (by rw [hstep, if_pos hn]))
       clear hat pS pR hi0 hiz his hib HNX HBD CS CO CR hstep
       go_wp2_with (go_at_call 78; refine CF.mono ?_; rintro e w' ⟨rfl, hd, hg⟩)
       exact ⟨rfl, fieldsPost_bad HKN.out.symm HB.out ⟨rfl, hd, only_trans HFX.out.grw hg⟩⟩
      ·by_cases hm : M < Oc.val (ys.take z)
       ·have CF := CR (by omega) hm
        have HB := Lib.hid (HBD.out 1 (by rw [hstep, if_neg hn, if_pos hm]))
        clear hat pS pR hi0 hiz his hib HNX HBD CS CO CR hstep hm
        go_wp2_with (go_at_call 78; refine CF.mono ?_; rintro e w' ⟨rfl, hd, hg⟩)
        exact ⟨rfl, fieldsPost_bad HKN.out.symm HB.out ⟨rfl, hd, only_trans HFX.out.grw hg⟩⟩
       ·have CF := CO (by omega) (by omega)
        have hNX := HNX.out (Oc.val (ys.take z)) z [] (by rw [hstep, if_neg hn, if_neg hm])
        have HDR := HDR z
        clear HNX CS CO CR hstep hm
        generalize Oc.val (ys.take z) = V at CF hNX
        have HNX := Lib.hid hNX
        clear hat pS pR HBD hNX
        go_wp2_with (first
         | (go_at_call 78; refine CF.mono ?_; rintro e w1 ⟨rfl, hi, hg⟩; have HXB : Hid (FX w0 w (w1.alloc (.cells #[.int .i64 (V : Int), .slice none 0 0] 91)) i r u5 k fs (ys.drop z)) := Lib.hid ((HFX.out.read hg hi).below ((Below.refl _ _).alloc (Nat.le_refl _) _)); have HFO : Hid (FOwn w.heap.size (w1.alloc (.cells #[.int .i64 (V : Int), .slice none 0 0] 91)) ⟨(V : Int), none, 0, 0, []⟩) := Lib.hid (fld_num _ _ _); have HY : Hid (Blk (w1.alloc (.cells #[.int .i64 (V : Int), .slice none 0 0] 91)) w1.heap.size 91 #[.int .i64 (V : Int), .slice none 0 0]) := Lib.hid (Blk.new w1 _ _); clear hi hg)
         | (refine wpList_append_own _ rfl (.tmp 24) (.tmp 29) 87 rfl w.heap.size 91 i0 _ 2 32 Tryd.underlying87 hi0 hiz his hib rfl (by decide) _ k _ rfl HXB.out.row ⟨w1.heap.size, 0, none⟩ 1 1 [.int .i64 (V : Int), .slice none 0 0] rfl rfl (fun j u hj => by rw [Addr.add_mid, Nat.zero_add]; exact (HY.out.cell j).trans (by simpa using hj)) (fun u hu => by simp at hu; rcases hu with rfl | rfl <;> rfl) (by unfold maxLen; omega) (by omega) HXB.out.grw.size ?_; intro v' w2 hown hgrow _; have HN : Hid (FRel s xs w0 w w2 i r v' (k + 1)) := Lib.hid ⟨_, _, _, HNX.out, says_snoc HSY.out rfl rfl, by rw [← HDR.out]; exact FX.app HXB.out hown hgrow HFO.out⟩; clear hown hgrow))
        go_roundw
        case rel => exact ⟨k + 1, by omega, by go_num, HN⟩
        case measure => simp [intOf]; omega
   ·obtain rfl : k = s.size := by omega
    have H : Hid (FieldsPost s xs a w0 w i r (.returned u5) wr) := Lib.hid ⟨fun h => (by rw [← HKN.out] at h; cases h), fun _ c hc => (by obtain ⟨l, p, fs, h1, _⟩ := HR.out; rw [List.take_of_length_le (by rw [shN_len]; exact Nat.le_refl _)] at h1; rw [h1] at hc; cases hc), fun _ l p hc => (by obtain ⟨l', p', fs, h1, h2, h3⟩ := HR.out; rw [List.take_of_length_le (by rw [shN_len]; exact Nat.le_refl _)] at h1; rw [h1] at hc; injection hc with e1 e2; subst e1; subst e2; exact ⟨_, fs, rfl, h2, h3⟩)⟩
    go_wp2
    go_ret
    exact H.out
end Go.Proofs.YtdokojlgcplefaaDoor
/- run: what is deferred, and run itself. -/
namespace Go.Proofs.YtdokojlgcplefaaDoor
open Go Go.RowKit
theorem slots17 (x v : Value) : #[x] ++ (Array.replicate 17 undef).setIfInBounds 3 v = #[x, undef, undef, undef, v, undef, undef, undef, undef, undef, undef, undef, undef, undef, undef, undef, undef, undef] := by kernel_rfl
theorem stop_eql (r : Nat) (w : World) : (binOp .eql 20 (stopV r) .nilIface).run Tryd.prog w = .ok (.bool false) w := by kernel_rfl
theorem stop_assert (r : Nat) (w : World) : (Instr.typeAssert (stopV r) 20 137 true).run Tryd.prog w = .ok (.tuple #[.agg #[.pointer (some ⟨r, 0, none⟩)], .bool true]) w := by kernel_rfl
theorem stop_neq (r : Nat) (w : World) : (binOp .neq 119 (.pointer (some ⟨r, 0, none⟩)) (.pointer (some ⟨r, 0, none⟩))).run Tryd.prog w = .ok (.bool false) w := by
 cases h : Tryd.prog.info? 121 with
 | none =>
  have h2 : (Tryd.prog.info? 121).isSome = true := by kernel_rfl
  rw [h] at h2; cases h2
 | some j => exact Lib.run_neq_ptr_same w _ Tryd.underlying119 h
abbrev runBox (w : World) (r : Nat) : World := (w.alloc (.cells #[.pointer (some ⟨r, 0, none⟩)] 119)).alloc (.cells #[.pointer (some ⟨r, 0, none⟩)] 127)
theorem catchF_idle (q : Nat) (w : World) :
  CallsD Tryd.prog 85 #[.pointer (some ⟨q, 0, none⟩)] .returning w fun e u' w' => e = .returned (.tuple #[]) ∧ u' = .returning ∧ w' = w := by
 refine callsD_of_wpS Tryd.func85 rfl fun c₀ cs hu => ?_
 apply wpS_seq
 apply wpS_region
 simp [wpOpsS, go_sem, recoverD, hu, Tryd.ntmps85, Exit.thenS]
 rw [slots17]
 refine wpS_of_wp ?_
 go_wp2
 exact ⟨rfl, _, by rw [← hu], _, results_none rfl _ _ _, rfl, rfl, rfl⟩
set_option maxRecDepth 100000 in
theorem catchF_stop (q r : Nat) (older : List PanicEntry) (w : World) (hq : w.cell? ⟨q, 0, none⟩ = some (.pointer (some ⟨r, 0, none⟩))) :
  CallsD Tryd.prog 85 #[.pointer (some ⟨q, 0, none⟩)] (.panicking ({ v := stopV r, recovered := false } :: older)) w fun e u' w' =>
   e = .returned (.tuple #[]) ∧ u' = .panicking ({ v := stopV r, recovered := true } :: older) ∧ Below w.heap.size w w' := by
 refine callsD_of_wpS Tryd.func85 rfl fun c₀ cs hu => ?_
 apply wpS_seq
 apply wpS_region
 simp [wpOpsS, go_sem, recoverD, hu, Tryd.ntmps85, Exit.thenS]
 rw [slots17]
 refine wpS_of_wp ?_
 have h1 := stop_eql r
 have h2 := stop_assert r
 have h3 := stop_neq r
 have hb : Hid (Below w.heap.size w (w.alloc (.cells #[.pointer (some ⟨r, 0, none⟩)] 137))) := Lib.hid ((Below.refl _ _).alloc (Nat.le_refl _) _)
 have hq2 : (w.alloc (.cells #[.pointer (some ⟨r, 0, none⟩)] 137)).cell? ⟨q, 0, none⟩ = some (.pointer (some ⟨r, 0, none⟩)) := (hb.out.cell (p := ⟨q, 0, none⟩) (block_lt_of_cell hq)).trans hq
 go_wp2
 refine ⟨rfl, .panicking ({ v := stopV r, recovered := true } :: older), rfl, .tuple #[], ?_, rfl, rfl, hb.out⟩
 exact results_none rfl _ _ _
theorem runF_ok (K : Nat) (cap : Array Value) (r : Nat) (w : World) (R : Value → World → Prop) (hK : ∀ args w, (callFunc K args).run Tryd.prog w = .ok (.enter K args) w)
  (hread : Calls Tryd.prog K (#[.pointer (some ⟨w.heap.size + 1, 0, none⟩)] ++ cap) (runBox w r) fun e w' => ∃ v, e = .returned v ∧ R v w') :
  Calls Tryd.prog 74 #[.pointer (some ⟨r, 0, none⟩), .func (.func K) #[] cap] w fun e w' => ∃ v, e = .returned v ∧ R v w' := by
 have hmf : ∀ (fn : Fn) (first cap : Array Value) (w : World), (Instr.makeFunc fn first cap).run Tryd.prog w = .ok (.func fn first cap) w := fun _ _ _ _ => rfl
 go_enter_defers Tryd.func74, Tryd.ntmps74
 go_wp2_with (refine hread.mono ?_; rintro e w1 ⟨v, rfl, hr⟩; have HR := Lib.hid hr; clear hr)
 refine leaves_cons (f := 85) (args := #[.pointer (some ⟨w.heap.size, 0, none⟩)]) (by simp) (by simp [go_sem]) ?_
 refine (catchF_idle w.heap.size _).mono ?_
 rintro e u' w'' ⟨rfl, rfl, rfl⟩
 refine ⟨_, results_tmp rfl _ _ _, ?_⟩
 exact ⟨v, rfl, HR.out⟩
theorem runF_bad (K : Nat) (cap : Array Value) (r : Nat) (w : World) (R : World → Prop) (hK : ∀ args w, (callFunc K args).run Tryd.prog w = .ok (.enter K args) w)
  (hread : Calls Tryd.prog K (#[.pointer (some ⟨w.heap.size + 1, 0, none⟩)] ++ cap) (runBox w r) fun e w' => e = .panicked [{ v := stopV r, recovered := false }] ∧ R w')
  (hq : ∀ a, R a → a.cell? ⟨w.heap.size, 0, none⟩ = some (.pointer (some ⟨r, 0, none⟩))) (hR : ∀ a b, R a → Below a.heap.size a b → R b) :
  Calls Tryd.prog 74 #[.pointer (some ⟨r, 0, none⟩), .func (.func K) #[] cap] w fun e w' => e = .returned (.slice none 0 0) ∧ R w' := by
 have hmf : ∀ (fn : Fn) (first cap : Array Value) (w : World), (Instr.makeFunc fn first cap).run Tryd.prog w = .ok (.func fn first cap) w := fun _ _ _ _ => rfl
 go_enter_defers Tryd.func74, Tryd.ntmps74
 go_wp2_with (refine hread.mono ?_; rintro e w1 ⟨rfl, hr⟩; have HR := Lib.hid hr; clear hr)
 refine leaves_cons (f := 85) (args := #[.pointer (some ⟨w.heap.size, 0, none⟩)]) (by simp) (by simp [go_sem]) ?_
 refine (catchF_stop w.heap.size r [] _ (hq _ HR.out)).mono ?_
 rintro e u' w'' ⟨rfl, rfl, hb⟩
 exact ⟨_, results_tmp rfl _ _ _, rfl, hR _ _ HR.out hb⟩
theorem enter_rest (args : Array Value) (w : World) : (callFunc 62 args).run Tryd.prog w = .ok (.enter 62 args) w := by kernel_rfl
end Go.Proofs.YtdokojlgcplefaaDoor
/- Take: what it answers, whatever reads. -/
namespace Go.Proofs.YtdokojlgcplefaaDoor
open Go Go.RowKit
structure Kpt (S : Nat → Prop) (w w' : World) : Prop where
 os : w'.os = w.os
 tape : w'.tape = w.tape
 output : w'.output = w.output
 size : w.heap.size ≤ w'.heap.size
 block : ∀ b, b < w.heap.size → ¬ S b → w'.heap[b]? = w.heap[b]?
theorem Kpt.of_below {S : Nat → Prop} {w w' : World} (h : Below w.heap.size w w') : Kpt S w w' := ⟨h.os, h.tape, h.output, h.size, fun b hb _ => h.block b hb⟩
theorem Kpt.of_grown {S : Nat → Prop} {w w' : World} {r : Nat} (h : w.grownBy w' (some r)) (hr : S r) : Kpt S w w' := ⟨h.os, h.tape, h.output, h.size, fun b hb hs => h.block b hb (fun e => by injection e with e; subst e; exact hs hr)⟩
theorem Kpt.trans {S : Nat → Prop} {a b c : World} (h : Kpt S a b) (k : Kpt S b c) : Kpt S a c := ⟨k.os.trans h.os, k.tape.trans h.tape, k.output.trans h.output, Nat.le_trans h.size k.size, fun x hx hs => (k.block x (Nat.lt_of_lt_of_le hx h.size) hs).trans (h.block x hx hs)⟩
theorem Kpt.below {w w' : World} (h : Kpt (fun _ => False) w w') : Below w.heap.size w w' := ⟨h.os, h.tape, h.output, h.size, fun b hb => h.block b hb (fun h => h)⟩
theorem Kpt.old {S T : Nat → Prop} {a b c : World} (h : Kpt S a b) (k : Kpt T b c) (hT : ∀ x, T x → x < a.heap.size → S x) : Kpt S a c :=
 ⟨k.os.trans h.os, k.tape.trans h.tape, k.output.trans h.output, Nat.le_trans h.size k.size, fun x hx hs => (k.block x (Nat.lt_of_lt_of_le hx h.size) (fun ht => hs (hT x ht hx))).trans (h.block x hx hs)⟩
theorem Kpt.blk {S : Nat → Prop} {w w' : World} (h : Kpt S w w') {g : Nat} {t : TypeId} {cs : Array Value} (hg : Blk w g t cs) (hs : ¬ S g) : Blk w' g t cs := (h.block g hg.lt hs).trans hg
theorem Kpt.cell {S : Nat → Prop} {w w' : World} (h : Kpt S w w') {p : Addr} {v : Value} (hp : w.cell? p = some v) (hs : ¬ S p.block) : w'.cell? p = some v := (World.cell?_of_block (h.block p.block (block_lt_of_cell hp) hs)).trans hp
abbrev takeBox (w : World) (v : Value) : World := (w.alloc (.cells #[v, .bool true, .bool false, .nilIface] 121)).alloc (.cells #[.pointer (some ⟨w.heap.size, 0, none⟩)] 119)
theorem takeBox_size (w : World) (v : Value) : (takeBox w v).heap.size = w.heap.size + 2 := by simp
theorem below_takeRun (w : World) (v : Value) : Below w.heap.size w (runBox (takeBox w v) w.heap.size) :=
 ((((Below.refl _ _).alloc (Nat.le_refl _) _).alloc (by simp) _).alloc (by simp <;> omega) _).alloc (by simp <;> omega) _
theorem inAt_run {w0 w : World} {v : Value} {xs : List Nat} (hw : Below w0.heap.size w0 w) (hv : Rd w0 v xs) : InAt w0 (runBox (takeBox w v) w.heap.size) ((takeBox w v).heap.size + 1) w.heap.size xs := by
 refine ⟨v, ⟨?_, ?_, ?_⟩, hv, below_then hw (below_takeRun w v), hw.size, ?_⟩
 ·have h := Blk.new ((takeBox w v).alloc (.cells #[.pointer (some ⟨w.heap.size, 0, none⟩)] 119)) 127 #[.pointer (some ⟨w.heap.size, 0, none⟩)]
  rwa [show ((takeBox w v).alloc (.cells #[.pointer (some ⟨w.heap.size, 0, none⟩)] 119)).heap.size = (takeBox w v).heap.size + 1 by simp] at h
 ·exact (((Blk.new w _ _).alloc _).alloc _).alloc _
 ·rw [takeBox_size]; omega
 ·rw [takeBox_size]; have := hw.size; omega
theorem var_run (w : World) (v : Value) : Blk (runBox (takeBox w v) w.heap.size) (w.heap.size + 1) 119 #[.pointer (some ⟨w.heap.size, 0, none⟩)] := by
 have h := Blk.new (w.alloc (.cells #[v, .bool true, .bool false, .nilIface] 121)) 119 #[.pointer (some ⟨w.heap.size, 0, none⟩)]
 rw [show (w.alloc (.cells #[v, .bool true, .bool false, .nilIface] 121)).heap.size = w.heap.size + 1 by simp] at h
 exact (h.alloc _).alloc _
theorem var_run2 (w : World) (v : Value) : Blk (runBox (takeBox w v) w.heap.size) (w.heap.size + 2) 119 #[.pointer (some ⟨w.heap.size, 0, none⟩)] := by
 have h := Blk.new (takeBox w v) 119 #[.pointer (some ⟨w.heap.size, 0, none⟩)]
 rw [takeBox_size] at h
 exact h.alloc _
theorem closeF_any (q r : Nat) (v0 v1 v2 v3 : Value) (w : World) (hq : w.cell? ⟨q, 0, none⟩ = some (.pointer (some ⟨r, 0, none⟩))) (hr : Blk w r 121 #[v0, v1, v2, v3]) :
  CallsD Tryd.prog 73 #[.pointer (some ⟨q, 0, none⟩)] .returning w fun e u' w' => u' = .returning ∧ (e = .returned (.tuple #[]) ∧ w.grownBy w' (some r)) := by
 have HG : Hid (w.grownBy ((((w.setCell ⟨r, 0, none⟩ (.slice none 0 0)).setCell ⟨r, 1, none⟩ (.bool false)).setCell ⟨r, 2, none⟩ (.bool false)).setCell ⟨r, 3, none⟩ .nilIface) (some r)) := Lib.hid (only_setCell (p := ⟨r, 3, none⟩) (only_setCell (p := ⟨r, 2, none⟩) (only_setCell (p := ⟨r, 1, none⟩) (only_setCell (p := ⟨r, 0, none⟩) (World.grownBy.refl w (some r)) (Or.inl rfl) _) (Or.inl rfl) _) (Or.inl rfl) _) (Or.inl rfl) _)
 have c0 : w.cell? ⟨r, 0, none⟩ = some v0 := hr.cell 0
 have c1 : w.cell? ⟨r, 1, none⟩ = some v1 := hr.cell 1
 have c2 : w.cell? ⟨r, 2, none⟩ = some v2 := hr.cell 2
 have c3 : w.cell? ⟨r, 3, none⟩ = some v3 := hr.cell 3
 have z0 := hr.frozen 0
 have z1 := hr.frozen 1
 have z2 := hr.frozen 2
 have z3 := hr.frozen 3
 clear hr
 go_enter_d Tryd.func73, Tryd.ntmps73
 go_wp2
 go_end0
 exact ⟨rfl, HG.out⟩
end Go.Proofs.YtdokojlgcplefaaDoor
