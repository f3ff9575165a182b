/- Layer 5's bytes: parts joined, sums by a word, a row of whole sectors; a head's bytes, a record's bytes. -/
import Derived.Test.YtdokojlgcplefaaDoorMLawOpen3s
import Derived.Test.YtdokojlgcplefaaDoorMShaEnds
import Derived.Test.YtdokojlgcplefaaDoorMOct19s
import Derived.Laws.CopyOwn
import Derived.Lib.ConvBytes
namespace Go.Proofs.YtdokojlgcplefaaDoor
open Go Go.RowKit
def u8l (xs : List Nat) : List UInt8 := xs.map UInt8.ofNat
theorem u8l_len (xs : List Nat) : (u8l xs).length = xs.length := by simp [u8l]
theorem holds_of_rd {w : World} {v : Value} {xs : List Nat} (h : Rd w v xs) (hb : Sha.Byte xs) : Lib.HoldsBytes w v (u8l xs) := by
 obtain ⟨A, c, rfl, hc, hA⟩ := h
 refine ⟨A, c, by rw [u8l_len], fun e => ?_, fun a ha i x hx => ?_⟩
 ·rcases Nat.eq_zero_or_pos xs.length with h0 | h0
  ·rw [List.eq_nil_of_length_eq_zero h0]; rfl
  ·obtain ⟨b, o, h1, _⟩ := hA h0
   rw [e] at h1; cases h1
 ·have hi : i < xs.length := by have := (List.getElem?_eq_some_iff.1 hx).1; rwa [u8l_len] at this
  obtain ⟨b, o, h1, _, h3⟩ := hA (by omega)
  rw [ha] at h1
  obtain rfl := Option.some.inj h1
  rw [Addr.add_mid, h3 i hi]
  have hlt := hb i
  have e : x = UInt8.ofNat (xs.getD i 0) := by simp [u8l, List.getD, hi] at hx ⊢; exact hx.symm
  rw [e, UInt8.toNat_ofNat', Nat.mod_eq_of_lt hlt]
theorem rd_of_fresh {B : Nat} {w : World} {v : Value} {xs : List Nat} (h : Lib.FreshBytes B w v (u8l xs)) (hb : Sha.Byte xs) : Rd w v xs := by
 obtain ⟨g, cap, zs, rfl, hg, hc, _, hz, hr, he, hx, _⟩ := h
 rw [u8l_len] at hc he ⊢
 refine ⟨_, cap, rfl, hc, fun h0 => ⟨g, 0, rfl, block_lt_of_cell (hx 0 (by omega)), fun i hi => ?_⟩⟩
 rw [Nat.zero_add, hx i (by omega)]
 have e1 : (Lib.bytesOf (zs.take xs.length))[i]? = (u8l xs)[i]? := by rw [he]
 have hzi : i < zs.length := by omega
 have hlt := hb i
 have hr2 := hr (zs[i]) (List.getElem_mem _)
 simp [Lib.bytesOf, u8l, hi, hzi] at e1
 have e2 := congrArg UInt8.toNat e1
 rw [UInt8.toNat_ofNat', UInt8.toNat_ofNat'] at e2
 simp [List.getD, hi, hzi] at hlt ⊢
 omega
theorem join_nil (ls : List (List UInt8)) : Lib.join ls [] = ls.flatten := by
 unfold Lib.join
 induction ls with
 | nil => rfl
 | cons x r ih =>
  cases r with
  | nil => simp [List.intercalate]
  | cons y r => rw [List.flatten_cons, ← ih]; simp [List.intercalate, List.intersperse]
theorem u8l_flat (ls : List (List Nat)) : (ls.map u8l).flatten = u8l ls.flatten := by
 show (ls.map (List.map UInt8.ofNat)).flatten = ls.flatten.map UInt8.ofNat
 rw [List.map_flatten]
theorem byte_flat {ls : List (List Nat)} (h : ∀ l ∈ ls, Sha.Byte l) : Sha.Byte ls.flatten := by
 have hb : Oc.bytes ls.flatten := fun x hx => by
  obtain ⟨l, hl, hx⟩ := List.mem_flatten.1 hx
  exact Oc.bytes_of (h l hl) x hx
 intro i
 rcases Nat.lt_or_ge i ls.flatten.length with hi | hi
 ·rw [List.getD, List.getElem?_eq_getElem hi]; exact hb _ (List.getElem_mem _)
 ·rw [List.getD, List.getElem?_eq_none hi]; decide
theorem lens_map (ls : List (List Nat)) : Lib.lens (ls.map u8l) = ls.flatten.length := by simp [Lib.lens, u8l, Function.comp_def]
theorem bjoin_any (b o n c : Nat) (vs : List Value) (ls : List (List Nat)) (w : World) (hv : ∀ i u, vs[i]? = some u → w.cell? ⟨b, o + i, none⟩ = some u) (hvl : vs.length = n) (hl : ls.length = n) (h1 : 1 ≤ n) (h0 : n = 1 → 0 < (ls.getD 0 []).length) (hc : n ≤ c)
  (hr : ∀ i u, vs[i]? = some u → Rd w u (ls.getD i [])) (hb : ∀ l ∈ ls, Sha.Byte l) (hn : n ≤ 1000) (hz : ls.flatten.length ≤ 1000000) :
  Calls Tryd.prog 69 #[.slice (some ⟨b, o, none⟩) n c, .slice none 0 0] w fun e w' => ∃ v', e = .returned v' ∧ Rd w' v' ls.flatten ∧ Below w.heap.size w w' := by
 rcases Nat.lt_or_ge n 2 with h2 | h2
 ·obtain rfl : n = 1 := by omega
  match vs, ls, hvl, hl with
  | [u], [l], _, _ =>
   have hu := hr 0 u rfl
   have hcell := hv 0 u rfl
   have hl0 : 0 < l.length := h0 rfl
   have hlz : l.length ≤ 1000000 := by simpa using hz
   have hh := holds_of_rd hu (hb l (by simp))
   obtain ⟨p, cap, rfl, _, hx⟩ := hh
   rw [u8l_len] at hcell
   have hp : ∃ a, p = some a := by
    obtain ⟨A, c2, e, _, hA⟩ := hu
    injection e with e _ _
    obtain ⟨b2, o2, e2, _⟩ := hA hl0
    exact ⟨_, e.trans e2⟩
   obtain ⟨a, rfl⟩ := hp
   refine (Tryd.bytes_Join_one b o c a cap (u8l l) (.slice none 0 0) w (by rw [u8l_len]; exact hcell) (hx a rfl) (by rw [u8l_len]; exact hl0) (by rw [u8l_len]; omega)).mono ?_
   rintro e w' ⟨v', he, hf, hbl⟩
   exact ⟨v', he, by rw [show [l].flatten = l by simp]; exact rd_of_fresh hf (hb l (by simp)), hbl⟩
 ·refine (Tryd.bytes_Join_many b o n c vs (ls.map u8l) (.slice none 0 0) [] w (by rw [List.length_map, hl]) h2 ⟨by rw [List.length_map, hvl, hl], fun i u hu => by rw [Addr.add_mid]; exact hv i u hu, fun i u l hu hli => ?_⟩ hc ⟨none, 0, rfl, fun _ => rfl, fun a ha => by cases ha⟩ (by omega) (by rw [lens_map, List.length_nil, Nat.zero_mul]; omega)).mono ?_
  ·have hi : i < ls.length := by have := (List.getElem?_eq_some_iff.1 hli).1; rwa [List.length_map] at this
   have e : l = u8l (ls.getD i []) := by simp [List.getD, hi] at hli ⊢; exact hli.symm
   rw [e]
   exact holds_of_rd (hr i u hu) (hb _ (by simp [List.getD, hi]))
  ·rintro e w' ⟨v', he, hf, hbl⟩
   rw [join_nil, u8l_flat] at hf
   exact ⟨v', he, rd_of_fresh hf (byte_flat hb), hbl⟩
namespace Hv
def padTo (n : Nat) (xs : List Nat) : List Nat := xs ++ List.replicate (32 * n - xs.length) 0
theorem padTo_len {n : Nat} {xs : List Nat} (h : xs.length ≤ 32 * n) : (padTo n xs).length = 32 * n := by simp [padTo]; omega
def sum8 (word xs : List Nat) : List Nat := (Sha.sum (word ++ xs)).take 8
theorem sum8_len (word xs : List Nat) : (sum8 word xs).length = 8 := by
 unfold sum8
 rw [List.length_take, Sha.sum, Sha.join_len]
 rfl
end Hv
theorem byte_append {xs ys : List Nat} (h1 : Sha.Byte xs) (h2 : Sha.Byte ys) : Sha.Byte (xs ++ ys) := h1.app h2
theorem padTo_byte {n : Nat} {xs : List Nat} (h : Sha.Byte xs) : Sha.Byte (Hv.padTo n xs) := h.app (Sha.Byte.zeros _)
theorem spliceB {n : Nat} {xs : List Nat} (_h : xs.length ≤ 32 * n) : splice (cellsB (List.replicate (32 * n) 0)) 0 (cellsB xs) = cellsB (Hv.padTo n xs) := by
 unfold splice Hv.padTo
 rw [cellsB_len, Nat.zero_add]
 simp [cellsB]
set_option maxRecDepth 100000 in
theorem filled_any (n : Nat) (b o m c : Nat) (vs : List Value) (ls : List (List Nat)) (w : World) (hv : ∀ i u, vs[i]? = some u → w.cell? ⟨b, o + i, none⟩ = some u) (hvl : vs.length = m) (hl : ls.length = m) (h2 : 2 ≤ m) (hc : m ≤ c)
    (hr : ∀ i u, vs[i]? = some u → Rd w u (ls.getD i [])) (hb : ∀ l ∈ ls, Sha.Byte l) (hm : m ≤ 1000) (hz : ls.flatten.length ≤ 32 * n) (hn : n ≤ 1000) (hbl : b < w.heap.size) :
    Calls Tryd.prog 54 #[.int .i64 (n : Int), .slice (some ⟨b, o, none⟩) m c] w fun e w' => ∃ g, e = .returned (.slice (some ⟨g, 0, none⟩) (32 * n) (32 * n)) ∧ Blk w' g 5 (u8s (Hv.padTo n ls.flatten)) ∧ w.heap.size ≤ g ∧ Below w.heap.size w w' := by
  have hbz : Below w.heap.size w (w.alloc (.cells (u8s (List.replicate (32 * n) 0)) 5)) := (Below.refl _ _).alloc (Nat.le_refl _) _
  have CJ := bjoin_any b o m c vs ls (w.alloc (.cells (u8s (List.replicate (32 * n) 0)) 5)) (fun i u hu => (hbz.cell (p := ⟨b, o + i, none⟩) hbl).trans (hv i u hu)) hvl hl (by omega) (by omega) hc (fun i u hu => (hr i u hu).below hbz (Nat.le_refl _)) hb hm (by omega)
  have hmk : (Instr.makeSlice 39 (.int .i64 ((n : Int) * 32)) (.int .i64 ((n : Int) * 32))).run Tryd.prog w = .ok (.slice (some ⟨w.heap.size, 0, none⟩) (32 * n) (32 * n)) (w.alloc (.cells (u8s (List.replicate (32 * n) 0)) 5)) := by
    have h := run_makeOne (P := Tryd.prog) Tryd.underlying39 byte_info rfl (32 * n) (by omega) (by omega) (x := (n : Int) * 32) (by omega) w
    rw [h]
    simp [u8s]
  have HW := Lib.hid hbz
  have HK : Hid (Blk (w.alloc (.cells (u8s (List.replicate (32 * n) 0)) 5)) w.heap.size 5 (u8s (List.replicate (32 * n) 0))) := Lib.hid (Blk.new w _ _)
  have HZ := Lib.hid hz
  obtain ⟨xs, hxs⟩ : ∃ xs, xs = ls.flatten := ⟨_, rfl⟩
  rw [← hxs] at CJ HZ hz ⊢
  obtain ⟨xl, hxl⟩ : ∃ xl, xl = xs.length := ⟨_, rfl⟩
  have HXL := Lib.hid hxl
  have HN : Hid (0 < n ∨ xs = []) := Lib.hid (by rcases Nat.eq_zero_or_pos n with h | h; right; exact List.eq_nil_of_length_eq_zero (by omega); left; exact h)
  clear hv hr hb hbz hxs hz hxl
  go_enter Tryd.func54, Tryd.ntmps54
  go_wp2_with (first
    | (go_at_call 69; refine CJ.mono ?_; rintro e w1 ⟨v1, rfl, hr1, hb1⟩; obtain ⟨A1, c1, rfl, hA1⟩ : ∃ A1 c1, v1 = .slice A1 xl c1 ∧ (0 < (cellsB xs).length → ∃ ad, A1 = some ad ∧ ∀ j u, (cellsB xs)[j]? = some u → w1.cell? (ad.add j) = some u) := (by
         obtain ⟨A, c2, e, _, hA⟩ := hr1
         refine ⟨A, c2, by rw [e, HXL.out], fun h0 => ?_⟩
         rw [cellsB_len] at h0
         obtain ⟨b2, o2, e2, _, hx⟩ := hA h0
         refine ⟨_, e2, fun j u hj => ?_⟩
         have hjl : j < xs.length := by have := (List.getElem?_eq_some_iff.1 hj).1; rwa [cellsB_len] at this
         rw [cellsB_get hjl] at hj
         rw [Addr.add_mid, hx j hjl, hj])
       have HA1 := Lib.hid hA1; have HB1 := Lib.hid hb1; have HK1 : Hid (Blk w1 w.heap.size 5 (cellsB (List.replicate (32 * n) 0)).toArray) := Lib.hid (HK.out.below hb1 HK.out.lt); clear hr1 hb1 hA1)
    | (refine wpList_copy_splice rfl (.tmp 9) (.tmp 11) 39 39 rfl 5 Tryd.underlying39 (by kernel_rfl) (some ⟨w.heap.size, 0, none⟩) A1 (32 * n) (32 * n) xl c1 rfl rfl w.heap.size 0 (cellsB (List.replicate (32 * n) 0)) 5 HK1.out (cellsB xs) (by rw [cellsB_len, HXL.out]; exact (Nat.min_eq_left HZ.out).symm) (fun h0 => ⟨rfl, HA1.out h0⟩) (by rw [cellsB_len, cellsB_len, List.length_replicate]; have := HZ.out; omega) (cellsB_one xs) w.heap.size w (below_then HW.out HB1.out) (Nat.le_refl _) ?_
       intro w3 hg3 hb3
       rw [spliceB HZ.out] at hg3
       have HB3 := Lib.hid hb3; clear hb3))
  go_ret
  exact ⟨w.heap.size, rfl, hg3.out, Nat.le_refl _, HB3.out⟩
theorem text_conv (s : ByteArray) (ws : List Nat) (hs : ws = s.data.toList.map (·.toNat)) (w : World) : ∃ c w2, (convert 9 39 (.string s)).run Tryd.prog w = .ok (.slice (some ⟨w.heap.size, 0, none⟩) ws.length c) w2 ∧ Rd w2 (.slice (some ⟨w.heap.size, 0, none⟩) ws.length c) ws ∧ Below w.heap.size w w2 := by
 have hlen : ws.length = s.size := by rw [hs, List.length_map]; rfl
 have hc := Lib.run_convert_string_bytes (P := Tryd.prog) w 9 39 5 s Tryd.underlying9 Tryd.underlying39 Tryd.underlying5
 refine ⟨_, _, by rw [hlen]; exact hc, ⟨_, _, rfl, by rw [hlen]; exact grownCap_ge w s.size 0 5, fun h0 => ⟨w.heap.size, 0, rfl, by rw [Lib.bytesWorld_size]; omega, fun i hi => ?_⟩⟩, below_bytesWorld w _ _⟩
 rw [Nat.zero_add, Lib.bytesWorld_cell w _ _ i (by omega)]
 have hi2 : i < s.data.toList.length := by have : s.data.toList.length = s.size := rfl; omega
 rw [hs]
 simp only [List.getD, List.getElem?_map, List.getElem?_eq_getElem hi2, Option.map_some, Option.getD_some]
theorem parts_cell (w : World) (vs : List Value) (t : TypeId) : ∀ i u, vs[i]? = some u → (w.alloc (.cells vs.toArray t)).cell? ⟨w.heap.size, 0 + i, none⟩ = some u := fun i u hu => by
 rw [Nat.zero_add]
 exact ((Blk.new w t vs.toArray).cell i).trans (by simpa using hu)
theorem parts_rdL (w : World) (vs : List Value) (t : TypeId) : RdL (w.alloc (.cells vs.toArray t)) (.slice (some ⟨w.heap.size, 0, none⟩) vs.length vs.length) vs :=
 ⟨_, _, rfl, Nat.le_refl _, fun _ => ⟨w.heap.size, 0, rfl, (Blk.new w t vs.toArray).lt, parts_cell w vs t⟩⟩
theorem oid_size2 : (Tryd.prog.info? 116).map (·.size) = some 32 := by kernel_rfl
theorem sum_len (xs : List Nat) : (Sha.sum xs).length = 32 := by rw [Sha.sum, Sha.join_len]
theorem sum_byte (xs : List Nat) : Sha.Byte (Sha.sum xs) := Sha.join_byte _
set_option maxRecDepth 100000 in
theorem hsum_any (s : ByteArray) (ws : List Nat) (hs : ws = s.data.toList.map (·.toNat)) (b o n c : Nat) (vs : List Value) (ls : List (List Nat)) (w : World) (hv : ∀ i u, vs[i]? = some u → w.cell? ⟨b, o + i, none⟩ = some u) (hvl : vs.length = n) (hl : ls.length = n) (h1 : 1 ≤ n) (h0 : n = 1 → 0 < (ls.getD 0 []).length) (hc : n ≤ c)
  (hr : ∀ i u, vs[i]? = some u → Rd w u (ls.getD i [])) (hb : ∀ l ∈ ls, Sha.Byte l) (hn : n ≤ 1000) (hz : ls.flatten.length ≤ 1000000) (hbl : b < w.heap.size) (ht : Tabs w) (hwl : ws.length ≤ 1000) (hwb : Sha.Byte ws) :
  Calls Tryd.prog 55 #[.string s, .slice (some ⟨b, o, none⟩) n c] w fun e w' => ∃ g, e = .returned (.slice (some ⟨g, 0, none⟩) 8 32) ∧ Rd w' (.slice (some ⟨g, 0, none⟩) 8 32) (Hv.sum8 ws ls.flatten) ∧ Below w.heap.size w w' := by
 obtain ⟨c2, w2, hcv, hr2, hb2⟩ := text_conv s ws hs w
 have CJ := bjoin_any b o n c vs ls w2 (fun i u hu => (hb2.cell (p := ⟨b, o + i, none⟩) hbl).trans (hv i u hu)) hvl hl h1 h0 hc (fun i u hu => (hr i u hu).below hb2 (Nat.le_refl _)) hb hn hz
 have HB2 := Lib.hid hb2
 have HT := Lib.hid ht
 obtain ⟨xs, hxs⟩ : ∃ xs, xs = ls.flatten := ⟨_, rfl⟩
 have HXB : Hid (Sha.Byte xs) := Lib.hid (by rw [hxs]; exact byte_flat hb)
 have HXZ : Hid (xs.length ≤ 1000000) := Lib.hid (by rw [hxs]; exact hz)
 rw [← hxs] at CJ ⊢
 have HWL := Lib.hid hwl
 have HWB := Lib.hid hwb
 obtain ⟨wl, hwl2⟩ : ∃ wl, wl = ws.length := ⟨_, rfl⟩
 rw [← hwl2] at hcv
 have HWE := Lib.hid hwl2
 have HR2 : Hid (Rd w2 (.slice (some ⟨w.heap.size, 0, none⟩) wl c2) ws) := Lib.hid (by rw [hwl2]; exact hr2)
 obtain ⟨os, hos⟩ : ∃ os, os = Sha.sum (ws ++ xs) := ⟨_, rfl⟩
 have HOL : Hid (os.length = 32) := Lib.hid (by rw [hos]; exact sum_len _)
 have HOS := Lib.hid hos
 clear hv hr hb hb2 hr2 ht hxs hz hwl hwb hwl2 hos
 go_enter Tryd.func55, Tryd.ntmps55
 go_wp2_with fail
 go_at_call 69
 refine CJ.mono ?_
 rintro e w3 ⟨v3, rfl, hr3, hb3⟩
 obtain ⟨xl, hxl⟩ : ∃ xl, xl = xs.length := ⟨_, rfl⟩
 obtain ⟨A3, c3, rfl⟩ : ∃ A3 c3, v3 = .slice A3 xl c3 := (by obtain ⟨A, c, e, _⟩ := hr3; exact ⟨A, c, by rw [hxl]; exact e⟩)
 have HR3 := Lib.hid hr3; have HB3 := Lib.hid hb3
 have HBP : Hid (Below w.heap.size w (w3.alloc (.cells [Value.slice (some ⟨w.heap.size, 0, none⟩) wl c2, .slice A3 xl c3].toArray 39))) := Lib.hid (below_then (below_then HB2.out hb3) ((Below.refl _ _).alloc (Nat.le_refl _) _))
 have CS := sum_any (.slice (some ⟨w3.heap.size, 0, none⟩) 2 2) [.slice (some ⟨w.heap.size, 0, none⟩) wl c2, .slice A3 xl c3] [ws, xs] (w3.alloc (.cells [Value.slice (some ⟨w.heap.size, 0, none⟩) wl c2, .slice A3 xl c3].toArray 39)) (parts_rdL w3 _ _) rfl (fun i u hu => by
  have hb4 : Below w3.heap.size w3 (w3.alloc (.cells [Value.slice (some ⟨w.heap.size, 0, none⟩) wl c2, .slice A3 xl c3].toArray 39)) := (Below.refl _ _).alloc (Nat.le_refl _) _
  rcases i with _ | _ | i
  ·obtain rfl := Option.some.inj hu
   exact (HR2.out.below HB3.out (Nat.le_refl _)).below hb4 (Nat.le_refl _)
  ·obtain rfl := Option.some.inj hu
   exact HR3.out.below hb4 (Nat.le_refl _)
  ·simp at hu) (fun ps hps => by
   rcases List.mem_cons.1 hps with rfl | hps
   ·exact HWB.out
   ·rw [List.mem_singleton.1 hps]; exact HXB.out) (HT.out.below HBP.out (Nat.le_refl _)) (by show (2 : Nat) < 1048576; omega) (fun ps hps => by
   have h1 := HWL.out
   have h2 := HXZ.out
   rcases List.mem_cons.1 hps with rfl | hps
   ·omega
   ·rw [List.mem_singleton.1 hps]; omega)
 rw [show [ws, xs].flatten = ws ++ xs by simp, ← HOS.out] at CS
 clear hr3 hb3 hxl
 go_wp2_with fail
 go_at_call 70
 refine CS.mono ?_
 rintro e w4 ⟨rfl, hb4⟩
 have HB4 := Lib.hid (below_then HBP.out hb4)
 have HK4 : Hid (Blk (w4.alloc (.cells (u8s (List.replicate 32 0)) 116)) w4.heap.size 116 (u8s (List.replicate 32 0))) := Lib.hid (Blk.new w4 _ _)
 clear hb4 CS
 go_wp2_with (refine wpList_store_row rfl 116 (.tmp 5) (.tmp 11) rfl w4.heap.size (u8s os) rfl rfl 116 _ HK4.out (by rw [u8s_size, HOL.out]; exact oid_size2) (by rw [u8s_size, u8s_size, HOL.out]; rfl) (u8s_one _) ?_)
 go_ret
 have HK5 := HK4.out.row (u8s os)
 refine ⟨w4.heap.size, rfl, ⟨_, _, by rw [Hv.sum8_len], by rw [Hv.sum8_len]; omega, fun _ => ⟨w4.heap.size, 0, rfl, HK5.lt, fun i hi => ?_⟩⟩, below_then HB4.out (below_row ((Below.refl _ _).alloc (Nat.le_refl _) _) (Nat.le_refl _) _)⟩
 rw [Hv.sum8_len] at hi
 rw [Nat.zero_add]
 refine Eq.trans (HK5.cell i) ?_
 rw [u8s_get _ _ (by rw [HOL.out]; omega)]
 unfold Hv.sum8
 rw [← HOS.out]
 congr 3
 simp only [List.getD, List.getElem?_take, if_pos hi]
end Go.Proofs.YtdokojlgcplefaaDoor
