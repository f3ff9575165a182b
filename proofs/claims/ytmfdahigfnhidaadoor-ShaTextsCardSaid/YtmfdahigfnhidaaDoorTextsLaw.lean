/- The walk of the law ShaTexts. -/
import Derived.Test.YtmfdahigfnhidaaDoorTexts3
import Derived.Test.YtmfdahigfnhidaaDoorHeld
import Derived.Test.YtmfdahigfnhidaaDoorShaAlive
namespace Go.Proofs.YtmfdahigfnhidaaDoor.lawTexts
open Go Go.RowKit
theorem unx_case {s : ByteArray} {a : Addr} {w : World} {e : Ending} {w' : World} (h : UnxPost s a w e w') :
    ∃ l v, e = .returned (.tuple #[.agg (u8s l), v]) ∧ Below w.heap.size w w' ∧ ((Sha.good (sb s) ∧ l = Sha.unhex (sb s) ∧ v = .nilIface) ∨ (¬ Sha.good (sb s) ∧ l = List.replicate 32 0 ∧ v = ev a)) := by
  obtain ⟨h1, h2, hb⟩ := h
  by_cases hg : Sha.good (sb s)
  · exact ⟨_, _, h1 hg, hb, Or.inl ⟨hg, rfl, rfl⟩⟩
  · exact ⟨_, _, h2 hg, hb, Or.inr ⟨hg, rfl, rfl⟩⟩
/-- what both programs tell of a text: a digest and whether there is one -/
def tells (s : ByteArray) (l : List Nat) (ok : Bool) : Prop := l.length = 32 ∧ Sha.Byte l ∧ ((s.size = 64 ∧ Sha.good (sb s) ∧ l = Sha.unhex (sb s) ∧ ok = true) ∨ (¬ (s.size = 64 ∧ Sha.good (sb s)) ∧ l = List.replicate 32 0 ∧ ok = false))
theorem unhex_byte (l : List Nat) : Sha.Byte (Sha.unhex l) := fun i => by
  rcases Nat.lt_or_ge i 32 with h | h
  · rw [Sha.unhex_get l i h]
    have h1 := Sha.fgN_lt (l.getD (2 * i) 0)
    have h2 := Sha.fgN_lt (l.getD (2 * i + 1) 0)
    omega
  · have e : (Sha.unhex l)[i]? = none := List.getElem?_eq_none (by rw [Sha.unhex_len]; omega)
    simp [List.getD, e]
theorem zeros_byte : Sha.Byte (List.replicate 32 0) := Sha.Byte.zeros 32
theorem tells_good {s : ByteArray} (h1 : s.size = 64) (h2 : Sha.good (sb s)) : tells s (Sha.unhex (sb s)) true := ⟨Sha.unhex_len _, unhex_byte _, Or.inl ⟨h1, h2, rfl, rfl⟩⟩
theorem tells_bad {s : ByteArray} (h : ¬ (s.size = 64 ∧ Sha.good (sb s))) : tells s (List.replicate 32 0) false := ⟨by simp, zeros_byte, Or.inr ⟨h, rfl, rfl⟩⟩
theorem tells_one {s : ByteArray} {l l' : List Nat} {o o' : Bool} (h : tells s l o) (h' : tells s l' o') : l = l' ∧ o = o' := by
  obtain ⟨_, _, ⟨h1, h2, rfl, rfl⟩ | ⟨h1, rfl, rfl⟩⟩ := h <;> obtain ⟨_, _, ⟨k1, k2, rfl, rfl⟩ | ⟨k1, rfl, rfl⟩⟩ := h'
  · exact ⟨rfl, rfl⟩
  · exact absurd ⟨h1, h2⟩ k1
  · exact absurd ⟨k1, k2⟩ h1
  · exact ⟨rfl, rfl⟩
def errOf (ok : Bool) (a : Addr) : Value := if ok then .nilIface else ev a
/-- sha.Unhex of any text -/
theorem unhex_all (s : ByteArray) (w : World) (hm : s.size ≤ 9223372036854775807) (a : Addr) (ha : w.cell? ⟨1, 0, none⟩ = some (ev a)) :
    Calls Tryd.prog 17 #[.string s] w fun e w' => (∃ l ok, tells s l ok ∧ e = .returned (.tuple #[.agg (u8s l), errOf ok a])) ∧ Below w.heap.size w w' := by
  by_cases hl : s.size = 64
  · refine (unhex_any s w hl a ha).mono fun e w' h => ?_
    obtain ⟨h1, h2, hb⟩ := h
    by_cases hg : Sha.good (sb s)
    · exact ⟨⟨_, true, tells_good hl hg, h1 hg⟩, hb⟩
    · exact ⟨⟨_, false, tells_bad (fun h => hg h.2), h2 hg⟩, hb⟩
  · refine (unhex_long s w hl hm a ha).mono fun e w' h => ?_
    exact ⟨⟨_, false, tells_bad (fun h => hl h.1), h.1⟩, h.2⟩
/-- the reference's Unhex of any text -/
theorem runhex_all (s : ByteArray) (w : World) (hm : s.size ≤ 9223372036854775807) :
    Calls Tryd.prog 19 #[.string s] w fun e w' => (∃ l ok, tells s l ok ∧ e = .returned (.tuple #[.agg (u8s l), .bool ok])) ∧ Below w.heap.size w w' := by
  by_cases hl : s.size = 64
  · refine (runhex_any s w hl).mono fun e w' h => ?_
    obtain ⟨h1, h2, hb⟩ := h
    by_cases hg : Sha.good (sb s)
    · exact ⟨⟨_, true, tells_good hl hg, h1 hg⟩, hb⟩
    · exact ⟨⟨_, false, tells_bad (fun h => hg h.2), h2 hg⟩, hb⟩
  · refine (runhex_long s w hl hm).mono fun e w' h => ?_
    exact ⟨⟨_, false, tells_bad (fun h => hl h.1), h.1⟩, h.2⟩
theorem tells_hex {xs : List Nat} (h : xs.length = 32) (hb : Sha.Byte xs) : tells (textOf (Sha.hex xs)) xs true := by
  have e : sb (textOf (Sha.hex xs)) = Sha.hex xs := by
    unfold sb textOf
    simp only [List.map_map]
    have hh : ∀ x ∈ Sha.hex xs, (UInt8.toNat ∘ UInt8.ofNat) x = x := fun x hx => by
      obtain ⟨i, hi, rfl⟩ := List.mem_iff_getElem.1 hx
      have : (Sha.hex xs)[i] < 256 := by
        have h1 : ∀ n, n < 16 → Sha.fig n < 256 := by intro n hn; unfold Sha.fig; split <;> omega
        simp only [Sha.hex, List.getElem_map, List.getElem_range]
        have h2 := hb (i / 2)
        split <;> exact h1 _ (by omega)
      simp [Nat.mod_eq_of_lt this]
    rw [List.map_congr_left hh]; simp
  refine ⟨h, hb, Or.inl ⟨?_, ?_, ?_, rfl⟩⟩
  · rw [textOf_size, Sha.hex_len, h]
  · rw [e]; exact Sha.good_hex h hb
  · rw [e, Sha.unhex_hex h hb]
theorem oid_sz : ∀ w, (sizeOf 5).run Tryd.prog w = .ok 1 w := fun w => by simp [Tryd.sizeOf5]
set_option maxRecDepth 100000 in
set_option maxHeartbeats 2000000 in
theorem law_any (xs ys : List Nat) (s : ByteArray) (w : World) (hx : xs.length = 32) (hy : ys.length = 32) (hb : Sha.Byte xs) (hb' : Sha.Byte ys) (ht : Tabs w) (a : Nat → Addr) (hs : Sents w a) (hz : s.size ≤ 200) :
    Calls Tryd.prog 5 #[.agg (u8s xs), .agg (u8s ys), .string s] w fun e w' => e = .returned (.bool true) ∧ Below w.heap.size w w' := by
  have hx0 : Blk ((w.alloc (.cells (u8s xs) 27)).alloc (.cells (u8s ys) 27)) w.heap.size 27 (u8s xs) := (Blk.new w _ _).alloc _
  have hy0 : Blk ((w.alloc (.cells (u8s xs) 27)).alloc (.cells (u8s ys) 27)) (w.heap.size + 1) 27 (u8s ys) := by
    have h := Blk.new (w.alloc (.cells (u8s xs) 27)) 27 (u8s ys)
    have e : (w.alloc (.cells (u8s xs) 27)).heap.size = w.heap.size + 1 := by simp
    rw [e] at h
    exact h
  have hb0 : Below w.heap.size w ((w.alloc (.cells (u8s xs) 27)).alloc (.cells (u8s ys) 27)) := by
    refine (((Below.refl _ _).alloc (Nat.le_refl _) _).alloc ?_ _); simp
  have HX0 := Lib.hid hx0
  have HY0 := Lib.hid hy0
  have HB0 := Lib.hid hb0
  have HLX := Lib.hid (show (u8s xs).size = 32 by rw [u8s_size, hx])
  have HLY := Lib.hid (show (u8s ys).size = 32 by rw [u8s_size, hy])
  have HHX := Lib.hid hx
  have HHY := Lib.hid hy
  have HS := Lib.hid hs
  clear hx0 hy0 hb0 hx hy hs
  go_enter Tryd.func5, Tryd.ntmps5
  go_wp2_with fail
  generalize ((w.alloc (.cells (u8s xs) 27)).alloc (.cells (u8s ys) 27)) = w0 at HX0 HY0 HB0 ⊢
  refine (alive_any w0 (ht.below HB0.out (Nat.le_refl _))).mono ?_
  rintro e w1 ⟨rfl, hb1⟩
  have HX1 := Lib.hid (HX0.out.below hb1 HX0.out.lt)
  have HY1 := Lib.hid (HY0.out.below hb1 HY0.out.lt)
  have HB1 := Lib.hid (HB0.out.trans (hb1.mono HB0.out.size))
  clear hb1
  go_wp2_with (first | (refine wpList_load_row rfl 27 (.tmp 3) rfl (w.heap.size) rfl 27 _ (0,0) _ HX1.out Tryd.underlying27 rfl (by rw [HLX.out]; exact oid_info) ?_))
  refine (hex_any xs w1 HHX.out hb).mono ?_
  rintro e w2 ⟨rfl, hb2⟩
  have HX2 := Lib.hid (HX1.out.below hb2 HX1.out.lt)
  have HY2 := Lib.hid (HY1.out.below hb2 HY1.out.lt)
  have HB2 := Lib.hid (HB1.out.trans (hb2.mono HB1.out.size))
  clear hb2
  go_wp2_with fail
  have hcf : w2.cell? ⟨1, 0, none⟩ = some (ev (a 3)) := (HS.out.below HB2.out (Nat.le_refl _) 3 (by omega)).var
  have HSZ := Lib.hid (show (textOf (Sha.hex xs)).size ≤ 9223372036854775807 by rw [textOf_size, Sha.hex_len, HHX.out]; omega)
  have HCF := Lib.hid hcf
  clear hcf
  refine (unhex_all _ w2 HSZ.out (a 3) HCF.out).mono ?_
  rintro e w3 ⟨⟨l1, ok1, ht1, rfl⟩, hb3⟩
  obtain ⟨rfl, rfl⟩ := tells_one (tells_hex HHX.out hb) ht1
  have HX3 := Lib.hid (HX2.out.below hb3 HX2.out.lt)
  have HY3 := Lib.hid (HY2.out.below hb3 HY2.out.lt)
  have HB3 := Lib.hid (HB2.out.trans (hb3.mono HB2.out.size))
  clear hb3 ht1 HX0 HY0 HB0 HX1 HY1 HB1 HX2 HY2 HB2 HCF
  have HN3 : Hid (Blk (w3.alloc (.cells (u8s (List.replicate 32 0)) 27)) w3.heap.size 27 (u8s (List.replicate 32 0))) := Lib.hid (Blk.new w3 _ _)
  rw [show errOf true (a 3) = .nilIface from rfl]
  have HSS := Lib.hid hz
  go_wp2_with (first | (refine wpList_store_row rfl 27 (.tmp 7) (.tmp 25) rfl w3.heap.size _ rfl rfl 27 _ HN3.out (by rw [HLX.out]; exact oid_info) (by rw [HLX.out, u8s_size]; rfl) (u8s_one _) ?_))
  have HX4 : Hid (Blk ((w3.alloc (.cells (u8s (List.replicate 32 0)) 27)).setRow w3.heap.size (u8s xs)) w.heap.size 27 (u8s xs)) := Lib.hid ((HX3.out.alloc _).farRow (by have := HX3.out.lt; omega) _)
  have HY4 : Hid (Blk ((w3.alloc (.cells (u8s (List.replicate 32 0)) 27)).setRow w3.heap.size (u8s xs)) (w.heap.size + 1) 27 (u8s ys)) := Lib.hid ((HY3.out.alloc _).farRow (by have := HY3.out.lt; omega) _)
  have HK4 : Hid (Blk ((w3.alloc (.cells (u8s (List.replicate 32 0)) 27)).setRow w3.heap.size (u8s xs)) w3.heap.size 27 (u8s xs)) := Lib.hid (HN3.out.row _)
  have HB4 : Hid (Below w.heap.size w ((w3.alloc (.cells (u8s (List.replicate 32 0)) 27)).setRow w3.heap.size (u8s xs))) := Lib.hid (below_row (HB3.out.alloc HB3.out.size _) HB3.out.size _)
  have HP4 := Lib.hid (show w.heap.size + 1 < w3.heap.size from HY3.out.lt)
  clear HX3 HY3 HB3 HN3
  change Calls _ _ _ ((w3.alloc (.cells (u8s (List.replicate 32 0)) 27)).setRow w3.heap.size (u8s xs)) _
  generalize ((w3.alloc (.cells (u8s (List.replicate 32 0)) 27)).setRow w3.heap.size (u8s xs)) = w4 at HX4 HY4 HK4 HB4 ⊢
  generalize w3.heap.size = p1 at HK4 HP4 ⊢
  refine (unhex_all s w4 (by omega) (a 3) (HS.out.below HB4.out (Nat.le_refl _) 3 (by omega)).var).mono ?_
  rintro e w5 ⟨⟨l, ok, hto, rfl⟩, hb5⟩
  have HTO := Lib.hid hto
  have HX5 := Lib.hid (HX4.out.below hb5 HX4.out.lt)
  have HY5 := Lib.hid (HY4.out.below hb5 HY4.out.lt)
  have HK5 := Lib.hid (HK4.out.below hb5 HK4.out.lt)
  have HB5 := Lib.hid (HB4.out.trans (hb5.mono HB4.out.size))
  have HLL := Lib.hid (show (u8s l).size = 32 by rw [u8s_size, hto.1])
  clear hto hb5 HX4 HY4 HK4 HB4
  have HN5 : Hid (Blk (w5.alloc (.cells (u8s (List.replicate 32 0)) 27)) w5.heap.size 27 (u8s (List.replicate 32 0))) := Lib.hid (Blk.new w5 _ _)
  obtain ⟨err2, herr⟩ : ∃ v, v = errOf ok (a 3) := ⟨_, rfl⟩
  rw [← herr]
  have HERR := Lib.hid herr
  clear herr
  go_wp2_with (first | (refine wpList_store_row rfl 27 (.tmp 9) (.tmp 30) rfl w5.heap.size _ rfl rfl 27 _ HN5.out (by rw [HLL.out]; exact oid_info) (by rw [HLL.out, u8s_size]; rfl) (u8s_one _) ?_))
  have HX6 : Hid (Blk ((w5.alloc (.cells (u8s (List.replicate 32 0)) 27)).setRow w5.heap.size (u8s l)) w.heap.size 27 (u8s xs)) := Lib.hid ((HX5.out.alloc _).farRow (by have := HX5.out.lt; omega) _)
  have HY6 : Hid (Blk ((w5.alloc (.cells (u8s (List.replicate 32 0)) 27)).setRow w5.heap.size (u8s l)) (w.heap.size + 1) 27 (u8s ys)) := Lib.hid ((HY5.out.alloc _).farRow (by have := HY5.out.lt; omega) _)
  have HK6 : Hid (Blk ((w5.alloc (.cells (u8s (List.replicate 32 0)) 27)).setRow w5.heap.size (u8s l)) p1 27 (u8s xs)) := Lib.hid ((HK5.out.alloc _).farRow (by have := HK5.out.lt; omega) _)
  have HL6 : Hid (Blk ((w5.alloc (.cells (u8s (List.replicate 32 0)) 27)).setRow w5.heap.size (u8s l)) w5.heap.size 27 (u8s l)) := Lib.hid (HN5.out.row _)
  have HB6 : Hid (Below w.heap.size w ((w5.alloc (.cells (u8s (List.replicate 32 0)) 27)).setRow w5.heap.size (u8s l))) := Lib.hid (below_row (HB5.out.alloc HB5.out.size _) HB5.out.size _)
  clear HX5 HY5 HK5 HB5 HN5
  change Calls _ _ _ ((w5.alloc (.cells (u8s (List.replicate 32 0)) 27)).setRow w5.heap.size (u8s l)) _
  generalize ((w5.alloc (.cells (u8s (List.replicate 32 0)) 27)).setRow w5.heap.size (u8s l)) = w6 at HX6 HY6 HK6 HL6 HB6 ⊢
  generalize w5.heap.size = p2 at HL6 ⊢
  refine (runhex_all s w6 (by omega)).mono ?_
  rintro e w7 ⟨⟨l', ok', hto', rfl⟩, hb7⟩
  obtain ⟨rfl, rfl⟩ := tells_one HTO.out hto'
  have HX7 := Lib.hid (HX6.out.below hb7 HX6.out.lt)
  have HY7 := Lib.hid (HY6.out.below hb7 HY6.out.lt)
  have HK7 := Lib.hid (HK6.out.below hb7 HK6.out.lt)
  have HL7 := Lib.hid (HL6.out.below hb7 HL6.out.lt)
  have HB7 := Lib.hid (HB6.out.trans (hb7.mono HB6.out.size))
  clear hto' hb7 HX6 HY6 HK6 HL6 HB6
  have HN7 : Hid (Blk (w7.alloc (.cells (u8s (List.replicate 32 0)) 26)) w7.heap.size 26 (u8s (List.replicate 32 0))) := Lib.hid (Blk.new w7 _ _)
  have HX9 : Hid (Blk ((w7.alloc (.cells (u8s (List.replicate 32 0)) 26)).setRow w7.heap.size (u8s l)).drew w.heap.size 27 (u8s xs)) := Lib.hid ((HX7.out.alloc _).farRow (by have := HX7.out.lt; omega) _).drew
  have HY9 : Hid (Blk ((w7.alloc (.cells (u8s (List.replicate 32 0)) 26)).setRow w7.heap.size (u8s l)).drew (w.heap.size + 1) 27 (u8s ys)) := Lib.hid ((HY7.out.alloc _).farRow (by have := HY7.out.lt; omega) _).drew
  have HK9 : Hid (Blk ((w7.alloc (.cells (u8s (List.replicate 32 0)) 26)).setRow w7.heap.size (u8s l)).drew p1 27 (u8s xs)) := Lib.hid ((HK7.out.alloc _).farRow (by have := HK7.out.lt; omega) _).drew
  have HL9 : Hid (Blk ((w7.alloc (.cells (u8s (List.replicate 32 0)) 26)).setRow w7.heap.size (u8s l)).drew p2 27 (u8s l)) := Lib.hid ((HL7.out.alloc _).farRow (by have := HL7.out.lt; omega) _).drew
  have HM9 : Hid (Blk ((w7.alloc (.cells (u8s (List.replicate 32 0)) 26)).setRow w7.heap.size (u8s l)).drew w7.heap.size 26 (u8s l)) := Lib.hid (HN7.out.row _).drew
  have HB9 : Hid (Below w.heap.size w ((w7.alloc (.cells (u8s (List.replicate 32 0)) 26)).setRow w7.heap.size (u8s l)).drew) := Lib.hid (below_drewN (below_row (HB7.out.alloc HB7.out.size _) HB7.out.size _) 1)
  go_wp2_with (first | (refine wpList_store_row rfl 26 (.tmp 11) (.tmp 35) rfl w7.heap.size _ rfl rfl 26 _ HN7.out (by rw [HLL.out]; exact a32_info) (by rw [HLL.out, u8s_size]; rfl) (u8s_one _) ?_))
  clear HX7 HY7 HK7 HL7 HB7 HN7
  have heq : ∀ w', (Op.equalIn 10000 27 (.agg (u8s xs)) (.agg (u8s xs))).run Tryd.prog w' = .ok true w' := fun w' => by
    rw [run_equalIn_u8s w' 27 5 32 Tryd.underlying27 Tryd.underlying5 oid_sz xs xs HHX.out HHX.out hb hb, beq_self_eq_true]
  have heq2 : ∀ w', (Op.equalIn 10000 26 (.agg (u8s l)) (.agg (u8s l))).run Tryd.prog w' = .ok true w' := fun w' => by
    rw [run_equalIn_u8s w' 26 5 32 Tryd.underlying26 Tryd.underlying5 oid_sz l l HTO.out.1 HTO.out.1 HTO.out.2.1 HTO.out.2.1, beq_self_eq_true]
  change Code.wp _ _ _ _ ((w7.alloc (.cells (u8s (List.replicate 32 0)) 26)).setRow w7.heap.size (u8s l))
  obtain ⟨w8, hw8⟩ : ∃ w8, w8 = (w7.alloc (.cells (u8s (List.replicate 32 0)) 26)).setRow w7.heap.size (u8s l) := ⟨_, rfl⟩
  rw [← hw8] at HX9 HY9 HK9 HL9 HM9 HB9 ⊢
  clear hw8
  generalize w7.heap.size = p3 at HM9 ⊢
  obtain ⟨w9, hw9⟩ : ∃ w9, w9 = w8.drew := ⟨_, rfl⟩
  rw [← hw9] at HX9 HY9 HK9 HL9 HM9 HB9
  have HW9 := Lib.hid hw9
  clear hw9
  cases ok
  · obtain rfl : err2 = ev (a 3) := HERR.out
    clear HERR
    refine wp_region_held (S := (fun w' => Below w9.heap.size w9 w')) (by kernel_rfl) ?_
    rw [show ({ w8 with drawn := w8.drawn + 1 } : World) = w9 from HW9.out.symm]
    refine wpAnyH_take (i := 0) rfl (by kernel_rfl) (by kernel_rfl) (by kernel_rfl) (fun _ _ _ h => h) (takes_row 27 (.tmp 3) rfl (by rfl) (w.heap.size) rfl 27 (u8s xs) _ (fun w4 h => HX9.out.below h HX9.out.lt) Tryd.underlying27 rfl (by rw [HLX.out]; exact oid_info)) (Below.refl _ _) ?_
    try simp only [Act.put, List.getElem_toArray, List.getElem_cons_zero, List.getElem_cons_succ, List.setIfInBounds_toArray, List.set_cons_zero, List.set_cons_succ]
    refine wpAnyH_take (i := 2) rfl (by kernel_rfl) (by kernel_rfl) (by kernel_rfl) (fun _ _ _ h => h) (takes_row 27 (.tmp 3) rfl (by rfl) (w.heap.size) rfl 27 (u8s xs) _ (fun w4 h => HX9.out.below h HX9.out.lt) Tryd.underlying27 rfl (by rw [HLX.out]; exact oid_info)) (Below.refl _ _) ?_
    try simp only [Act.put, List.getElem_toArray, List.getElem_cons_zero, List.getElem_cons_succ, List.setIfInBounds_toArray, List.set_cons_zero, List.set_cons_succ]
    refine all_one (i := 1) (by kernel_rfl) rfl (by rfl) (fun K hK => ?_)
    go_simp
    refine (hex_any xs _ HHX.out hb).mono ?_
    rintro e wa ⟨rfl, hba⟩
    dsimp only
    refine hK _ _ (hba) ?_; clear hK K
    try simp only [Act.put, List.getElem_toArray, List.getElem_cons_zero, List.getElem_cons_succ, List.setIfInBounds_toArray, List.set_cons_zero, List.set_cons_succ]
    refine all_one (i := 3) (by kernel_rfl) rfl (by rfl) (fun K hK => ?_)
    go_simp
    refine (rhex_any xs _ HHX.out hb).mono ?_
    rintro e wb ⟨rfl, hbb⟩
    have hbb := hba.trans (hbb.mono hba.size)
    dsimp only
    refine hK _ _ (hbb) ?_; clear hK K
    try simp only [Act.put, List.getElem_toArray, List.getElem_cons_zero, List.getElem_cons_succ, List.setIfInBounds_toArray, List.set_cons_zero, List.set_cons_succ]
    have HBB := Lib.hid hbb
    clear hba hbb
    refine wpAnyH_take (i := 4) (v := ?_) rfl (by kernel_rfl) (by kernel_rfl) (by kernel_rfl) (fun _ _ _ h => h) (Or.inl ⟨by rfl, ?_⟩) (HBB.out) ?_
    rotate_left
    · intro w _; go_simp; with_reducible rfl
    try simp only [Act.put, List.getElem_toArray, List.getElem_cons_zero, List.getElem_cons_succ, List.setIfInBounds_toArray, List.set_cons_zero, List.set_cons_succ]
    refine wpAnyH_take (i := 5) (v := ?_) rfl (by kernel_rfl) (by kernel_rfl) (by kernel_rfl) (fun _ _ _ h => h) (Or.inl ⟨by rfl, ?_⟩) (HBB.out) ?_
    rotate_left
    · intro w _; go_simp; with_reducible rfl
    try simp only [Act.put, List.getElem_toArray, List.getElem_cons_zero, List.getElem_cons_succ, List.setIfInBounds_toArray, List.set_cons_zero, List.set_cons_succ]
    refine wpAnyH_take (i := 6) (v := ?_) rfl (by kernel_rfl) (by kernel_rfl) (by kernel_rfl) (fun _ _ _ h => h) (Or.inl ⟨by rfl, ?_⟩) (HBB.out) ?_
    rotate_left
    · intro w _; go_simp; with_reducible rfl
    try simp only [Act.put, List.getElem_toArray, List.getElem_cons_zero, List.getElem_cons_succ, List.setIfInBounds_toArray, List.set_cons_zero, List.set_cons_succ]
    refine wpAnyH_take (i := 7) (v := ?_) rfl (by kernel_rfl) (by kernel_rfl) (by kernel_rfl) (fun _ _ _ h => h) (Or.inl ⟨by rfl, ?_⟩) (HBB.out) ?_
    rotate_left
    · intro w _; go_simp; with_reducible rfl
    try simp only [Act.put, List.getElem_toArray, List.getElem_cons_zero, List.getElem_cons_succ, List.setIfInBounds_toArray, List.set_cons_zero, List.set_cons_succ]
    refine wpAnyH_take (i := 8) (v := ?_) rfl (by kernel_rfl) (by kernel_rfl) (by kernel_rfl) (fun _ _ _ h => h) (Or.inl ⟨by rfl, ?_⟩) (HBB.out) ?_
    rotate_left
    · intro w _; go_simp; with_reducible rfl
    try simp only [Act.put, List.getElem_toArray, List.getElem_cons_zero, List.getElem_cons_succ, List.setIfInBounds_toArray, List.set_cons_zero, List.set_cons_succ]
    refine wpAnyH_take (i := 9) (v := ?_) rfl (by kernel_rfl) (by kernel_rfl) (by kernel_rfl) (fun _ _ _ h => h) (Or.inl ⟨by rfl, ?_⟩) (HBB.out) ?_
    rotate_left
    · intro w _; go_simp; with_reducible rfl
    try simp only [Act.put, List.getElem_toArray, List.getElem_cons_zero, List.getElem_cons_succ, List.setIfInBounds_toArray, List.set_cons_zero, List.set_cons_succ]
    refine wpAnyH_take (i := 10) rfl (by kernel_rfl) (by kernel_rfl) (by kernel_rfl) (fun _ _ _ h => h) (takes_row 27 (.tmp 7) rfl (by rfl) (p1) rfl 27 (u8s xs) _ (fun w4 h => HK9.out.below h HK9.out.lt) Tryd.underlying27 rfl (by rw [HLX.out]; exact oid_info)) (HBB.out) ?_
    try simp only [Act.put, List.getElem_toArray, List.getElem_cons_zero, List.getElem_cons_succ, List.setIfInBounds_toArray, List.set_cons_zero, List.set_cons_succ]
    refine wpAnyH_take (i := 11) rfl (by kernel_rfl) (by kernel_rfl) (by kernel_rfl) (fun _ _ _ h => h) (takes_row 27 (.tmp 3) rfl (by rfl) (w.heap.size) rfl 27 (u8s xs) _ (fun w4 h => HX9.out.below h HX9.out.lt) Tryd.underlying27 rfl (by rw [HLX.out]; exact oid_info)) (HBB.out) ?_
    try simp only [Act.put, List.getElem_toArray, List.getElem_cons_zero, List.getElem_cons_succ, List.setIfInBounds_toArray, List.set_cons_zero, List.set_cons_succ]
    refine wpAnyH_take (i := 12) (v := ?_) rfl (by kernel_rfl) (by kernel_rfl) (by kernel_rfl) (fun _ _ _ h => h) (Or.inl ⟨by rfl, ?_⟩) (HBB.out) ?_
    rotate_left
    · intro w _; go_simp; with_reducible rfl
    try simp only [Act.put, List.getElem_toArray, List.getElem_cons_zero, List.getElem_cons_succ, List.setIfInBounds_toArray, List.set_cons_zero, List.set_cons_succ]
    refine wpAnyH_take (i := 13) (v := ?_) rfl (by kernel_rfl) (by kernel_rfl) (by kernel_rfl) (fun _ _ _ h => h) (Or.inl ⟨by rfl, ?_⟩) (HBB.out) ?_
    rotate_left
    · intro w _; go_simp; with_reducible rfl
    try simp only [Act.put, List.getElem_toArray, List.getElem_cons_zero, List.getElem_cons_succ, List.setIfInBounds_toArray, List.set_cons_zero, List.set_cons_succ]
    refine wpAnyH_take (i := 14) (v := ?_) rfl (by kernel_rfl) (by kernel_rfl) (by kernel_rfl) (fun _ _ _ h => h) (Or.inl ⟨by rfl, ?_⟩) (HBB.out) ?_
    rotate_left
    · intro w _; go_simp; with_reducible rfl
    try simp only [Act.put, List.getElem_toArray, List.getElem_cons_zero, List.getElem_cons_succ, List.setIfInBounds_toArray, List.set_cons_zero, List.set_cons_succ]
    refine wpAnyH_take (i := 15) (v := ?_) rfl (by kernel_rfl) (by kernel_rfl) (by kernel_rfl) (fun _ _ _ h => h) (Or.inl ⟨by rfl, ?_⟩) (HBB.out) ?_
    rotate_left
    · intro w _; go_simp; with_reducible rfl
    try simp only [Act.put, List.getElem_toArray, List.getElem_cons_zero, List.getElem_cons_succ, List.setIfInBounds_toArray, List.set_cons_zero, List.set_cons_succ]
    refine wpAnyH_take (i := 16) (v := ?_) rfl (by kernel_rfl) (by kernel_rfl) (by kernel_rfl) (fun _ _ _ h => h) (Or.inl ⟨by rfl, ?_⟩) (HBB.out) ?_
    rotate_left
    · intro w _; go_simp; with_reducible rfl
    try simp only [Act.put, List.getElem_toArray, List.getElem_cons_zero, List.getElem_cons_succ, List.setIfInBounds_toArray, List.set_cons_zero, List.set_cons_succ]
    refine wpAnyH_take (i := 17) (v := ?_) rfl (by kernel_rfl) (by kernel_rfl) (by kernel_rfl) (fun _ _ _ h => h) (Or.inl ⟨by rfl, ?_⟩) (HBB.out) ?_
    rotate_left
    · intro w _; go_simp; with_reducible rfl
    try simp only [Act.put, List.getElem_toArray, List.getElem_cons_zero, List.getElem_cons_succ, List.setIfInBounds_toArray, List.set_cons_zero, List.set_cons_succ]
    refine wpAnyH_take (i := 18) (v := ?_) rfl (by kernel_rfl) (by kernel_rfl) (by kernel_rfl) (fun _ _ _ h => h) (Or.inl ⟨by rfl, ?_⟩) (HBB.out) ?_
    rotate_left
    · intro w _; go_simp; with_reducible rfl
    try simp only [Act.put, List.getElem_toArray, List.getElem_cons_zero, List.getElem_cons_succ, List.setIfInBounds_toArray, List.set_cons_zero, List.set_cons_succ]
    refine wpAnyH_take (i := 19) (v := ?_) rfl (by kernel_rfl) (by kernel_rfl) (by kernel_rfl) (fun _ _ _ h => h) (Or.inl ⟨by rfl, ?_⟩) (HBB.out) ?_
    rotate_left
    · intro w _; go_simp; with_reducible rfl
    try simp only [Act.put, List.getElem_toArray, List.getElem_cons_zero, List.getElem_cons_succ, List.setIfInBounds_toArray, List.set_cons_zero, List.set_cons_succ]
    refine wpAnyH_take (i := 20) (v := ?_) rfl (by kernel_rfl) (by kernel_rfl) (by kernel_rfl) (fun _ _ _ h => h) (Or.inl ⟨by rfl, ?_⟩) (HBB.out) ?_
    rotate_left
    · intro w _; go_simp; with_reducible rfl
    try simp only [Act.put, List.getElem_toArray, List.getElem_cons_zero, List.getElem_cons_succ, List.setIfInBounds_toArray, List.set_cons_zero, List.set_cons_succ]
    refine wpAnyH_take (i := 21) (v := ?_) rfl (by kernel_rfl) (by kernel_rfl) (by kernel_rfl) (fun _ _ _ h => h) (Or.inl ⟨by rfl, ?_⟩) (HBB.out) ?_
    rotate_left
    · intro w _; go_simp; with_reducible rfl
    try simp only [Act.put, List.getElem_toArray, List.getElem_cons_zero, List.getElem_cons_succ, List.setIfInBounds_toArray, List.set_cons_zero, List.set_cons_succ]
    refine wpAnyH_take (i := 22) (v := ?_) rfl (by kernel_rfl) (by kernel_rfl) (by kernel_rfl) (fun _ _ _ h => h) (Or.inl ⟨by rfl, ?_⟩) (HBB.out) ?_
    rotate_left
    · intro w _; go_simp; with_reducible rfl
    try simp only [Act.put, List.getElem_toArray, List.getElem_cons_zero, List.getElem_cons_succ, List.setIfInBounds_toArray, List.set_cons_zero, List.set_cons_succ]
    refine wpAnyH_take (i := 23) (v := ?_) rfl (by kernel_rfl) (by kernel_rfl) (by kernel_rfl) (fun _ _ _ h => h) (Or.inl ⟨by rfl, ?_⟩) (HBB.out) ?_
    rotate_left
    · intro w _; go_simp; with_reducible rfl
    try simp only [Act.put, List.getElem_toArray, List.getElem_cons_zero, List.getElem_cons_succ, List.setIfInBounds_toArray, List.set_cons_zero, List.set_cons_succ]
    refine wpAnyH_take (i := 24) (v := ?_) rfl (by kernel_rfl) (by kernel_rfl) (by kernel_rfl) (fun _ _ _ h => h) (Or.inl ⟨by rfl, ?_⟩) (HBB.out) ?_
    rotate_left
    · intro w _; go_simp; with_reducible rfl
    try simp only [Act.put, List.getElem_toArray, List.getElem_cons_zero, List.getElem_cons_succ, List.setIfInBounds_toArray, List.set_cons_zero, List.set_cons_succ]
    refine all_one (i := 25) (by kernel_rfl) rfl (by rfl) (fun K hK => ?_)
    go_simp
    refine (num_any 3 (by omega) a _ (HS.out.below (HB9.out.trans (HBB.out.mono HB9.out.size)) (Nat.le_refl _))).mono ?_
    rintro e wc ⟨rfl, hbc⟩
    have hbc := HBB.out.trans (hbc.mono HBB.out.size)
    dsimp only
    refine hK _ _ (hbc) ?_; clear hK K
    try simp only [Act.put, List.getElem_toArray, List.getElem_cons_zero, List.getElem_cons_succ, List.setIfInBounds_toArray, List.set_cons_zero, List.set_cons_succ]
    have HBC := Lib.hid hbc
    clear hbc
    refine wpAnyH_take (i := 26) (v := ?_) rfl (by kernel_rfl) (by kernel_rfl) (by kernel_rfl) (fun _ _ _ h => h) (Or.inl ⟨by rfl, ?_⟩) (HBC.out) ?_
    rotate_left
    · intro w _; go_simp; with_reducible rfl
    try simp only [Act.put, List.getElem_toArray, List.getElem_cons_zero, List.getElem_cons_succ, List.setIfInBounds_toArray, List.set_cons_zero, List.set_cons_succ]
    refine wpAnyH_take (i := 27) (v := ?_) rfl (by kernel_rfl) (by kernel_rfl) (by kernel_rfl) (fun _ _ _ h => h) (Or.inl ⟨by rfl, ?_⟩) (HBC.out) ?_
    rotate_left
    · intro w _; go_simp; with_reducible rfl
    try simp only [Act.put, List.getElem_toArray, List.getElem_cons_zero, List.getElem_cons_succ, List.setIfInBounds_toArray, List.set_cons_zero, List.set_cons_succ]
    refine wpAnyH_take (i := 28) (v := ?_) rfl (by kernel_rfl) (by kernel_rfl) (by kernel_rfl) (fun _ _ _ h => h) (Or.inl ⟨by rfl, ?_⟩) (HBC.out) ?_
    rotate_left
    · intro w _; go_simp; with_reducible rfl
    try simp only [Act.put, List.getElem_toArray, List.getElem_cons_zero, List.getElem_cons_succ, List.setIfInBounds_toArray, List.set_cons_zero, List.set_cons_succ]
    refine wpAnyH_take (i := 29) (v := ?_) rfl (by kernel_rfl) (by kernel_rfl) (by kernel_rfl) (fun _ _ _ h => h) (Or.inl ⟨by rfl, ?_⟩) (HBC.out) ?_
    rotate_left
    · intro w _; go_simp; with_reducible rfl
    try simp only [Act.put, List.getElem_toArray, List.getElem_cons_zero, List.getElem_cons_succ, List.setIfInBounds_toArray, List.set_cons_zero, List.set_cons_succ]
    refine wpAnyH_take (i := 30) rfl (by kernel_rfl) (by kernel_rfl) (by kernel_rfl) (fun _ _ _ h => h) (takes_row 27 (.tmp 9) rfl (by rfl) (p2) rfl 27 (u8s l) _ (fun w4 h => HL9.out.below h HL9.out.lt) Tryd.underlying27 rfl (by rw [HLL.out]; exact oid_info)) (HBC.out) ?_
    try simp only [Act.put, List.getElem_toArray, List.getElem_cons_zero, List.getElem_cons_succ, List.setIfInBounds_toArray, List.set_cons_zero, List.set_cons_succ]
    refine wpAnyH_take (i := 31) rfl (by kernel_rfl) (by kernel_rfl) (by kernel_rfl) (fun _ _ _ h => h) (takes_row 26 (.tmp 11) rfl (by rfl) (p3) rfl 26 (u8s l) _ (fun w4 h => HM9.out.below h HM9.out.lt) Tryd.underlying26 rfl (by rw [HLL.out]; exact a32_info)) (HBC.out) ?_
    try simp only [Act.put, List.getElem_toArray, List.getElem_cons_zero, List.getElem_cons_succ, List.setIfInBounds_toArray, List.set_cons_zero, List.set_cons_succ]
    refine wpAnyH_take (i := 32) (v := ?_) rfl (by kernel_rfl) (by kernel_rfl) (by kernel_rfl) (fun _ _ _ h => h) (Or.inl ⟨by rfl, ?_⟩) (HBC.out) ?_
    rotate_left
    · intro w _; go_simp; with_reducible rfl
    try simp only [Act.put, List.getElem_toArray, List.getElem_cons_zero, List.getElem_cons_succ, List.setIfInBounds_toArray, List.set_cons_zero, List.set_cons_succ]
    refine wpAnyH_take (i := 33) (v := ?_) rfl (by kernel_rfl) (by kernel_rfl) (by kernel_rfl) (fun _ _ _ h => h) (Or.inl ⟨by rfl, ?_⟩) (HBC.out) ?_
    rotate_left
    · intro w _; go_simp; with_reducible rfl
    try simp only [Act.put, List.getElem_toArray, List.getElem_cons_zero, List.getElem_cons_succ, List.setIfInBounds_toArray, List.set_cons_zero, List.set_cons_succ]
    refine wpAnyH_done (by kernel_rfl) ?_ _
    have HXL := Lib.hid (HX9.out.below HBC.out HX9.out.lt)
    have HYL := Lib.hid (HY9.out.below HBC.out HY9.out.lt)
    have HBL := Lib.hid (HB9.out.trans (HBC.out.mono HB9.out.size))
    clear heq heq2
    go_wp2_with fail
    go_loop [13, 73] (fun n i => ∃ k : Nat, k ≤ 8 ∧ i = .int .i64 k ∧ n = .int .u64 ((Sha.shortK xs k : Nat) : Int)) (fun _ i => 8 - (intOf i).toNat)
    case atStart => exact ⟨0, by omega, rfl, rfl⟩
    case round =>
      obtain ⟨k, hk, rfl, rfl⟩ := hrel
      have hsk := Sha.shortK_lt hb k hk
      by_cases hlt : k < 8
      · have HSK := Lib.hid (show Sha.shortK xs (k + 1) = Sha.shortK xs k * 256 + xs.getD k 0 from rfl)
        have hc := HXL.out.cell k
        rw [u8s_get _ _ (by rw [HHX.out]; omega)] at hc
        have hbk := hb k
        have hs2 : Sha.shortK xs k < 72057594037927936 := Nat.lt_of_lt_of_le hsk (Nat.pow_le_pow_right (j := 7) (show 0 < 256 by decide) (by omega))
        clear hsk
        generalize xs.getD k 0 = c at hc hbk HSK
        generalize Sha.shortK xs k = n at hs2 HSK
        go_wp2_with fail
        go_round
        case rel => exact ⟨k + 1, by omega, by go_num, by rw [HSK.out]; go_num⟩
        case measure => simp [intOf]; omega
      · obtain rfl : k = 8 := by omega
        clear hsk
        obtain ⟨n, hn⟩ : ∃ n, n = Sha.shortK xs 8 := ⟨_, rfl⟩
        rw [← hn]
        have HSH := Lib.hid hn
        clear hn
        go_wp2_with fail
        have HXM := Lib.hid HXL.out.drew
        have HYM := Lib.hid HYL.out.drew
        have HBM := Lib.hid (below_drewN HBL.out 1)
        refine wp_region_held (S := (fun w' => Below wc.drew.heap.size wc.drew w')) (by kernel_rfl) ?_
        change wpAnyH _ _ _ _ _ _ _ _ wc.drew
        refine wpAnyH_take (i := 0) rfl (by kernel_rfl) (by kernel_rfl) (by kernel_rfl) (fun _ _ _ h => h) (takes_row 27 (.tmp 3) rfl (by rfl) (w.heap.size) rfl 27 (u8s xs) _ (fun w4 h => HXM.out.below h HXM.out.lt) Tryd.underlying27 rfl (by rw [HLX.out]; exact oid_info)) (Below.refl _ _) ?_
        try simp only [Act.put, List.getElem_toArray, List.getElem_cons_zero, List.getElem_cons_succ, List.setIfInBounds_toArray, List.set_cons_zero, List.set_cons_succ]
        refine wpAnyH_take (i := 1) rfl (by kernel_rfl) (by kernel_rfl) (by kernel_rfl) (fun _ _ _ h => h) (takes_row 27 (.tmp 4) rfl (by rfl) (w.heap.size + 1) rfl 27 (u8s ys) _ (fun w4 h => HYM.out.below h HYM.out.lt) Tryd.underlying27 rfl (by rw [HLY.out]; exact oid_info)) (Below.refl _ _) ?_
        try simp only [Act.put, List.getElem_toArray, List.getElem_cons_zero, List.getElem_cons_succ, List.setIfInBounds_toArray, List.set_cons_zero, List.set_cons_succ]
        refine wpAnyH_take (i := 3) rfl (by kernel_rfl) (by kernel_rfl) (by kernel_rfl) (fun _ _ _ h => h) (takes_row 27 (.tmp 3) rfl (by rfl) (w.heap.size) rfl 27 (u8s xs) _ (fun w4 h => HXM.out.below h HXM.out.lt) Tryd.underlying27 rfl (by rw [HLX.out]; exact oid_info)) (Below.refl _ _) ?_
        try simp only [Act.put, List.getElem_toArray, List.getElem_cons_zero, List.getElem_cons_succ, List.setIfInBounds_toArray, List.set_cons_zero, List.set_cons_succ]
        refine wpAnyH_take (i := 4) rfl (by kernel_rfl) (by kernel_rfl) (by kernel_rfl) (fun _ _ _ h => h) (takes_row 27 (.tmp 4) rfl (by rfl) (w.heap.size + 1) rfl 27 (u8s ys) _ (fun w4 h => HYM.out.below h HYM.out.lt) Tryd.underlying27 rfl (by rw [HLY.out]; exact oid_info)) (Below.refl _ _) ?_
        try simp only [Act.put, List.getElem_toArray, List.getElem_cons_zero, List.getElem_cons_succ, List.setIfInBounds_toArray, List.set_cons_zero, List.set_cons_succ]
        refine all_one (i := 2) (by kernel_rfl) rfl (by rfl) (fun K hK => ?_)
        go_simp
        refine (less_any xs ys _ HHX.out HHY.out hb hb').mono ?_
        rintro e wd ⟨rfl, hbd⟩
        dsimp only
        refine hK _ _ (hbd) ?_; clear hK K
        try simp only [Act.put, List.getElem_toArray, List.getElem_cons_zero, List.getElem_cons_succ, List.setIfInBounds_toArray, List.set_cons_zero, List.set_cons_succ]
        refine all_one (i := 5) (by kernel_rfl) rfl (by rfl) (fun K hK => ?_)
        go_simp
        refine (rless_any xs ys _ HHX.out HHY.out hb hb').mono ?_
        rintro e we ⟨rfl, hbe⟩
        have hbe := hbd.trans (hbe.mono hbd.size)
        dsimp only
        refine hK _ _ (hbe) ?_; clear hK K
        try simp only [Act.put, List.getElem_toArray, List.getElem_cons_zero, List.getElem_cons_succ, List.setIfInBounds_toArray, List.set_cons_zero, List.set_cons_succ]
        have HBE := Lib.hid hbe
        clear hbd hbe
        refine wpAnyH_take (i := 6) (v := ?_) rfl (by kernel_rfl) (by kernel_rfl) (by kernel_rfl) (fun _ _ _ h => h) (Or.inl ⟨by rfl, ?_⟩) (HBE.out) ?_
        rotate_left
        · intro w _; go_simp; with_reducible rfl
        try simp only [Act.put, List.getElem_toArray, List.getElem_cons_zero, List.getElem_cons_succ, List.setIfInBounds_toArray, List.set_cons_zero, List.set_cons_succ]
        refine wpAnyH_take (i := 7) (v := ?_) rfl (by kernel_rfl) (by kernel_rfl) (by kernel_rfl) (fun _ _ _ h => h) (Or.inl ⟨by rfl, ?_⟩) (HBE.out) ?_
        rotate_left
        · intro w _; go_simp; with_reducible rfl
        try simp only [Act.put, List.getElem_toArray, List.getElem_cons_zero, List.getElem_cons_succ, List.setIfInBounds_toArray, List.set_cons_zero, List.set_cons_succ]
        refine wpAnyH_take (i := 8) rfl (by kernel_rfl) (by kernel_rfl) (by kernel_rfl) (fun _ _ _ h => h) (takes_row 27 (.tmp 3) rfl (by rfl) (w.heap.size) rfl 27 (u8s xs) _ (fun w4 h => HXM.out.below h HXM.out.lt) Tryd.underlying27 rfl (by rw [HLX.out]; exact oid_info)) (HBE.out) ?_
        try simp only [Act.put, List.getElem_toArray, List.getElem_cons_zero, List.getElem_cons_succ, List.setIfInBounds_toArray, List.set_cons_zero, List.set_cons_succ]
        refine wpAnyH_take (i := 10) (v := ?_) rfl (by kernel_rfl) (by kernel_rfl) (by kernel_rfl) (fun _ _ _ h => h) (Or.inl ⟨by rfl, ?_⟩) (HBE.out) ?_
        rotate_left
        · intro w _; go_simp; with_reducible rfl
        try simp only [Act.put, List.getElem_toArray, List.getElem_cons_zero, List.getElem_cons_succ, List.setIfInBounds_toArray, List.set_cons_zero, List.set_cons_succ]
        refine all_one (i := 9) (by kernel_rfl) rfl (by rfl) (fun K hK => ?_)
        go_simp
        refine (short_any xs _ HHX.out hb).mono ?_
        rintro e wf ⟨rfl, hbf⟩
        have hbf := HBE.out.trans (hbf.mono HBE.out.size)
        dsimp only
        refine hK _ _ (hbf) ?_; clear hK K
        try simp only [Act.put, List.getElem_toArray, List.getElem_cons_zero, List.getElem_cons_succ, List.setIfInBounds_toArray, List.set_cons_zero, List.set_cons_succ]
        have HBF := Lib.hid hbf
        clear hbf
        rw [← HSH.out]
        refine wpAnyH_take (i := 11) (v := ?_) rfl (by kernel_rfl) (by kernel_rfl) (by kernel_rfl) (fun _ _ _ h => h) (Or.inl ⟨by rfl, ?_⟩) (HBF.out) ?_
        rotate_left
        · intro w _; go_simp; with_reducible rfl
        try simp only [Act.put, List.getElem_toArray, List.getElem_cons_zero, List.getElem_cons_succ, List.setIfInBounds_toArray, List.set_cons_zero, List.set_cons_succ]
        refine wpAnyH_take (i := 12) (v := ?_) rfl (by kernel_rfl) (by kernel_rfl) (by kernel_rfl) (fun _ _ _ h => h) (Or.inl ⟨by rfl, ?_⟩) (HBF.out) ?_
        rotate_left
        · intro w _; go_simp; with_reducible rfl
        try simp only [Act.put, List.getElem_toArray, List.getElem_cons_zero, List.getElem_cons_succ, List.setIfInBounds_toArray, List.set_cons_zero, List.set_cons_succ]
        refine wpAnyH_take (i := 13) (v := ?_) rfl (by kernel_rfl) (by kernel_rfl) (by kernel_rfl) (fun _ _ _ h => h) (Or.inl ⟨by rfl, ?_⟩) (HBF.out) ?_
        rotate_left
        · intro w _; go_simp; with_reducible rfl
        try simp only [Act.put, List.getElem_toArray, List.getElem_cons_zero, List.getElem_cons_succ, List.setIfInBounds_toArray, List.set_cons_zero, List.set_cons_succ]
        refine wpAnyH_done (by kernel_rfl) ?_ _
        go_wp2_with fail
        go_ret
        exact ⟨rfl, HBM.out.trans (HBF.out.mono HBM.out.size)⟩
  · obtain rfl : err2 = .nilIface := HERR.out
    clear HERR
    refine wp_region_held (S := (fun w' => Below w9.heap.size w9 w')) (by kernel_rfl) ?_
    rw [show ({ w8 with drawn := w8.drawn + 1 } : World) = w9 from HW9.out.symm]
    refine wpAnyH_take (i := 0) rfl (by kernel_rfl) (by kernel_rfl) (by kernel_rfl) (fun _ _ _ h => h) (takes_row 27 (.tmp 3) rfl (by rfl) (w.heap.size) rfl 27 (u8s xs) _ (fun w4 h => HX9.out.below h HX9.out.lt) Tryd.underlying27 rfl (by rw [HLX.out]; exact oid_info)) (Below.refl _ _) ?_
    try simp only [Act.put, List.getElem_toArray, List.getElem_cons_zero, List.getElem_cons_succ, List.setIfInBounds_toArray, List.set_cons_zero, List.set_cons_succ]
    refine wpAnyH_take (i := 2) rfl (by kernel_rfl) (by kernel_rfl) (by kernel_rfl) (fun _ _ _ h => h) (takes_row 27 (.tmp 3) rfl (by rfl) (w.heap.size) rfl 27 (u8s xs) _ (fun w4 h => HX9.out.below h HX9.out.lt) Tryd.underlying27 rfl (by rw [HLX.out]; exact oid_info)) (Below.refl _ _) ?_
    try simp only [Act.put, List.getElem_toArray, List.getElem_cons_zero, List.getElem_cons_succ, List.setIfInBounds_toArray, List.set_cons_zero, List.set_cons_succ]
    refine all_one (i := 1) (by kernel_rfl) rfl (by rfl) (fun K hK => ?_)
    go_simp
    refine (hex_any xs _ HHX.out hb).mono ?_
    rintro e wa ⟨rfl, hba⟩
    dsimp only
    refine hK _ _ (hba) ?_; clear hK K
    try simp only [Act.put, List.getElem_toArray, List.getElem_cons_zero, List.getElem_cons_succ, List.setIfInBounds_toArray, List.set_cons_zero, List.set_cons_succ]
    refine all_one (i := 3) (by kernel_rfl) rfl (by rfl) (fun K hK => ?_)
    go_simp
    refine (rhex_any xs _ HHX.out hb).mono ?_
    rintro e wb ⟨rfl, hbb⟩
    have hbb := hba.trans (hbb.mono hba.size)
    dsimp only
    refine hK _ _ (hbb) ?_; clear hK K
    try simp only [Act.put, List.getElem_toArray, List.getElem_cons_zero, List.getElem_cons_succ, List.setIfInBounds_toArray, List.set_cons_zero, List.set_cons_succ]
    have HBB := Lib.hid hbb
    clear hba hbb
    refine wpAnyH_take (i := 4) (v := ?_) rfl (by kernel_rfl) (by kernel_rfl) (by kernel_rfl) (fun _ _ _ h => h) (Or.inl ⟨by rfl, ?_⟩) (HBB.out) ?_
    rotate_left
    · intro w _; go_simp; with_reducible rfl
    try simp only [Act.put, List.getElem_toArray, List.getElem_cons_zero, List.getElem_cons_succ, List.setIfInBounds_toArray, List.set_cons_zero, List.set_cons_succ]
    refine wpAnyH_take (i := 5) (v := ?_) rfl (by kernel_rfl) (by kernel_rfl) (by kernel_rfl) (fun _ _ _ h => h) (Or.inl ⟨by rfl, ?_⟩) (HBB.out) ?_
    rotate_left
    · intro w _; go_simp; with_reducible rfl
    try simp only [Act.put, List.getElem_toArray, List.getElem_cons_zero, List.getElem_cons_succ, List.setIfInBounds_toArray, List.set_cons_zero, List.set_cons_succ]
    refine wpAnyH_take (i := 6) (v := ?_) rfl (by kernel_rfl) (by kernel_rfl) (by kernel_rfl) (fun _ _ _ h => h) (Or.inl ⟨by rfl, ?_⟩) (HBB.out) ?_
    rotate_left
    · intro w _; go_simp; with_reducible rfl
    try simp only [Act.put, List.getElem_toArray, List.getElem_cons_zero, List.getElem_cons_succ, List.setIfInBounds_toArray, List.set_cons_zero, List.set_cons_succ]
    refine wpAnyH_take (i := 7) (v := ?_) rfl (by kernel_rfl) (by kernel_rfl) (by kernel_rfl) (fun _ _ _ h => h) (Or.inl ⟨by rfl, ?_⟩) (HBB.out) ?_
    rotate_left
    · intro w _; go_simp; with_reducible rfl
    try simp only [Act.put, List.getElem_toArray, List.getElem_cons_zero, List.getElem_cons_succ, List.setIfInBounds_toArray, List.set_cons_zero, List.set_cons_succ]
    refine wpAnyH_take (i := 8) (v := ?_) rfl (by kernel_rfl) (by kernel_rfl) (by kernel_rfl) (fun _ _ _ h => h) (Or.inl ⟨by rfl, ?_⟩) (HBB.out) ?_
    rotate_left
    · intro w _; go_simp; with_reducible rfl
    try simp only [Act.put, List.getElem_toArray, List.getElem_cons_zero, List.getElem_cons_succ, List.setIfInBounds_toArray, List.set_cons_zero, List.set_cons_succ]
    refine wpAnyH_take (i := 9) (v := ?_) rfl (by kernel_rfl) (by kernel_rfl) (by kernel_rfl) (fun _ _ _ h => h) (Or.inl ⟨by rfl, ?_⟩) (HBB.out) ?_
    rotate_left
    · intro w _; go_simp; with_reducible rfl
    try simp only [Act.put, List.getElem_toArray, List.getElem_cons_zero, List.getElem_cons_succ, List.setIfInBounds_toArray, List.set_cons_zero, List.set_cons_succ]
    refine wpAnyH_take (i := 10) rfl (by kernel_rfl) (by kernel_rfl) (by kernel_rfl) (fun _ _ _ h => h) (takes_row 27 (.tmp 7) rfl (by rfl) (p1) rfl 27 (u8s xs) _ (fun w4 h => HK9.out.below h HK9.out.lt) Tryd.underlying27 rfl (by rw [HLX.out]; exact oid_info)) (HBB.out) ?_
    try simp only [Act.put, List.getElem_toArray, List.getElem_cons_zero, List.getElem_cons_succ, List.setIfInBounds_toArray, List.set_cons_zero, List.set_cons_succ]
    refine wpAnyH_take (i := 11) rfl (by kernel_rfl) (by kernel_rfl) (by kernel_rfl) (fun _ _ _ h => h) (takes_row 27 (.tmp 3) rfl (by rfl) (w.heap.size) rfl 27 (u8s xs) _ (fun w4 h => HX9.out.below h HX9.out.lt) Tryd.underlying27 rfl (by rw [HLX.out]; exact oid_info)) (HBB.out) ?_
    try simp only [Act.put, List.getElem_toArray, List.getElem_cons_zero, List.getElem_cons_succ, List.setIfInBounds_toArray, List.set_cons_zero, List.set_cons_succ]
    refine wpAnyH_take (i := 12) (v := ?_) rfl (by kernel_rfl) (by kernel_rfl) (by kernel_rfl) (fun _ _ _ h => h) (Or.inl ⟨by rfl, ?_⟩) (HBB.out) ?_
    rotate_left
    · intro w _; go_simp; with_reducible rfl
    try simp only [Act.put, List.getElem_toArray, List.getElem_cons_zero, List.getElem_cons_succ, List.setIfInBounds_toArray, List.set_cons_zero, List.set_cons_succ]
    refine wpAnyH_take (i := 13) (v := ?_) rfl (by kernel_rfl) (by kernel_rfl) (by kernel_rfl) (fun _ _ _ h => h) (Or.inl ⟨by rfl, ?_⟩) (HBB.out) ?_
    rotate_left
    · intro w _; go_simp; with_reducible rfl
    try simp only [Act.put, List.getElem_toArray, List.getElem_cons_zero, List.getElem_cons_succ, List.setIfInBounds_toArray, List.set_cons_zero, List.set_cons_succ]
    refine wpAnyH_take (i := 14) (v := ?_) rfl (by kernel_rfl) (by kernel_rfl) (by kernel_rfl) (fun _ _ _ h => h) (Or.inl ⟨by rfl, ?_⟩) (HBB.out) ?_
    rotate_left
    · intro w _; go_simp; with_reducible rfl
    try simp only [Act.put, List.getElem_toArray, List.getElem_cons_zero, List.getElem_cons_succ, List.setIfInBounds_toArray, List.set_cons_zero, List.set_cons_succ]
    refine wpAnyH_take (i := 15) (v := ?_) rfl (by kernel_rfl) (by kernel_rfl) (by kernel_rfl) (fun _ _ _ h => h) (Or.inl ⟨by rfl, ?_⟩) (HBB.out) ?_
    rotate_left
    · intro w _; go_simp; with_reducible rfl
    try simp only [Act.put, List.getElem_toArray, List.getElem_cons_zero, List.getElem_cons_succ, List.setIfInBounds_toArray, List.set_cons_zero, List.set_cons_succ]
    refine wpAnyH_take (i := 16) (v := ?_) rfl (by kernel_rfl) (by kernel_rfl) (by kernel_rfl) (fun _ _ _ h => h) (Or.inl ⟨by rfl, ?_⟩) (HBB.out) ?_
    rotate_left
    · intro w _; go_simp; with_reducible rfl
    try simp only [Act.put, List.getElem_toArray, List.getElem_cons_zero, List.getElem_cons_succ, List.setIfInBounds_toArray, List.set_cons_zero, List.set_cons_succ]
    refine wpAnyH_take (i := 17) (v := ?_) rfl (by kernel_rfl) (by kernel_rfl) (by kernel_rfl) (fun _ _ _ h => h) (Or.inl ⟨by rfl, ?_⟩) (HBB.out) ?_
    rotate_left
    · intro w _; go_simp; with_reducible rfl
    try simp only [Act.put, List.getElem_toArray, List.getElem_cons_zero, List.getElem_cons_succ, List.setIfInBounds_toArray, List.set_cons_zero, List.set_cons_succ]
    refine wpAnyH_take (i := 18) (v := ?_) rfl (by kernel_rfl) (by kernel_rfl) (by kernel_rfl) (fun _ _ _ h => h) (Or.inl ⟨by rfl, ?_⟩) (HBB.out) ?_
    rotate_left
    · intro w _; go_simp; with_reducible rfl
    try simp only [Act.put, List.getElem_toArray, List.getElem_cons_zero, List.getElem_cons_succ, List.setIfInBounds_toArray, List.set_cons_zero, List.set_cons_succ]
    refine wpAnyH_take (i := 19) (v := ?_) rfl (by kernel_rfl) (by kernel_rfl) (by kernel_rfl) (fun _ _ _ h => h) (Or.inl ⟨by rfl, ?_⟩) (HBB.out) ?_
    rotate_left
    · intro w _; go_simp; with_reducible rfl
    try simp only [Act.put, List.getElem_toArray, List.getElem_cons_zero, List.getElem_cons_succ, List.setIfInBounds_toArray, List.set_cons_zero, List.set_cons_succ]
    refine wpAnyH_take (i := 20) (v := ?_) rfl (by kernel_rfl) (by kernel_rfl) (by kernel_rfl) (fun _ _ _ h => h) (Or.inl ⟨by rfl, ?_⟩) (HBB.out) ?_
    rotate_left
    · intro w _; go_simp; with_reducible rfl
    try simp only [Act.put, List.getElem_toArray, List.getElem_cons_zero, List.getElem_cons_succ, List.setIfInBounds_toArray, List.set_cons_zero, List.set_cons_succ]
    refine wpAnyH_take (i := 21) (v := ?_) rfl (by kernel_rfl) (by kernel_rfl) (by kernel_rfl) (fun _ _ _ h => h) (Or.inl ⟨by rfl, ?_⟩) (HBB.out) ?_
    rotate_left
    · intro w _; go_simp; with_reducible rfl
    try simp only [Act.put, List.getElem_toArray, List.getElem_cons_zero, List.getElem_cons_succ, List.setIfInBounds_toArray, List.set_cons_zero, List.set_cons_succ]
    refine wpAnyH_take (i := 22) (v := ?_) rfl (by kernel_rfl) (by kernel_rfl) (by kernel_rfl) (fun _ _ _ h => h) (Or.inl ⟨by rfl, ?_⟩) (HBB.out) ?_
    rotate_left
    · intro w _; go_simp; with_reducible rfl
    try simp only [Act.put, List.getElem_toArray, List.getElem_cons_zero, List.getElem_cons_succ, List.setIfInBounds_toArray, List.set_cons_zero, List.set_cons_succ]
    refine wpAnyH_take (i := 23) (v := ?_) rfl (by kernel_rfl) (by kernel_rfl) (by kernel_rfl) (fun _ _ _ h => h) (Or.inl ⟨by rfl, ?_⟩) (HBB.out) ?_
    rotate_left
    · intro w _; go_simp; with_reducible rfl
    try simp only [Act.put, List.getElem_toArray, List.getElem_cons_zero, List.getElem_cons_succ, List.setIfInBounds_toArray, List.set_cons_zero, List.set_cons_succ]
    refine wpAnyH_take (i := 24) (v := undef) rfl (by kernel_rfl) (by kernel_rfl) (by kernel_rfl) (fun _ _ _ h => h) (Or.inr ⟨by rfl, rfl⟩) (HBB.out) ?_
    try simp only [Act.put, List.getElem_toArray, List.getElem_cons_zero, List.getElem_cons_succ, List.setIfInBounds_toArray, List.set_cons_zero, List.set_cons_succ]
    refine wpAnyH_take (i := 25) (v := undef) rfl (by kernel_rfl) (by kernel_rfl) (by kernel_rfl) (fun _ _ _ h => h) (Or.inr ⟨by rfl, rfl⟩) (HBB.out) ?_
    try simp only [Act.put, List.getElem_toArray, List.getElem_cons_zero, List.getElem_cons_succ, List.setIfInBounds_toArray, List.set_cons_zero, List.set_cons_succ]
    refine wpAnyH_take (i := 26) (v := undef) rfl (by kernel_rfl) (by kernel_rfl) (by kernel_rfl) (fun _ _ _ h => h) (Or.inr ⟨by rfl, rfl⟩) (HBB.out) ?_
    try simp only [Act.put, List.getElem_toArray, List.getElem_cons_zero, List.getElem_cons_succ, List.setIfInBounds_toArray, List.set_cons_zero, List.set_cons_succ]
    refine wpAnyH_take (i := 27) (v := ?_) rfl (by kernel_rfl) (by kernel_rfl) (by kernel_rfl) (fun _ _ _ h => h) (Or.inl ⟨by rfl, ?_⟩) (HBB.out) ?_
    rotate_left
    · intro w _; go_simp; with_reducible rfl
    try simp only [Act.put, List.getElem_toArray, List.getElem_cons_zero, List.getElem_cons_succ, List.setIfInBounds_toArray, List.set_cons_zero, List.set_cons_succ]
    refine wpAnyH_take (i := 28) (v := ?_) rfl (by kernel_rfl) (by kernel_rfl) (by kernel_rfl) (fun _ _ _ h => h) (Or.inl ⟨by rfl, ?_⟩) (HBB.out) ?_
    rotate_left
    · intro w _; go_simp; with_reducible rfl
    try simp only [Act.put, List.getElem_toArray, List.getElem_cons_zero, List.getElem_cons_succ, List.setIfInBounds_toArray, List.set_cons_zero, List.set_cons_succ]
    refine wpAnyH_take (i := 29) (v := ?_) rfl (by kernel_rfl) (by kernel_rfl) (by kernel_rfl) (fun _ _ _ h => h) (Or.inl ⟨by rfl, ?_⟩) (HBB.out) ?_
    rotate_left
    · intro w _; go_simp; with_reducible rfl
    try simp only [Act.put, List.getElem_toArray, List.getElem_cons_zero, List.getElem_cons_succ, List.setIfInBounds_toArray, List.set_cons_zero, List.set_cons_succ]
    refine wpAnyH_take (i := 30) rfl (by kernel_rfl) (by kernel_rfl) (by kernel_rfl) (fun _ _ _ h => h) (takes_row 27 (.tmp 9) rfl (by rfl) (p2) rfl 27 (u8s l) _ (fun w4 h => HL9.out.below h HL9.out.lt) Tryd.underlying27 rfl (by rw [HLL.out]; exact oid_info)) (HBB.out) ?_
    try simp only [Act.put, List.getElem_toArray, List.getElem_cons_zero, List.getElem_cons_succ, List.setIfInBounds_toArray, List.set_cons_zero, List.set_cons_succ]
    refine wpAnyH_take (i := 31) rfl (by kernel_rfl) (by kernel_rfl) (by kernel_rfl) (fun _ _ _ h => h) (takes_row 26 (.tmp 11) rfl (by rfl) (p3) rfl 26 (u8s l) _ (fun w4 h => HM9.out.below h HM9.out.lt) Tryd.underlying26 rfl (by rw [HLL.out]; exact a32_info)) (HBB.out) ?_
    try simp only [Act.put, List.getElem_toArray, List.getElem_cons_zero, List.getElem_cons_succ, List.setIfInBounds_toArray, List.set_cons_zero, List.set_cons_succ]
    refine wpAnyH_take (i := 32) (v := ?_) rfl (by kernel_rfl) (by kernel_rfl) (by kernel_rfl) (fun _ _ _ h => h) (Or.inl ⟨by rfl, ?_⟩) (HBB.out) ?_
    rotate_left
    · intro w _; go_simp; with_reducible rfl
    try simp only [Act.put, List.getElem_toArray, List.getElem_cons_zero, List.getElem_cons_succ, List.setIfInBounds_toArray, List.set_cons_zero, List.set_cons_succ]
    refine wpAnyH_take (i := 33) (v := ?_) rfl (by kernel_rfl) (by kernel_rfl) (by kernel_rfl) (fun _ _ _ h => h) (Or.inl ⟨by rfl, ?_⟩) (HBB.out) ?_
    rotate_left
    · intro w _; go_simp; with_reducible rfl
    try simp only [Act.put, List.getElem_toArray, List.getElem_cons_zero, List.getElem_cons_succ, List.setIfInBounds_toArray, List.set_cons_zero, List.set_cons_succ]
    refine wpAnyH_done (by kernel_rfl) ?_ _
    have HXL := Lib.hid (HX9.out.below HBB.out HX9.out.lt)
    have HYL := Lib.hid (HY9.out.below HBB.out HY9.out.lt)
    have HBL := Lib.hid (HB9.out.trans (HBB.out.mono HB9.out.size))
    clear heq heq2
    go_wp2_with fail
    go_loop [13, 73] (fun n i => ∃ k : Nat, k ≤ 8 ∧ i = .int .i64 k ∧ n = .int .u64 ((Sha.shortK xs k : Nat) : Int)) (fun _ i => 8 - (intOf i).toNat)
    case atStart => exact ⟨0, by omega, rfl, rfl⟩
    case round =>
      obtain ⟨k, hk, rfl, rfl⟩ := hrel
      have hsk := Sha.shortK_lt hb k hk
      by_cases hlt : k < 8
      · have HSK := Lib.hid (show Sha.shortK xs (k + 1) = Sha.shortK xs k * 256 + xs.getD k 0 from rfl)
        have hc := HXL.out.cell k
        rw [u8s_get _ _ (by rw [HHX.out]; omega)] at hc
        have hbk := hb k
        have hs2 : Sha.shortK xs k < 72057594037927936 := Nat.lt_of_lt_of_le hsk (Nat.pow_le_pow_right (j := 7) (show 0 < 256 by decide) (by omega))
        clear hsk
        generalize xs.getD k 0 = c at hc hbk HSK
        generalize Sha.shortK xs k = n at hs2 HSK
        go_wp2_with fail
        go_round
        case rel => exact ⟨k + 1, by omega, by go_num, by rw [HSK.out]; go_num⟩
        case measure => simp [intOf]; omega
      · obtain rfl : k = 8 := by omega
        clear hsk
        obtain ⟨n, hn⟩ : ∃ n, n = Sha.shortK xs 8 := ⟨_, rfl⟩
        rw [← hn]
        have HSH := Lib.hid hn
        clear hn
        go_wp2_with fail
        have HXM := Lib.hid HXL.out.drew
        have HYM := Lib.hid HYL.out.drew
        have HBM := Lib.hid (below_drewN HBL.out 1)
        refine wp_region_held (S := (fun w' => Below wb.drew.heap.size wb.drew w')) (by kernel_rfl) ?_
        change wpAnyH _ _ _ _ _ _ _ _ wb.drew
        refine wpAnyH_take (i := 0) rfl (by kernel_rfl) (by kernel_rfl) (by kernel_rfl) (fun _ _ _ h => h) (takes_row 27 (.tmp 3) rfl (by rfl) (w.heap.size) rfl 27 (u8s xs) _ (fun w4 h => HXM.out.below h HXM.out.lt) Tryd.underlying27 rfl (by rw [HLX.out]; exact oid_info)) (Below.refl _ _) ?_
        try simp only [Act.put, List.getElem_toArray, List.getElem_cons_zero, List.getElem_cons_succ, List.setIfInBounds_toArray, List.set_cons_zero, List.set_cons_succ]
        refine wpAnyH_take (i := 1) rfl (by kernel_rfl) (by kernel_rfl) (by kernel_rfl) (fun _ _ _ h => h) (takes_row 27 (.tmp 4) rfl (by rfl) (w.heap.size + 1) rfl 27 (u8s ys) _ (fun w4 h => HYM.out.below h HYM.out.lt) Tryd.underlying27 rfl (by rw [HLY.out]; exact oid_info)) (Below.refl _ _) ?_
        try simp only [Act.put, List.getElem_toArray, List.getElem_cons_zero, List.getElem_cons_succ, List.setIfInBounds_toArray, List.set_cons_zero, List.set_cons_succ]
        refine wpAnyH_take (i := 3) rfl (by kernel_rfl) (by kernel_rfl) (by kernel_rfl) (fun _ _ _ h => h) (takes_row 27 (.tmp 3) rfl (by rfl) (w.heap.size) rfl 27 (u8s xs) _ (fun w4 h => HXM.out.below h HXM.out.lt) Tryd.underlying27 rfl (by rw [HLX.out]; exact oid_info)) (Below.refl _ _) ?_
        try simp only [Act.put, List.getElem_toArray, List.getElem_cons_zero, List.getElem_cons_succ, List.setIfInBounds_toArray, List.set_cons_zero, List.set_cons_succ]
        refine wpAnyH_take (i := 4) rfl (by kernel_rfl) (by kernel_rfl) (by kernel_rfl) (fun _ _ _ h => h) (takes_row 27 (.tmp 4) rfl (by rfl) (w.heap.size + 1) rfl 27 (u8s ys) _ (fun w4 h => HYM.out.below h HYM.out.lt) Tryd.underlying27 rfl (by rw [HLY.out]; exact oid_info)) (Below.refl _ _) ?_
        try simp only [Act.put, List.getElem_toArray, List.getElem_cons_zero, List.getElem_cons_succ, List.setIfInBounds_toArray, List.set_cons_zero, List.set_cons_succ]
        refine all_one (i := 2) (by kernel_rfl) rfl (by rfl) (fun K hK => ?_)
        go_simp
        refine (less_any xs ys _ HHX.out HHY.out hb hb').mono ?_
        rintro e wd ⟨rfl, hbd⟩
        dsimp only
        refine hK _ _ (hbd) ?_; clear hK K
        try simp only [Act.put, List.getElem_toArray, List.getElem_cons_zero, List.getElem_cons_succ, List.setIfInBounds_toArray, List.set_cons_zero, List.set_cons_succ]
        refine all_one (i := 5) (by kernel_rfl) rfl (by rfl) (fun K hK => ?_)
        go_simp
        refine (rless_any xs ys _ HHX.out HHY.out hb hb').mono ?_
        rintro e we ⟨rfl, hbe⟩
        have hbe := hbd.trans (hbe.mono hbd.size)
        dsimp only
        refine hK _ _ (hbe) ?_; clear hK K
        try simp only [Act.put, List.getElem_toArray, List.getElem_cons_zero, List.getElem_cons_succ, List.setIfInBounds_toArray, List.set_cons_zero, List.set_cons_succ]
        have HBE := Lib.hid hbe
        clear hbd hbe
        refine wpAnyH_take (i := 6) (v := ?_) rfl (by kernel_rfl) (by kernel_rfl) (by kernel_rfl) (fun _ _ _ h => h) (Or.inl ⟨by rfl, ?_⟩) (HBE.out) ?_
        rotate_left
        · intro w _; go_simp; with_reducible rfl
        try simp only [Act.put, List.getElem_toArray, List.getElem_cons_zero, List.getElem_cons_succ, List.setIfInBounds_toArray, List.set_cons_zero, List.set_cons_succ]
        refine wpAnyH_take (i := 7) (v := ?_) rfl (by kernel_rfl) (by kernel_rfl) (by kernel_rfl) (fun _ _ _ h => h) (Or.inl ⟨by rfl, ?_⟩) (HBE.out) ?_
        rotate_left
        · intro w _; go_simp; with_reducible rfl
        try simp only [Act.put, List.getElem_toArray, List.getElem_cons_zero, List.getElem_cons_succ, List.setIfInBounds_toArray, List.set_cons_zero, List.set_cons_succ]
        refine wpAnyH_take (i := 8) rfl (by kernel_rfl) (by kernel_rfl) (by kernel_rfl) (fun _ _ _ h => h) (takes_row 27 (.tmp 3) rfl (by rfl) (w.heap.size) rfl 27 (u8s xs) _ (fun w4 h => HXM.out.below h HXM.out.lt) Tryd.underlying27 rfl (by rw [HLX.out]; exact oid_info)) (HBE.out) ?_
        try simp only [Act.put, List.getElem_toArray, List.getElem_cons_zero, List.getElem_cons_succ, List.setIfInBounds_toArray, List.set_cons_zero, List.set_cons_succ]
        refine wpAnyH_take (i := 10) (v := ?_) rfl (by kernel_rfl) (by kernel_rfl) (by kernel_rfl) (fun _ _ _ h => h) (Or.inl ⟨by rfl, ?_⟩) (HBE.out) ?_
        rotate_left
        · intro w _; go_simp; with_reducible rfl
        try simp only [Act.put, List.getElem_toArray, List.getElem_cons_zero, List.getElem_cons_succ, List.setIfInBounds_toArray, List.set_cons_zero, List.set_cons_succ]
        refine all_one (i := 9) (by kernel_rfl) rfl (by rfl) (fun K hK => ?_)
        go_simp
        refine (short_any xs _ HHX.out hb).mono ?_
        rintro e wf ⟨rfl, hbf⟩
        have hbf := HBE.out.trans (hbf.mono HBE.out.size)
        dsimp only
        refine hK _ _ (hbf) ?_; clear hK K
        try simp only [Act.put, List.getElem_toArray, List.getElem_cons_zero, List.getElem_cons_succ, List.setIfInBounds_toArray, List.set_cons_zero, List.set_cons_succ]
        have HBF := Lib.hid hbf
        clear hbf
        rw [← HSH.out]
        refine wpAnyH_take (i := 11) (v := ?_) rfl (by kernel_rfl) (by kernel_rfl) (by kernel_rfl) (fun _ _ _ h => h) (Or.inl ⟨by rfl, ?_⟩) (HBF.out) ?_
        rotate_left
        · intro w _; go_simp; with_reducible rfl
        try simp only [Act.put, List.getElem_toArray, List.getElem_cons_zero, List.getElem_cons_succ, List.setIfInBounds_toArray, List.set_cons_zero, List.set_cons_succ]
        refine wpAnyH_take (i := 12) (v := ?_) rfl (by kernel_rfl) (by kernel_rfl) (by kernel_rfl) (fun _ _ _ h => h) (Or.inl ⟨by rfl, ?_⟩) (HBF.out) ?_
        rotate_left
        · intro w _; go_simp; with_reducible rfl
        try simp only [Act.put, List.getElem_toArray, List.getElem_cons_zero, List.getElem_cons_succ, List.setIfInBounds_toArray, List.set_cons_zero, List.set_cons_succ]
        refine wpAnyH_take (i := 13) (v := ?_) rfl (by kernel_rfl) (by kernel_rfl) (by kernel_rfl) (fun _ _ _ h => h) (Or.inl ⟨by rfl, ?_⟩) (HBF.out) ?_
        rotate_left
        · intro w _; go_simp; with_reducible rfl
        try simp only [Act.put, List.getElem_toArray, List.getElem_cons_zero, List.getElem_cons_succ, List.setIfInBounds_toArray, List.set_cons_zero, List.set_cons_succ]
        refine wpAnyH_done (by kernel_rfl) ?_ _
        go_wp2_with fail
        go_ret
        exact ⟨rfl, HBM.out.trans (HBF.out.mono HBM.out.size)⟩
end Go.Proofs.YtmfdahigfnhidaaDoor.lawTexts
