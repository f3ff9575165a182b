/- The law DiskKeeps: each sector behind a crash is as it was safe, or as one of the writes that were pending made it. -/
import Derived.Test.YtpmadlkkldbceaaDoorDisk18
namespace Go.Proofs.YtpmadlkkldbceaaDoor
open Go Go.RowKit
theorem bool_info : (Tryd.prog.info? 4).map (fun i => (i.zero, i.size, i.bytes)) = some (some (.bool false), 1, 1) := by kernel_rfl
theorem make_bools (n : Nat) (hn : n ≤ 1000) (w : World) : (Instr.makeSlice 33 (.int .i64 (n : Int)) (.int .i64 (n : Int))).run Tryd.prog w = .ok (.slice (some ⟨w.heap.size, 0, none⟩) n n) (w.alloc (.cells (bools (List.replicate n false)) 4)) := by
  have h := run_makeOne (P := Tryd.prog) Tryd.underlying33 bool_info rfl n (by omega) (by omega) (x := n) rfl w
  rw [h, show (List.replicate n (Value.bool false)).toArray = bools (List.replicate n false) by simp [bools]]
set_option maxRecDepth 100000 in
theorem keeps_big (A : Option Addr) (n c : Nat) (kv : Value) (a : Nat → Addr) (w : World) (hS : Sents w a) (h : 60 < n) :
    Calls Tryd.prog 4 #[.slice A n c, kv] w fun e w' => e = .returned (.bool true) ∧ Below w.heap.size w w' := by
  have CA := alive_any a w hS
  have i1 : (60 : Int) < (n : Int) := by omega
  clear hS
  go_enter Tryd.func4, Tryd.ntmps4
  go_wp2_with (go_at_call 6; refine CA.mono ?_; rintro e w1 ⟨rfl, hb⟩; have HB := Lib.hid hb; clear hb)
  go_ret
  exact ⟨rfl, HB.out⟩
set_option maxRecDepth 100000 in
set_option maxHeartbeats 1000000 in
theorem keeps_law (A : Option Addr) (n c b o : Nat) (K : Option Addr) (kc : Nat) (ts : List Bool) (xs : List ActD) (a : Nat → Addr) (w : World) (hS : Sents w a) (hA : 0 < n → A = some ⟨b, o, none⟩) (hn : xs.length = n) (hx : ARow w b o xs) (hk : RdT w K ts) :
    Calls Tryd.prog 4 #[.slice A n c, .slice K ts.length kc] w fun e w' => e = .returned (.bool true) ∧ Below w.heap.size w w' := by
  by_cases h60 : 60 < n
  · exact keeps_big A n c _ a w hS h60
  have CA := alive_any a w hS
  have i1 : ¬ (60 : Int) < (n : Int) := by omega
  have HS := Lib.hid hS
  have HA := Lib.hid hA
  have HN := Lib.hid hn
  have HX := Lib.hid hx
  have HK := Lib.hid hk
  have H60 := Lib.hid h60
  clear hS hA hn hx hk h60
  go_enter Tryd.func4, Tryd.ntmps4
  go_wp2_with (first
    | (go_at_call 6; refine CA.mono ?_; rintro e w1 ⟨rfl, hb⟩; have HB1 := Lib.hid hb; clear hb)
    | (go_at_call 7; refine (dk_new 5 w1 (by omega) (by omega)).mono ?_; rintro e w2 ⟨d, ms, ml, rfl, hd, hb⟩
       have HD2 := Lib.hid hd
       have HB2 := Lib.hid (HB1.out.trans (hb.mono HB1.out.size))
       clear hd hb))
  refine keep1_any _ _ _ _ _ _ _ _ _ _ _ _ _ _ _ _ _ _ _ _ _ _ _ _ _ _ _ _ _ _ _ _ _ _ _ _ _ _ _ _ _ _ _ _ _ _ _ _ _ _ _ _ _ _ _ _ _ _ _ _ _ _ _ _ _ _ _ _ _ _ _ _ _ _ _ _ _ _ _ _ _ _ _ _ _ _ _ _ _ _ _ _ _ _ _ _ _ _ _ _ _ _ _ _ _ _ _ _ _ _ _ _ _ _ _ _ _ _ _ _ _ _ _ _ _ _ _ _ _ _ _ _ _ _ _ _ _ _ _ _ _ _ _ _ _ _ _ _ _ _ _ _ _ _ _ _ _ _ _ _ _ _ _ _ _ _ _ _ _ _ _ _ _ _ _ _ _ A n c b o d w1.heap.size ms ml _ xs a w w2 _ HA.out HN.out HX.out (by have := H60.out; omega) HS.out HB2.out HB1.out.size HD2.out ?_
  intro x8 x39 x40 x41 x42 x43 x44 x45 x46 x47 x48 x49 x50 x51 x52 x53 x54 x55 x56 x57 x58 x59 x60 w3 hd3 hb3
  obtain ⟨v3, hd3⟩ := hd3
  have HD3 := Lib.hid hd3
  have HB3 := Lib.hid hb3
  have HKI := Lib.hid (Dk.kst_in xs n)
  have HFEW : Hid ((Dk.kst xs n).pend.length ≤ 60) := Lib.hid (by have := hd3.few; have := H60.out; omega)
  generalize Dk.kst xs n = S at HD3 HKI HFEW
  clear hd3 hb3
  go_wp2_with fail
  go_at_call 20
  refine (dk_copy w3 HD3.out).mono ?_
  rintro e w4 ⟨ca, m2, l2', v2, rfl, hc, hb⟩
  have HC4 := Lib.hid hc
  have HD4 := Lib.hid (HD3.out.below hb)
  have HB4 := Lib.hid (HB3.out.trans (hb.mono HB3.out.size))
  have HLT4 : Hid (∀ b, (b = d ∨ b = ms ∨ b = ml ∨ v3.ownBlock = some b) → b < w3.heap.size) := Lib.hid fun b hb => (HD3.out.lts b hb).2
  have hmb := make_bools S.pend.length (by have := HFEW.out; omega)
  have HBN : Hid (Blk (w4.alloc (.cells (bools (List.replicate S.pend.length false)) 4)) w4.heap.size 4 (bools (List.replicate S.pend.length false))) := Lib.hid (Blk.new w4 _ _)
  clear hc hb
  go_wp2_with (go_at_call 22; refine (dk_pending w4 HD4.out).mono ?_; rintro e w5 ⟨rfl, rfl⟩)
  refine keep2_any _ _ _ _ _ _ _ _ _ _ _ _ _ _ _ _ _ _ _ _ _ _ _ _ _ _ _ _ _ _ _ _ _ _ _ _ _ _ _ _ _ _ _ _ _ _ _ _ _ _ _ _ _ _ _ _ _ _ _ _ _ _ _ _ _ _ _ _ _ _ _ _ _ _ _ _ _ _ _ _ _ _ _ _ _ _ _ _ _ _ _ _ _ _ _ _ _ _ _ _ _ _ _ _ _ _ _ _ _ _ _ _ _ _ _ _ _ _ _ _ _ _ _ _ _ _ _ _ _ _ _ _ _ _ _ _ _ _ _ _ _ _ _ _ _ _ _ _ _ _ _ _ _ _ _ _ _ _ _ _ _ _ _ _ _ _ _ _ _ _ _ _ _ _ _ _ _ _ w4.heap.size S.pend.length (w4.alloc (.cells (bools (List.replicate S.pend.length false)) 4)) _ (by have := HFEW.out; omega) HBN.out ?_
  intro y11 y69 y70 y71 y72 y73 y74 w5 hk5 hg5
  have HK5 := Lib.hid hk5
  have HB45 : Hid (Below w4.heap.size w4 w5) := Lib.hid (below_of_only ((Below.refl _ w4).alloc (Nat.le_refl _) _) hg5 (Nat.le_refl _))
  have HC5 := Lib.hid (HC4.out.below HB45.out)
  have HD5 := Lib.hid (HD4.out.below HB45.out)
  have HB5 := Lib.hid (HB4.out.trans (HB45.out.mono HB4.out.size))
  clear hk5 hg5
  go_wp2_with fail
  go_at_call 18
  refine (dk_crash (some ⟨w4.heap.size, 0, none⟩) S.pend.length S.pend.length (List.replicate S.pend.length true) w5 HC5.out (by simp) (fun _ => ⟨w4.heap.size, 0, rfl, HK5.out.lt, fun j t ht => ?_⟩) (by have := H60.out; omega)).mono ?_
  · rw [Nat.zero_add, HK5.out.cell j, bools_get (List.getElem?_eq_some_iff.1 ht).1, List.getD_eq_getElem?_getD, ht]
    rfl
  rintro e w6 ⟨rfl, ⟨v6, hc⟩, hf⟩
  rw [Dk.keptTo_all] at hc ⊢
  have HC6 := Lib.hid hc
  have HCF := Lib.hid (hf (.slice none 0 0))
  have HD6 : Hid (DkAt w1.heap.size w6 d S ms ml v3 n) := Lib.hid (HD5.out.stands fun b hb => by
    have l1 := HLT4.out b hb
    have l2 := HC5.out.lts
    have l3 := (HD5.out.lts b hb).2
    have a1 := (l2 ca (Or.inl rfl)).1
    have a2 := (l2 m2 (Or.inr (Or.inl rfl))).1
    have a3 := (l2 l2' (Or.inr (Or.inr (Or.inl rfl)))).1
    exact HCF.out.block b l3 (by omega) (by omega) (by omega) (by simp [Value.ownBlock]))
  have HB6 : Hid (Below w.heap.size w w6) := Lib.hid (HC5.out.run (w0 := w) HB3.out.size HB5.out (hf _))
  clear hc hf
  go_wp2_with fail
  go_at_call 20
  refine (dk_copy w6 HD6.out).mono ?_
  rintro e w7 ⟨cw, m3, l3, v7, rfl, hc, hb⟩
  have HW7 := Lib.hid hc
  have HD7 := Lib.hid (HD6.out.below hb)
  have HC7 := Lib.hid (HC6.out.below hb)
  have HB7 := Lib.hid (HB6.out.trans (hb.mono HB6.out.size))
  have HLT7 : Hid (∀ b, (b = d ∨ b = ms ∨ b = ml ∨ v3.ownBlock = some b) → b < w6.heap.size) := Lib.hid fun b hb => (HD6.out.lts b hb).2
  clear hc hb
  go_wp2_with fail
  go_at_call 18
  refine (dk_crash K ts.length kc ts w7 HD7.out rfl (rdT_below HK.out HB7.out (Nat.le_refl _)) (by have := H60.out; omega)).mono ?_
  rintro e w8 ⟨rfl, ⟨v8, hd⟩, hf⟩
  have HD8 := Lib.hid hd
  have HDF := Lib.hid (hf (.slice none 0 0))
  have HC8 : Hid (DkAt w3.heap.size w8 ca (Dk.crashed S S.pend) m2 l2' v6 n) := Lib.hid (HC7.out.stands fun b hb => by
    have l1 := HC7.out.lts b hb
    have a1 := HLT4.out d (Or.inl rfl)
    have a2 := HLT4.out ms (Or.inr (Or.inl rfl))
    have a3 := HLT4.out ml (Or.inr (Or.inr (Or.inl rfl)))
    exact HDF.out.block b l1.2 (by omega) (by omega) (by omega) (by simp [Value.ownBlock]))
  have HW8 : Hid (DkAt w6.heap.size w8 cw S m3 l3 v7 n) := Lib.hid (HW7.out.stands fun b hb => by
    have l1 := HW7.out.lts b hb
    have a1 := HLT7.out d (Or.inl rfl)
    have a2 := HLT7.out ms (Or.inr (Or.inl rfl))
    have a3 := HLT7.out ml (Or.inr (Or.inr (Or.inl rfl)))
    exact HDF.out.block b l1.2 (by omega) (by omega) (by omega) (by simp [Value.ownBlock]))
  have HB8 : Hid (Below w.heap.size w w8) := Lib.hid (HD7.out.run (w0 := w) HB1.out.size HB7.out (hf _))
  clear hd hf
  go_wp2_with fail
  refine keep3_any _ _ _ _ _ _ _ _ _ _ _ _ _ _ _ _ _ _ _ _ _ _ _ _ _ _ _ _ _ _ _ _ _ _ _ _ _ _ _ _ _ _ _ _ _ _ _ _ _ _ _ _ _ _ _ _ _ _ _ _ _ _ _ _ _ _ _ _ _ _ _ _ _ _ _ _ _ _ _ _ _ _ _ _ _ _ _ _ _ _ _ _ _ _ _ _ _ _ _ _ _ _ _ _ _ _ _ _ _ _ _ _ _ _ _ _ _ _ _ _ _ _ _ _ _ _ _ _ _ _ _ _ _ _ _ _ _ _ _ _ _ _ _ _ _ _ _ _ _ _ _ _ _ _ _ _ _ _ _ _ _ _ _ _ _ _ _ _ _ _ _ _ _ _ _ _ A n c b o d ca cw _ _ _ _ _ _ _ _ _ _ _ _ _ _ _ xs S ts w8 _ HA.out HN.out (HX.out.below HB8.out (Nat.le_refl _)) (by have := H60.out; omega) HKI.out HD8.out HC8.out HW8.out (fun ch a dst v w h => by cases dst <;> exact h) ?_
  intro z4 z13 z14 z15 z16 z17 z18 z19 z20 z21 z22 z24 z87 z88 z89 z90 z91 z92 z93 z94 z95 z96 z97 z98 z99 z100 z101 z102 z103 z104 z105 z106 z107 z108 z109 z110 z111 z112 z113 z114 z115 z116 z117 z118 z119 z120 z121 z122 z123 z124 z125 z126 z127 z128 z129 z130 z131 z132 z133 z134 z135 z136 z137 z138 z139 z140 z141 z142 z143 z144 z145 z146 z147 z148 z149 z150 z151 z152 z153 z154 z155 z156 z157 z158 z159 z160 z161 z162 z163 z164 z165 z166 z167 z168 z169 z170 z171 z172 w9 hb9
  have HD9 := Lib.hid (HD8.out.below hb9)
  have HB9 := Lib.hid (HB8.out.trans (hb9.mono HB8.out.size))
  obtain ⟨⟨_, _, _, hDD, _, _⟩, _, _⟩ := HD9.out
  have p2 : w9.cell? ⟨d, 2, none⟩ = some v8 := hDD.blk.cell 2
  have p4 : w9.cell? ⟨d, 4, none⟩ = some (.bool false) := hDD.blk.cell 4
  obtain ⟨A9, c9', ev9⟩ := row_slice hDD.row
  rw [ev9] at p2
  have p2' : w9.cell? ⟨d, 2, none⟩ = some (.slice A9 0 c9') := p2
  clear hb9 hDD ev9 p2
  go_wp2
  go_ret
  exact ⟨rfl, HB9.out⟩
end Go.Proofs.YtpmadlkkldbceaaDoor
