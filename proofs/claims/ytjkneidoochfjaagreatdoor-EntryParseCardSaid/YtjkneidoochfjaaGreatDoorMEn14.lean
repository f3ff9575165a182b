/- An entry's shape: entry.shape. -/
import Derived.Test.YtjkneidoochfjaaGreatDoorMEn11s
namespace Go.Proofs.YtjkneidoochfjaaGreatDoor
open Go Go.RowKit
theorem rep_size (l : List UInt8) (n : Nat) : (⟨(Lib.repeatL l n).toArray⟩ : ByteArray).size = n * l.length := by
  show (Lib.repeatL l n).toArray.size = _
  rw [List.size_toArray, Lib.repeatL_length]
def En.shape (nu no : Nat) : ByteArray := ⟨(En.shapeL nu no).toArray⟩
theorem shape_size (nu no : Nat) : (En.shape nu no).size = 5 + nu * 3 + no := by
  show (En.shapeL nu no).toArray.size = _
  rw [List.size_toArray]
  unfold En.shapeL
  simp only [List.length_append, List.length_cons, Lib.repeatL_length, List.length_nil]
  omega
theorem ba_size (a b : ByteArray) : (a ++ b).size = a.size + b.size := by simp
theorem shape_eq (nu no : Nat) (T1 T2 B1 B2 : ByteArray) (h1 : T1 = ⟨(Lib.repeatL [116, 111, 111] nu).toArray⟩) (h2 : T2 = ⟨(Lib.repeatL [116] no).toArray⟩) (h3 : B1 = { data := #[98] } ++ T1) (h4 : B2 = { data := #[98] } ++ T2) : ({ data := #[98, 113, 98] } ++ B1) ++ B2 = En.shape nu no := by
  subst h3 h4 h1 h2
  apply ByteArray.ext
  apply Array.ext'
  simp [En.shape, En.shapeL]
set_option maxRecDepth 100000 in
set_option maxHeartbeats 2000000 in
theorem shape_any (e : En.E) (ca : Array Value) (U O : Option Addr) (cu co : Nat) (ts : List En.Bt) (w : World) (h : EnC w e ca U cu O co ts) (hu : e.ups.length ≤ 8) (ho : e.objs.length ≤ 64) :
    Calls Tryz.prog 45 #[.agg ca] w fun r w' => r = .returned (.string (En.shape e.ups.length e.objs.length)) ∧ Below w.heap.size w w' := by
  obtain ⟨w1, hw1⟩ : ∃ w1, w1 = w.alloc (.cells ca 25) := ⟨_, rfl⟩
  have hb : EnB w w1 e ca U cu O co ts := hw1 ▸ EnB.of h
  have p3 := hb.c3
  have HB := Lib.hid hb
  have e1 := hw1.symm
  obtain ⟨nu, hnu⟩ : ∃ n, n = e.ups.length := ⟨_, rfl⟩
  obtain ⟨no, hno⟩ : ∃ n, n = e.objs.length := ⟨_, rfl⟩
  rw [← hnu] at p3 hu ⊢
  rw [← hno] at ho ⊢
  have HNO := Lib.hid hno
  have HU := Lib.hid hu
  have HO := Lib.hid ho
  have C1 := Tryz.strings_Repeat { data := #[116, 111, 111] } nu w1 (by omega) (by show 3 * nu ≤ _; omega)
  clear h hb hw1 hnu hno hu ho
  go_enter Tryz.func45, Tryz.ntmps45
  go_wp2_with (go_at_call 72; refine pause ?_)
  unfold Paused
  refine C1.mono ?_
  rintro r w2 ⟨rfl, hb2⟩
  obtain ⟨T1, hT1⟩ : ∃ T : ByteArray, T = ⟨(Lib.repeatL ({ data := #[116, 111, 111] } : ByteArray).data.toList nu).toArray⟩ := ⟨_, rfl⟩
  rw [← hT1]
  have z1 : (T1.size : Int) ≤ 100 := by rw [hT1, rep_size]; show ((nu * 3 : Nat) : Int) ≤ 100; have := HU.out; omega
  have HT1 := Lib.hid hT1
  have HB2 := Lib.hid (HB.out.below hb2)
  have p4 := HB2.out.c4
  rw [← HNO.out] at p4
  have C2 := Tryz.strings_Repeat { data := #[116] } no w2 (by have := HO.out; omega) (by have := HO.out; show 1 * no ≤ _; omega)
  clear hb2 C1 p3 hT1
  have q1 : (Op.stringOp .add { data := #[98] } T1).run Tryz.prog w2 = .ok (.string ({ data := #[98] } ++ T1)) w2 := run_string_add_sum w2 _ _ (by show 1 + T1.size ≤ _; omega)
  go_wp2_with (go_at_call 72; refine pause ?_)
  unfold Paused
  refine C2.mono ?_
  rintro r w3 ⟨rfl, hb3⟩
  obtain ⟨T2, hT2⟩ : ∃ T : ByteArray, T = ⟨(Lib.repeatL ({ data := #[116] } : ByteArray).data.toList no).toArray⟩ := ⟨_, rfl⟩
  rw [← hT2]
  have z2 : (T2.size : Int) ≤ 100 := by rw [hT2, rep_size]; show ((no * 1 : Nat) : Int) ≤ 100; have := HO.out; omega
  have HT2 := Lib.hid hT2
  have HB3 := Lib.hid (HB2.out.below hb3)
  clear hb3 C2 p4 hT2 q1
  obtain ⟨B1, hB1⟩ : ∃ B : ByteArray, B = { data := #[98] } ++ T1 := ⟨_, rfl⟩
  rw [← hB1]
  obtain ⟨B2, hB2⟩ : ∃ B : ByteArray, B = { data := #[98] } ++ T2 := ⟨_, rfl⟩
  have y1 : B1.size ≤ 101 := by rw [hB1, ba_size]; show 1 + T1.size ≤ _; omega
  have y2 : B2.size ≤ 101 := by rw [hB2, ba_size]; show 1 + T2.size ≤ _; omega
  have q2 : (Op.stringOp .add { data := #[98] } T2).run Tryz.prog w3 = .ok (.string B2) w3 := by rw [hB2]; exact run_string_add_sum w3 _ _ (by show 1 + T2.size ≤ _; omega)
  have q3 : (Op.stringOp .add { data := #[98, 113, 98] } B1).run Tryz.prog w3 = .ok (.string ({ data := #[98, 113, 98] } ++ B1)) w3 := run_string_add_sum w3 _ _ (by show 3 + B1.size ≤ _; omega)
  have q4 : (Op.stringOp .add ({ data := #[98, 113, 98] } ++ B1) B2).run Tryz.prog w3 = .ok (.string (({ data := #[98, 113, 98] } ++ B1) ++ B2)) w3 := run_string_add_sum w3 _ _ (by rw [ba_size]; show 3 + B1.size + B2.size ≤ _; omega)
  have HS := Lib.hid (shape_eq nu no T1 T2 B1 B2 HT1.out HT2.out hB1 hB2)
  clear z1 z2 hB1 hB2 y1 y2
  go_wp2
  go_ret
  exact ⟨by rw [← HS.out]; rfl, HB3.out.bel⟩
end Go.Proofs.YtjkneidoochfjaaGreatDoor
