/- Two lists of bytes compared: are they the same? -/
import Derived.Test.YtdokojlgcplefaaDoorMHv8s
import Derived.Test.YtdokojlgcplefaaDoorMHv5
namespace Go.Proofs.YtdokojlgcplefaaDoor
open Go Go.RowKit
def sameLL (ls ks : List (List Nat)) : Bool := decide (ls = ks)
def SlPost (w : World) (b : Bool) (e : Ending) (w' : World) : Prop := e = .returned (.bool b) ∧ ∃ m, w' = w.drewN m
theorem sameLL_of {ls ks : List (List Nat)} (hl : ls.length = ks.length) (h : ∀ j, j < ls.length → ls.getD j [] = ks.getD j []) : ls = ks := by
 refine List.ext_getElem hl fun i h1 h2 => ?_
 have := h i h1
 rwa [List.getD_eq_getElem?_getD, List.getD_eq_getElem?_getD, List.getElem?_eq_getElem h1, List.getElem?_eq_getElem h2] at this
theorem byte_getD {ls : List (List Nat)} (h : ∀ l ∈ ls, Sha.Byte l) (i : Nat) : Sha.Byte (ls.getD i []) := by
 rw [List.getD_eq_getElem?_getD]
 cases hg : ls[i]? with
 | none => exact fun j => by simp
 | some y => exact h y (List.mem_of_getElem? hg)
set_option maxRecDepth 100000 in
set_option maxHeartbeats 1000000 in
theorem sameLists_all (u v : Value) (us vs : List Value) (ls ks : List (List Nat)) (w : World) (h1 : RdLL w u us ls) (h2 : RdLL w v vs ks) (hb1 : ∀ l ∈ ls, Sha.Byte l) (hb2 : ∀ l ∈ ks, Sha.Byte l) (hn : ls.length ≤ 100000) (_hn2 : ks.length ≤ 100000) :
  Calls Tryd.prog 13 #[u, v] w (SlPost w (sameLL ls ks)) := by
 by_cases hlen : ls.length = ks.length
 ·obtain ⟨n, hnl⟩ : ∃ n, n = ls.length := ⟨_, rfl⟩
  obtain ⟨A1, c1, rfl, hc1, hl1, hA1, he1⟩ := h1
  obtain ⟨A2, c2, rfl, hc2, hl2, hA2, he2⟩ := h2
  have HLEN := Lib.hid hlen
  have HNL := Lib.hid hnl
  rw [← hlen] at hc2 hl2 hA2 ⊢
  rw [← hnl] at hc1 hl1 hA1 hc2 hl2 hA2 hn ⊢
  have HA1 := Lib.hid hA1
  have HA2 := Lib.hid hA2
  have HE1 := Lib.hid he1
  have HE2 := Lib.hid he2
  have HL1 := Lib.hid hl1
  have HL2 := Lib.hid hl2
  have HB1 := Lib.hid (byte_getD hb1)
  have HB2 := Lib.hid (byte_getD hb2)
  obtain ⟨R, hR⟩ : ∃ R, R = sameLL ls ks := ⟨_, rfl⟩
  rw [← hR]
  have HR := Lib.hid hR
  have HJ0 : Hid (∀ j, j < 0 → ls.getD j [] = ks.getD j []) := Lib.hid (fun j h => absurd h (by omega))
  clear hA1 hA2 he1 he2 hl1 hl2 hnl hlen hb1 hb2 hR _hn2
  go_enter Tryd.func13, Tryd.ntmps13
  go_wp2_with fail
  go_loopw [13] (fun j wr => ∃ k : Nat, k ≤ n ∧ j = .int .i64 k ∧ (∃ m, wr = w.drewN m) ∧ Hid (∀ j, j < k → ls.getD j [] = ks.getD j [])) (fun j _ => n - (intOf j).toNat)
  case atStart => exact ⟨0, Nat.zero_le _, rfl, ⟨0, rfl⟩, HJ0⟩
  case round =>
   obtain ⟨k, hk, rfl, ⟨m, rfl⟩, HJ⟩ := hrel
   by_cases hlt : k < n
   ·have i0 : ((k : Nat) : Int) < (n : Int) := by omega
    have i1 : (0 : Int) ≤ ((k : Nat) : Int) := by omega
    obtain ⟨b1, o1, rfl, hb1, hx1⟩ := HA1.out (by omega)
    obtain ⟨b2, o2, rfl, hb2, hx2⟩ := HA2.out (by omega)
    obtain ⟨u1, hu1⟩ : ∃ u, us[k]? = some u := ⟨us[k]'(by rw [HL1.out]; exact hlt), List.getElem?_eq_getElem _⟩
    obtain ⟨u2, hu2⟩ : ∃ u, vs[k]? = some u := ⟨vs[k]'(by rw [HL2.out]; exact hlt), List.getElem?_eq_getElem _⟩
    obtain ⟨wo, hwo⟩ : ∃ wo, wo = w.drewN m := ⟨_, rfl⟩
    have p1 : wo.cell? ⟨b1, o1 + k, none⟩ = some u1 := by rw [hwo]; exact hx1 k u1 hu1
    have p2 : wo.cell? ⟨b2, o2 + k, none⟩ = some u2 := by rw [hwo]; exact hx2 k u2 hu2
    have r1 := HE1.out k u1 hu1
    have r2 := HE2.out k u2 hu2
    obtain ⟨T, hT⟩ : ∃ T, T = textOf (ls.getD k []) := ⟨_, rfl⟩
    obtain ⟨T2, hT2⟩ : ∃ T, T = textOf (ks.getD k []) := ⟨_, rfl⟩
    have q1 : ∀ q, (convert 39 9 u1).run Tryd.prog (wo.drewN q) = .ok (.string T) (wo.drewN q) := fun q => by rw [hT, hwo]; exact conv_rd (w := (w.drewN m).drewN q) r1
    have q2 : ∀ q, (convert 39 9 u2).run Tryd.prog (wo.drewN q) = .ok (.string T2) (wo.drewN q) := fun q => by rw [hT2, hwo]; exact conv_rd (w := (w.drewN m).drewN q) r2
    have HLT := Lib.hid hlt
    have HWO : Hid (∀ q, ∃ m', wo.drewN q = w.drewN m') := Lib.hid (fun q => ⟨m + q, by rw [hwo]; simp⟩)
    have hTT : (T.toList == T2.toList) = (ls.getD k [] == ks.getD k []) := by rw [hT, hT2]; exact textOf_beq (HB1.out k) (HB2.out k)
    clear hx1 hx2 r1 r2 hT hT2 hu1 hu2 hlt hk hb1 hb2
    rw [← hwo]
    clear hwo
    cases hq : (ls.getD k [] == ks.getD k []) with
    | true =>
     have hT3 : (T.toList == T2.toList) = true := hTT.trans hq
     have HJ1 : Hid (∀ j, j < k + 1 → ls.getD j [] = ks.getD j []) := Lib.hid (fun j hj => by
      rcases Nat.lt_or_ge j k with h | h
      ·exact HJ.out j h
      ·obtain rfl : j = k := by omega
       simpa using hq)
     clear hTT hq
     go_wp2_with fail
     go_quiet (fail)
     go_wp2_with fail
     refine ⟨⟨k + 1, HLT.out, by simp, HWO.out _, HJ1⟩, by have := HLT.out; simp [intOf]; omega⟩
    | false =>
     have hT3 : (T.toList == T2.toList) = false := hTT.trans hq
     have HF : Hid (R = false) := Lib.hid (by
      rw [HR.out]
      exact decide_eq_false (fun e => by rw [e] at hq; simp at hq))
     clear hTT hq
     go_wp2_with fail
     go_quiet (fail)
     go_wp2_with fail
     go_ret
     rw [HF.out]
     exact ⟨rfl, HWO.out _⟩
   ·obtain rfl : k = n := by omega
    have i0 : ¬ ((k : Nat) : Int) < (k : Int) := by omega
    have HF : Hid (R = true) := Lib.hid (by
     rw [HR.out]
     exact decide_eq_true (sameLL_of HLEN.out (fun j hj => HJ.out j (by rw [HNL.out]; exact hj))))
    clear hk hlt
    go_wp2_with fail
    go_ret
    rw [HF.out]
    exact ⟨rfl, _, rfl⟩
 ·have b0 : ((ls.length : Int) == (ks.length : Int)) = false := by simp; omega
  have b1 : (ls.length == ks.length) = false := by simp; omega
  have b2 : ((ls.length : Int) != (ks.length : Int)) = true := by simp; omega
  obtain ⟨A1, c1, rfl, hc1, hl1, hA1, he1⟩ := h1
  obtain ⟨A2, c2, rfl, hc2, hl2, hA2, he2⟩ := h2
  have HF : Hid (sameLL ls ks = false) := Lib.hid (decide_eq_false (fun e => hlen (by rw [e])))
  obtain ⟨R, hR⟩ : ∃ R, R = sameLL ls ks := ⟨_, rfl⟩
  rw [← hR] at HF ⊢
  generalize ls.length = x1 at b0 b1 b2 hn ⊢
  generalize ks.length = x2 at b0 b1 b2 _hn2 ⊢
  clear hA1 hA2 he1 he2 hl1 hl2 hlen hb1 hb2 hR hc1 hc2
  go_enter Tryd.func13, Tryd.ntmps13
  go_wp2_with fail
  go_ret
  rw [HF.out]
  exact ⟨rfl, 0, rfl⟩
end Go.Proofs.YtdokojlgcplefaaDoor
