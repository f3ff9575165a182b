/- DiskKeeps' outer loop: each sector. -/
import Derived.Test.YtpmadlkkldbceaaDoorDisk16
namespace Go.Proofs.YtpmadlkkldbceaaDoor
open Go Go.RowKit
theorem textOf_beq {x y : List Nat} (hx : Sha.Byte x) (hy : Sha.Byte y) : ((textOf x).toList == (textOf y).toList) = (x == y) := by
  by_cases h : x = y
  · subst h; simp
  · rw [beq_false_of_ne (textOf_ne_list hx hy h), beq_false_of_ne h]
set_option maxRecDepth 100000 in
set_option maxHeartbeats 1000000 in
theorem keep3_any (c1 c2 c3 c4 c6 c7 c8 c10 c11 c13 c14 c15 c16 c17 c18 c19 c20 c21 c22 c23 c24 c25 c26 c27 c28 c29 c30 c31 c32 c33 c34 c35 c36 c37 c38 c39 c40 c41 c42 c43 c44 c45 c46 c47 c48 c49 c50 c51 c52 c53 c54 c55 c56 c57 c58 c59 c60 c61 c62 c63 c64 c65 c66 c67 c68 c69 c70 c71 c72 c73 c74 c75 c76 c77 c78 c79 c80 c81 c82 c83 c84 c85 c87 c88 c89 c90 c91 c92 c93 c94 c95 c96 c97 c98 c99 c100 c101 c102 c103 c104 c105 c106 c107 c108 c109 c110 c111 c112 c113 c114 c115 c116 c117 c118 c119 c120 c121 c122 c123 c124 c125 c126 c127 c128 c129 c130 c131 c132 c133 c134 c135 c136 c137 c138 c139 c140 c141 c142 c143 c144 c145 c146 c147 c148 c149 c150 c151 c152 c153 c154 c155 c156 c157 c158 c159 c160 c161 c162 c163 c164 c165 c166 c167 c168 c169 c170 c171 c172 c173 c174 c175 c176 c177 c178 c179 c180 : Value) (A : Option Addr) (n c b o d ca cw B1 B2 B3 : Nat) (m1 l1 k1 m2 l2 k2 m3 l3 k3 : Nat) (v1 v2 v3 : Value) (xs : List ActD) (S : Dk.D) (ts : List Bool) (w : World) (Q0 : Exit → Act → World → Prop) (hA : 0 < n → A = some ⟨b, o, none⟩) (hn : xs.length = n) (hx : ARow w b o xs) (h60 : n ≤ 60)
    (hS : Dk.Kin xs S) (hd : DkAt B1 w d (Dk.crashed S (keptTo S.pend ts S.pend.length)) m1 l1 v1 k1) (hca : DkAt B2 w ca (Dk.crashed S S.pend) m2 l2 v2 k2) (hcw : DkAt B3 w cw S m3 l3 v3 k3)
    (hQ : ∀ ch (a : Act) dst v (w : World), Q0 (.panic ch) (Act.put a dst v) w → Q0 (.panic ch) a w)
    (hexit : ∀ (u4 u13 u14 u15 u16 u17 u18 u19 u20 u21 u22 u24 u87 u88 u89 u90 u91 u92 u93 u94 u95 u96 u97 u98 u99 u100 u101 u102 u103 u104 u105 u106 u107 u108 u109 u110 u111 u112 u113 u114 u115 u116 u117 u118 u119 u120 u121 u122 u123 u124 u125 u126 u127 u128 u129 u130 u131 u132 u133 u134 u135 u136 u137 u138 u139 u140 u141 u142 u143 u144 u145 u146 u147 u148 u149 u150 u151 u152 u153 u154 u155 u156 u157 u158 u159 u160 u161 u162 u163 u164 u165 u166 u167 u168 u169 u170 u171 u172 : Value) (w' : World), Below w.heap.size w w' → Q0 (.exit 4) ⟨List.toArray (.slice A n c :: c1 :: c2 :: c3 :: u4 :: .pointer (some ⟨d, 0, none⟩) :: c6 :: c7 :: c8 :: .pointer (some ⟨ca, 0, none⟩) :: c10 :: c11 :: .pointer (some ⟨cw, 0, none⟩) :: u13 :: u14 :: u15 :: u16 :: u17 :: u18 :: u19 :: u20 :: u21 :: u22 :: c23 :: u24 :: c25 :: c26 :: c27 :: c28 :: c29 :: c30 :: c31 :: c32 :: c33 :: c34 :: c35 :: c36 :: c37 :: c38 :: c39 :: c40 :: c41 :: c42 :: c43 :: c44 :: c45 :: c46 :: c47 :: c48 :: c49 :: c50 :: c51 :: c52 :: c53 :: c54 :: c55 :: c56 :: c57 :: c58 :: c59 :: c60 :: c61 :: c62 :: c63 :: c64 :: c65 :: c66 :: c67 :: c68 :: c69 :: c70 :: c71 :: c72 :: c73 :: c74 :: c75 :: c76 :: c77 :: c78 :: c79 :: c80 :: c81 :: c82 :: c83 :: c84 :: c85 :: .int .i64 5 :: u87 :: u88 :: u89 :: u90 :: u91 :: u92 :: u93 :: u94 :: u95 :: u96 :: u97 :: u98 :: u99 :: u100 :: u101 :: u102 :: u103 :: u104 :: u105 :: u106 :: u107 :: u108 :: u109 :: u110 :: u111 :: u112 :: u113 :: u114 :: u115 :: u116 :: u117 :: u118 :: u119 :: u120 :: u121 :: u122 :: u123 :: u124 :: u125 :: u126 :: u127 :: u128 :: u129 :: u130 :: u131 :: u132 :: u133 :: u134 :: u135 :: u136 :: u137 :: u138 :: u139 :: u140 :: u141 :: u142 :: u143 :: u144 :: u145 :: u146 :: u147 :: u148 :: u149 :: u150 :: u151 :: u152 :: u153 :: u154 :: u155 :: u156 :: u157 :: u158 :: u159 :: u160 :: u161 :: u162 :: u163 :: u164 :: u165 :: u166 :: u167 :: u168 :: u169 :: u170 :: u171 :: u172 :: c173 :: c174 :: c175 :: c176 :: c177 :: c178 :: c179 :: c180 :: []), []⟩ w') :
    (Code.loop (keepLoop 2)).wp Tryd.prog Q0 ⟨List.toArray (.slice A n c :: c1 :: c2 :: c3 :: c4 :: .pointer (some ⟨d, 0, none⟩) :: c6 :: c7 :: c8 :: .pointer (some ⟨ca, 0, none⟩) :: c10 :: c11 :: .pointer (some ⟨cw, 0, none⟩) :: c13 :: c14 :: c15 :: c16 :: c17 :: c18 :: c19 :: c20 :: c21 :: c22 :: c23 :: c24 :: c25 :: c26 :: c27 :: c28 :: c29 :: c30 :: c31 :: c32 :: c33 :: c34 :: c35 :: c36 :: c37 :: c38 :: c39 :: c40 :: c41 :: c42 :: c43 :: c44 :: c45 :: c46 :: c47 :: c48 :: c49 :: c50 :: c51 :: c52 :: c53 :: c54 :: c55 :: c56 :: c57 :: c58 :: c59 :: c60 :: c61 :: c62 :: c63 :: c64 :: c65 :: c66 :: c67 :: c68 :: c69 :: c70 :: c71 :: c72 :: c73 :: c74 :: c75 :: c76 :: c77 :: c78 :: c79 :: c80 :: c81 :: c82 :: c83 :: c84 :: c85 :: .int .i64 0 :: c87 :: c88 :: c89 :: c90 :: c91 :: c92 :: c93 :: c94 :: c95 :: c96 :: c97 :: c98 :: c99 :: c100 :: c101 :: c102 :: c103 :: c104 :: c105 :: c106 :: c107 :: c108 :: c109 :: c110 :: c111 :: c112 :: c113 :: c114 :: c115 :: c116 :: c117 :: c118 :: c119 :: c120 :: c121 :: c122 :: c123 :: c124 :: c125 :: c126 :: c127 :: c128 :: c129 :: c130 :: c131 :: c132 :: c133 :: c134 :: c135 :: c136 :: c137 :: c138 :: c139 :: c140 :: c141 :: c142 :: c143 :: c144 :: c145 :: c146 :: c147 :: c148 :: c149 :: c150 :: c151 :: c152 :: c153 :: c154 :: c155 :: c156 :: c157 :: c158 :: c159 :: c160 :: c161 :: c162 :: c163 :: c164 :: c165 :: c166 :: c167 :: c168 :: c169 :: c170 :: c171 :: c172 :: c173 :: c174 :: c175 :: c176 :: c177 :: c178 :: c179 :: c180 :: []), []⟩ w := by
  have HX := Lib.hid hx
  have HA := Lib.hid hA
  have HN := Lib.hid hn
  have HE := Lib.hid hexit
  have HD := Lib.hid hd
  have HCA := Lib.hid hca
  have HCW := Lib.hid hcw
  have HS := Lib.hid hS
  clear hx hA hn hexit hd hca hcw hS
  conv => arg 2; arg 1; whnf
  go_loopw [86] (fun j wr => ∃ k : Nat, k ≤ 5 ∧ j = .int .i64 k ∧ Hid (Below w.heap.size w wr)) (fun j _ => 5 - (intOf j).toNat)
  case atStart => exact ⟨0, Nat.zero_le _, rfl, Lib.hid (Below.refl _ _)⟩
  case round =>
    obtain ⟨i, hi, rfl, HB⟩ := hrel
    by_cases hlt : i < 5
    · have i0 : ((i : Nat) : Int) < 5 := by omega
      have HLT := Lib.hid hlt
      have HD0 := Lib.hid (HD.out.stands (w' := wr) fun b hb => HB.out.block b (HD.out.lts b hb).2)
      have HCA0 := Lib.hid (HCA.out.stands (w' := wr) fun b hb => HB.out.block b (HCA.out.lts b hb).2)
      have HCW0 := Lib.hid (HCW.out.stands (w' := wr) fun b hb => HB.out.block b (HCW.out.lts b hb).2)
      have e1 : Dk.seen (Dk.crashed S (keptTo S.pend ts S.pend.length)) i = (Dk.puts S (keptTo S.pend ts S.pend.length)).safe i := rfl
      have e2 : (Dk.crashed S S.pend).safe i = Dk.seen S i := Dk.all_seen S i
      have E1 := Lib.hid e1
      have E2 := Lib.hid e2
      have q0 := run_neq_ev
      clear e1 e2 hi hlt
      go_wp2_with fail
      go_at_call 23
      refine (dk_safe i wr HCW0.out (by rw [HS.out.size]; exact HLT.out)).mono ?_
      rintro e w1 ⟨g1, rfl, hk, hg, hb⟩
      have HSF := Lib.hid (rd_of_sec hk (HCW0.out.ok.len i))
      have HB1 := Lib.hid hb
      clear hk hg hb
      go_wp2_with fail
      go_at_call 24
      refine (dk_read i w1 (HCW0.out.below HB1.out) HS.out.off (by rw [HS.out.size]; exact HLT.out)).mono ?_
      rintro e w2 ⟨g2, rfl, hk, hg, hb⟩
      have HSN := Lib.hid (rd_of_sec hk (seen_len HCW0.out.ok i))
      have HB2 := Lib.hid hb
      have HB12 := Lib.hid (HB1.out.trans (hb.mono HB1.out.size))
      clear hk hg hb
      go_wp2_with fail
      go_at_call 24
      refine (dk_read i w2 (HD0.out.below HB12.out) rfl (by rw [show (Dk.crashed S (keptTo S.pend ts S.pend.length)).size = S.size from (Dk.puts_keeps S _).2.1, HS.out.size]; exact HLT.out)).mono ?_
      rintro e w3 ⟨g3, rfl, hk, hg, hb⟩
      have HNW0 := Lib.hid (rd_of_sec hk (seen_len HD0.out.ok i))
      have HB3 := Lib.hid hb
      have HB13 := Lib.hid (HB12.out.trans (hb.mono HB12.out.size))
      clear hk hg hb
      go_wp2_with fail
      go_at_call 23
      refine (dk_safe i w3 (HCA0.out.below HB13.out) (by rw [show (Dk.crashed S S.pend).size = S.size from (Dk.puts_keeps S _).2.1, HS.out.size]; exact HLT.out)).mono ?_
      rintro e w4 ⟨g4, rfl, hk, hg, hb⟩
      rw [E2.out] at hk
      have HLA := Lib.hid (rd_of_sec hk (seen_len HCW0.out.ok i))
      have HB4 := Lib.hid hb
      have HB14 := Lib.hid (HB13.out.trans (hb.mono HB13.out.size))
      obtain ⟨T2, hT2⟩ : ∃ T, T = textOf (Dk.seen S i) := ⟨_, rfl⟩
      have c1 : (convert 32 9 (.slice (some ⟨g4, 0, none⟩) 32 32)).run Tryd.prog w4 = .ok (.string T2) w4 := (by rw [hT2]; exact conv_rd HLA.out)
      have c2 : (convert 32 9 (.slice (some ⟨g2, 0, none⟩) 32 32)).run Tryd.prog w4 = .ok (.string T2) w4 := (by rw [hT2]; exact conv_rd ((HSN.out.below HB3.out (Nat.le_refl _)).below HB4.out (Nat.le_refl _)))
      have HNW : Hid (Rd w4 (.slice (some ⟨g3, 0, none⟩) 32 32) ((Dk.puts S (keptTo S.pend ts S.pend.length)).safe i)) := Lib.hid (by rw [← E1.out]; exact HNW0.out.below HB4.out (Nat.le_refl _))
      obtain ⟨now, hnow⟩ : ∃ now, now = (Dk.puts S (keptTo S.pend ts S.pend.length)).safe i := ⟨_, rfl⟩
      rw [← hnow] at HNW
      have HNOW := Lib.hid hnow
      have c3 : (convert 32 9 (.slice (some ⟨g3, 0, none⟩) 32 32)).run Tryd.prog w4 = .ok (.string (textOf now)) w4 := conv_rd HNW.out
      have c4 : (convert 32 9 (.slice (some ⟨g1, 0, none⟩) 32 32)).run Tryd.prog w4 = .ok (.string (textOf (S.safe i))) w4 := conv_rd (((HSF.out.below HB2.out (Nat.le_refl _)).below HB3.out (Nat.le_refl _)).below HB4.out (Nat.le_refl _))
      have HB5 : Hid (Below w.heap.size w w4) := Lib.hid (HB.out.trans (HB14.out.mono HB.out.size))
      clear hk hg hb hnow
      have HNL : Hid (now.length = 32) := Lib.hid (by rw [HNOW.out, ← E1.out]; exact seen_len HD0.out.ok i)
      have HNB : Hid (Sha.Byte now) := Lib.hid (by rw [HNOW.out, ← E1.out]; exact seen_byte HD0.out.ok i)
      have HGA : Hid (Dk.got now (S.safe i) i xs n = true) := Lib.hid (by rw [HNOW.out, ← HN.out]; exact Dk.got_all HS.out ts i)
      have HSB : Hid (Sha.Byte (S.safe i)) := Lib.hid (HCW0.out.ok.byte i)
      clear hT2
      go_wp2_with fail
      have HXW := HX.out.below HB5.out (Nat.le_refl _)
      refine keep4_any _ _ _ _ _ _ _ _ _ _ _ _ _ _ _ _ _ _ _ _ _ _ _ _ _ _ _ _ _ _ _ _ _ _ _ _ _ _ _ _ _ _ _ _ _ _ _ _ _ _ _ _ _ _ _ _ _ _ _ _ _ _ _ _ _ _ _ _ _ _ _ _ _ _ _ _ _ _ _ _ _ _ _ _ _ _ _ _ _ _ _ _ _ _ _ _ _ _ _ _ _ _ _ _ _ _ _ _ _ _ _ _ _ _ _ _ _ _ _ _ _ _ _ _ _ _ _ _ _ _ _ _ _ _ _ _ _ _ _ _ _ _ _ _ _ _ _ _ _ _ _ _ _ _ _ _ _ _ _ _ _ _ _ _ _ _ _ _ _ _ _ _ _ _ _ A n c b o g3 i _ xs now (S.safe i) w4 _ HA.out HN.out HXW HNL.out HNB.out HNW.out h60 (by rw [Dk.got_zero]; exact textOf_beq HNB.out HSB.out) (fun ch a dst v w h => hQ ch a dst v w h) ?_
      intro y24 y130 y131 y132 y133 y134 y135 y136 y137 y138 y139 y140 y141 y142 y143 y144 y145 y146 y147 y148 y149 y150 y151 y152 y153 y154 y155 y156 y157 y158 y159 y160 y161 y162 y163 y164 y165 y166 y167 y168 y169 w5 hb5
      have HB6 := Lib.hid (HB5.out.trans (hb5.mono HB5.out.size))
      rw [HGA.out]
      clear hb5 HXW
      go_wp2
      exact ⟨⟨i + 1, HLT.out, by simp, HB6⟩, by have := HLT.out; simp [intOf]; omega⟩
    · obtain rfl : i = 5 := by omega
      have HBB := HB.out
      clear hi hlt
      go_wp2
      refine HE.out _ _ _ _ _ _ _ _ _ _ _ _ _ _ _ _ _ _ _ _ _ _ _ _ _ _ _ _ _ _ _ _ _ _ _ _ _ _ _ _ _ _ _ _ _ _ _ _ _ _ _ _ _ _ _ _ _ _ _ _ _ _ _ _ _ _ _ _ _ _ _ _ _ _ _ _ _ _ _ _ _ _ _ _ _ _ _ _ _ _ _ _ _ _ _ _ _ _ _ HBB
end Go.Proofs.YtpmadlkkldbceaaDoor
