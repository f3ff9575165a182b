/- The walk of the loop of the document's own digest over the blocks of the message. -/
import Derived.Test.YtdokojlgcplefaaDoorMSum7s
namespace Go.Proofs.YtdokojlgcplefaaDoor
open Go Go.RowKit
def zeros64 : List Nat := List.replicate 64 0
theorem u32_info : (Tryd.prog.info? 104).map (fun i => (i.zero, i.size, i.bytes)) = some (some (.int .u32 0), 1, 4) := by kernel_rfl
theorem make64 (w : World) : (Instr.makeSlice 102 (.int .i64 64) (.int .i64 64)).run Tryd.prog w = .ok (.slice (some ⟨w.heap.size, 0, none⟩) 64 64) (w.alloc (.cells (u32s zeros64) 104)) := by
 have h := run_makeOne (P := Tryd.prog) (t := 102) (e := 104) (z := .int .u32 0) (by_ := 4) Tryd.underlying102 u32_info rfl 64 (by decide) (by decide) (x := 64) rfl w
 rw [h]
 congr 3
theorem only_new {a b c : World} {row : Option Nat} {g : Nat} (h : a.grownBy b row) (k : b.grownBy c (some g)) (hg : a.heap.size ≤ g) : a.grownBy c row :=
 only_step h k.os k.tape k.output k.size fun i hi _ => k.block i (Nat.lt_of_lt_of_le hi h.size) (by intro e; cases e; omega)
structure SumS (w : World) (gt gh gb o : Nat) (p hs : List Nat) (wr : World) : Prop where
 tab : Blk wr gt 104 (u32s Sha.K)
 hh : Blk wr gh 104 (u32s hs)
 msg : ∀ x, x < p.length → wr.cell? ⟨gb, o + x, none⟩ = some (.int .u8 ((p.getD x 0 : Nat) : Int))
 only : w.grownBy wr (some gh)
 lt : gt < w.heap.size ∧ gh < w.heap.size ∧ gb < w.heap.size
 ne : gt ≠ gh ∧ gb ≠ gh
section
variable {w wr w2 : World} {gt gh gb o : Nat} {p hs : List Nat}
theorem SumS.new (h : SumS w gt gh gb o p hs wr) {g : Nat} (k : wr.grownBy w2 (some g)) (hg : w.heap.size ≤ g) : SumS w gt gh gb o p hs w2 := by
 have hl := h.lt
 exact ⟨h.tab.grown k (by intro e; cases e; omega), h.hh.grown k (by intro e; cases e; omega), fun x hx => cell_grown k (h.msg x hx) (by omega), only_new h.only k hg, h.lt, h.ne⟩
theorem SumS.alloc (h : SumS w gt gh gb o p hs wr) (ob : Obj) : SumS w gt gh gb o p hs (wr.alloc ob) :=
 h.new (g := wr.heap.size) (World.grownBy_alloc wr ob (some wr.heap.size)) h.only.size
theorem SumS.drewN (h : SumS w gt gh gb o p hs wr) (n : Nat) : SumS w gt gh gb o p hs (wr.drewN n) :=
 ⟨h.tab.drewN n, h.hh.drewN n, h.msg, only_drewN h.only n, h.lt, h.ne⟩
theorem SumS.put (h : SumS w gt gh gb o p hs wr) {hs2 : List Nat} (k : wr.grownBy w2 (some gh)) (hb : Blk w2 gh 104 (u32s hs2)) : SumS w gt gh gb o p hs2 w2 :=
 ⟨h.tab.grown k (by intro e; cases e; exact h.ne.1 rfl), hb, fun x hx => cell_grown k (h.msg x hx) h.ne.2, only_trans h.only k, h.lt, h.ne⟩
theorem SumS.word (h : SumS w gt gh gb o p hs wr) (hl : hs.length = 8) (i : Nat) (hi : i < 8) : wr.cell? ⟨gh, i, none⟩ = some (.int .u32 ((hs.getD i 0 : Nat) : Int)) := by
 rw [h.hh.cell i, u32s_get _ _ (by omega)]
end
theorem block_byte {p : List Nat} {k x : Nat} (hx : x < 64) : ((p.drop (64 * k)).take 64).getD x 0 = p.getD (64 * k + x) 0 := by
 rw [List.getD_eq_getElem?_getD, List.getElem?_take_of_lt hx, List.getElem?_drop, ← List.getD_eq_getElem?_getD]
theorem byte_block {p : List Nat} (hb : Sha.Byte p) (k : Nat) : Sha.Byte ((p.drop (64 * k)).take 64) := fun i => by
 by_cases h : i < 64
 ·rw [block_byte h]; exact hb _
 ·rw [List.getD_eq_getElem?_getD, List.getElem?_eq_none (by rw [List.length_take]; omega)]; decide
set_option maxRecDepth 100000 in
set_option maxHeartbeats 4000000 in
theorem sum3_any (c0 c1 c2 c4 c5 c9 c10 c11 c12 c13 c14 c15 c16 c17 c18 c19 c20 c21 c22 c23 c24 c25 c26 c27 c28 c29 c30 c31 c32 c33 c34 c35 c36 c37 c38 c39 c40 c41 c42 c43 c44 c45 c46 c47 c48 c49 c50 c51 c52 c53 c54 c55 c56 c57 c58 c59 c60 c61 c62 c63 c64 c65 c66 c67 c68 c69 c70 c71 c72 c73 c74 c75 c76 c77 c78 c79 c80 c81 c82 c83 c84 c85 c86 c87 c88 c89 c90 c91 c92 c93 c94 c95 c96 c97 c98 c99 c100 c101 c102 c103 c104 c105 c106 c107 c108 c109 c110 c111 c112 c113 c114 c115 c116 c117 c118 c119 c120 c121 c122 c123 c124 c125 c126 c127 c128 c129 c130 c131 c132 c133 c134 c135 c136 c137 c138 c139 c140 c141 c142 c143 c144 c145 c146 c147 c148 c149 c150 c151 c152 c153 c154 c155 c156 c157 c158 c159 c160 c161 c162 c163 c164 c165 c166 c167 c168 c169 c170 c171 c172 c173 c174 c175 c176 c177 c178 c179 c180 c181 c182 c183 c184 c185 c186 c187 c188 c189 c190 c191 c192 c193 c194 c195 c196 c197 c198 c199 c200 c201 c202 c203 c204 c205 c206 c207 c208 c209 c210 c211 c212 c213 c214 c215 c216 c217 c218 c219 c220 c221 c222 c223 c224 c225 c226 c227 c228 c229 c230 c231 c232 c233 c234 c235 c236 c237 c238 c239 c240 c241 c242 c243 c244 c245 c246 c247 c248 c249 c250 c251 c252 c253 c254 c255 c256 c257 c258 c259 c260 c261 c262 c263 c264 c265 c266 c267 c268 c269 c270 c271 : Value) (gb o m3 c3 gt gh N : Nat) (p : List Nat) (w : World) (Q0 : Exit → Act → World → Prop) (hb : Sha.Byte p) (hm : m3 ≤ 1099511628000) (hN : m3 = 64 * N) (hpl : p.length = m3)
  (hS : SumS w gt gh gb o p Sha.H0 w)
  (hexit : ∀ (u9 u10 u11 u12 u13 u14 u15 u16 u17 u18 u19 u20 u21 u22 u23 u24 u25 u26 u27 u60 u61 u62 u63 u64 u65 u66 u67 u68 u69 u70 u71 u72 u73 u74 u75 u76 u77 u78 u79 u80 u81 u82 u83 u84 u85 u86 u87 u88 u89 u90 u91 u92 u93 u94 u95 u96 u97 u98 u99 u100 u101 u102 u103 u104 u105 u106 u107 u108 u109 u110 u111 u112 u113 u114 u115 u116 u117 u118 u119 u120 u121 u122 u123 u124 u125 u126 u127 u128 u129 u130 u131 u132 u133 u134 u135 u136 u137 u138 u139 u140 u141 u142 u143 u144 u145 u146 u147 u148 u149 u150 u151 u152 u153 u154 u155 u156 u157 u158 u159 u160 u161 u162 u163 u164 u165 u166 u167 u168 u169 u170 u171 u172 u173 u174 u175 u176 u177 u178 u179 u180 u181 u182 u183 u184 u185 u186 u187 u188 u189 u190 u191 u192 u193 u194 u195 u196 u197 u198 u199 u200 u201 u202 u203 u204 u205 u206 u207 u208 u209 u210 u211 u212 u213 u214 u215 u216 u217 u218 u219 u220 u221 u222 u223 u224 u225 u226 u227 u228 u229 u230 u231 u232 u233 u234 u235 u236 u237 u238 u239 u240 u241 u242 u243 u244 u245 u246 u247 u248 u249 u250 u251 : Value) (w' : World), SumS w gt gh gb o p (Sha.blocks p N) w' → Q0 (.exit 4) ⟨List.toArray (c0 :: c1 :: c2 :: .slice (some ⟨gb, o, none⟩) m3 c3 :: c4 :: c5 :: .slice (some ⟨gt, 0, none⟩) 64 64 :: .slice (some ⟨gh, 0, none⟩) 8 8 :: .int .i64 (64 * (N : Int)) :: u9 :: u10 :: u11 :: u12 :: u13 :: u14 :: u15 :: u16 :: u17 :: u18 :: u19 :: u20 :: u21 :: u22 :: u23 :: u24 :: u25 :: u26 :: u27 :: c28 :: c29 :: c30 :: c31 :: c32 :: c33 :: c34 :: c35 :: c36 :: c37 :: c38 :: c39 :: c40 :: c41 :: c42 :: c43 :: c44 :: c45 :: c46 :: c47 :: c48 :: c49 :: c50 :: c51 :: c52 :: c53 :: c54 :: c55 :: c56 :: c57 :: c58 :: c59 :: u60 :: u61 :: u62 :: u63 :: u64 :: u65 :: u66 :: u67 :: u68 :: u69 :: u70 :: u71 :: u72 :: u73 :: u74 :: u75 :: u76 :: u77 :: u78 :: u79 :: u80 :: u81 :: u82 :: u83 :: u84 :: u85 :: u86 :: u87 :: u88 :: u89 :: u90 :: u91 :: u92 :: u93 :: u94 :: u95 :: u96 :: u97 :: u98 :: u99 :: u100 :: u101 :: u102 :: u103 :: u104 :: u105 :: u106 :: u107 :: u108 :: u109 :: u110 :: u111 :: u112 :: u113 :: u114 :: u115 :: u116 :: u117 :: u118 :: u119 :: u120 :: u121 :: u122 :: u123 :: u124 :: u125 :: u126 :: u127 :: u128 :: u129 :: u130 :: u131 :: u132 :: u133 :: u134 :: u135 :: u136 :: u137 :: u138 :: u139 :: u140 :: u141 :: u142 :: u143 :: u144 :: u145 :: u146 :: u147 :: u148 :: u149 :: u150 :: u151 :: u152 :: u153 :: u154 :: u155 :: u156 :: u157 :: u158 :: u159 :: u160 :: u161 :: u162 :: u163 :: u164 :: u165 :: u166 :: u167 :: u168 :: u169 :: u170 :: u171 :: u172 :: u173 :: u174 :: u175 :: u176 :: u177 :: u178 :: u179 :: u180 :: u181 :: u182 :: u183 :: u184 :: u185 :: u186 :: u187 :: u188 :: u189 :: u190 :: u191 :: u192 :: u193 :: u194 :: u195 :: u196 :: u197 :: u198 :: u199 :: u200 :: u201 :: u202 :: u203 :: u204 :: u205 :: u206 :: u207 :: u208 :: u209 :: u210 :: u211 :: u212 :: u213 :: u214 :: u215 :: u216 :: u217 :: u218 :: u219 :: u220 :: u221 :: u222 :: u223 :: u224 :: u225 :: u226 :: u227 :: u228 :: u229 :: u230 :: u231 :: u232 :: u233 :: u234 :: u235 :: u236 :: u237 :: u238 :: u239 :: u240 :: u241 :: u242 :: u243 :: u244 :: u245 :: u246 :: u247 :: u248 :: u249 :: u250 :: u251 :: c252 :: c253 :: c254 :: c255 :: c256 :: c257 :: c258 :: c259 :: c260 :: c261 :: c262 :: c263 :: c264 :: c265 :: c266 :: c267 :: c268 :: c269 :: c270 :: c271 :: []), []⟩ w') :
  (Code.loop (sumLoop 2)).wp Tryd.prog Q0 ⟨List.toArray (c0 :: c1 :: c2 :: .slice (some ⟨gb, o, none⟩) m3 c3 :: c4 :: c5 :: .slice (some ⟨gt, 0, none⟩) 64 64 :: .slice (some ⟨gh, 0, none⟩) 8 8 :: .int .i64 0 :: c9 :: c10 :: c11 :: c12 :: c13 :: c14 :: c15 :: c16 :: c17 :: c18 :: c19 :: c20 :: c21 :: c22 :: c23 :: c24 :: c25 :: c26 :: c27 :: c28 :: c29 :: c30 :: c31 :: c32 :: c33 :: c34 :: c35 :: c36 :: c37 :: c38 :: c39 :: c40 :: c41 :: c42 :: c43 :: c44 :: c45 :: c46 :: c47 :: c48 :: c49 :: c50 :: c51 :: c52 :: c53 :: c54 :: c55 :: c56 :: c57 :: c58 :: c59 :: c60 :: c61 :: c62 :: c63 :: c64 :: c65 :: c66 :: c67 :: c68 :: c69 :: c70 :: c71 :: c72 :: c73 :: c74 :: c75 :: c76 :: c77 :: c78 :: c79 :: c80 :: c81 :: c82 :: c83 :: c84 :: c85 :: c86 :: c87 :: c88 :: c89 :: c90 :: c91 :: c92 :: c93 :: c94 :: c95 :: c96 :: c97 :: c98 :: c99 :: c100 :: c101 :: c102 :: c103 :: c104 :: c105 :: c106 :: c107 :: c108 :: c109 :: c110 :: c111 :: c112 :: c113 :: c114 :: c115 :: c116 :: c117 :: c118 :: c119 :: c120 :: c121 :: c122 :: c123 :: c124 :: c125 :: c126 :: c127 :: c128 :: c129 :: c130 :: c131 :: c132 :: c133 :: c134 :: c135 :: c136 :: c137 :: c138 :: c139 :: c140 :: c141 :: c142 :: c143 :: c144 :: c145 :: c146 :: c147 :: c148 :: c149 :: c150 :: c151 :: c152 :: c153 :: c154 :: c155 :: c156 :: c157 :: c158 :: c159 :: c160 :: c161 :: c162 :: c163 :: c164 :: c165 :: c166 :: c167 :: c168 :: c169 :: c170 :: c171 :: c172 :: c173 :: c174 :: c175 :: c176 :: c177 :: c178 :: c179 :: c180 :: c181 :: c182 :: c183 :: c184 :: c185 :: c186 :: c187 :: c188 :: c189 :: c190 :: c191 :: c192 :: c193 :: c194 :: c195 :: c196 :: c197 :: c198 :: c199 :: c200 :: c201 :: c202 :: c203 :: c204 :: c205 :: c206 :: c207 :: c208 :: c209 :: c210 :: c211 :: c212 :: c213 :: c214 :: c215 :: c216 :: c217 :: c218 :: c219 :: c220 :: c221 :: c222 :: c223 :: c224 :: c225 :: c226 :: c227 :: c228 :: c229 :: c230 :: c231 :: c232 :: c233 :: c234 :: c235 :: c236 :: c237 :: c238 :: c239 :: c240 :: c241 :: c242 :: c243 :: c244 :: c245 :: c246 :: c247 :: c248 :: c249 :: c250 :: c251 :: c252 :: c253 :: c254 :: c255 :: c256 :: c257 :: c258 :: c259 :: c260 :: c261 :: c262 :: c263 :: c264 :: c265 :: c266 :: c267 :: c268 :: c269 :: c270 :: c271 :: []), []⟩ w := by
 have HS0 := Lib.hid hS
 have HE := Lib.hid hexit
 have HN := Lib.hid hN
 have HPL := Lib.hid hpl
 clear hS hexit hN hpl
 conv => arg 2; arg 1; whnf
 go_loopw [8] (fun j wr => ∃ k : Nat, k ≤ N ∧ j = .int .i64 (64 * (k : Int)) ∧ Hid (SumS w gt gh gb o p (Sha.blocks p k) wr)) (fun j _ => 64 * N - (intOf j).toNat)
 case atStart => exact ⟨0, by omega, rfl, Lib.hid HS0.out⟩
 case round =>
  obtain ⟨k, hk, rfl, HR⟩ := hrel
  have hmN := HN.out
  by_cases hlt : k < N
  ·have hkm : 64 * ((k : Nat) : Int) < m3 := by omega
   have hk64 : 64 * k + 64 ≤ m3 := by omega
   clear hmN
   have hmk := make64
   have hl8 := Sha.blocks_len p k
   have hw8 := Sha.blocks_lt p k
   have HBL := Lib.hid (byte_block hb k)
   have HNB := Lib.hid (show Sha.blocks p (k + 1) = Sha.block (Sha.blocks p k) ((p.drop (64 * k)).take 64) from rfl)
   have HMS := Lib.hid (fun x (hx : x < 64) => (show ((p.drop (64 * k)).take 64).getD x 0 = p.getD (64 * k + x) 0 from block_byte hx))
   generalize (p.drop (64 * k)).take 64 = bl at HBL HNB HMS
   generalize Sha.blocks p k = hs at HR HNB hl8 hw8
   obtain ⟨x0, x1, x2, x3, x4, x5, x6, x7, rfl⟩ := list8 hl8
   have HW8 := Lib.hid hw8
   clear hl8 hw8
   have HA := Lib.hid (HR.out.alloc (.cells (u32s zeros64) 104))
   have HW0 := Lib.hid (Blk.new wr 104 (u32s zeros64))
   have HG := Lib.hid HR.out.only.size
   have hlt3 := HR.out.lt
   have hne0 : gb ≠ wr.heap.size := by have := HG.out; omega
   have HL3 := Lib.hid hlt3
   clear hlt3
   go_wp2_with fail
   refine sum4_any _ _ _ _ _ _ _ _ _ _ _ _ _ _ _ _ _ _ _ _ _ _ _ _ _ _ _ _ _ _ _ _ _ _ _ _ _ _ _ _ _ _ _ _ _ _ _ _ _ _ _ _ _ _ _ _ _ _ _ _ _ _ _ _ _ _ _ _ _ _ _ _ _ _ _ _ _ _ _ _ _ _ _ _ _ _ _ _ _ _ _ _ _ _ _ _ _ _ _ _ _ _ _ _ _ _ _ _ _ _ _ _ _ _ _ _ _ _ _ _ _ _ _ _ _ _ _ _ _ _ _ _ _ _ _ _ _ _ _ _ _ _ _ _ _ _ _ _ _ _ _ _ _ _ _ _ _ _ _ _ _ _ _ _ _ _ _ _ _ _ _ _ _ _ _ _ _ _ _ _ _ _ _ _ _ _ _ _ _ _ _ _ _ _ _ _ _ _ _ _ _ _ _ _ _ _ _ _ _ _ _ _ _ _ _ _ _ _ _ _ _ _ _ _ _ _ _ _ _ _ _ _ _ _ _ _ _ _ _ _ _ _ _ _ _ _ _ _ _ _ _ _ _ _ _ _ _ _ _ _ _ _ _ _ _ _ _ _ gb o m3 c3 wr.heap.size k bl _ _ HBL.out hm hk64 hne0
    (fun x hx => by rw [HMS.out x hx]; exact HA.out.msg (64 * k + x) (by rw [HPL.out]; omega)) HW0.out ?_
   intro v11 v67 v68 v69 v70 v71 v72 v73 v74 v75 v76 v77 v78 v79 v80 v81 v82 v83 v84 v85 v86 v87 v88 v89 v90 v91 v92 v93 w2 hb2 hg2
   have H4 := Lib.hid (HA.out.new hg2 HG.out)
   have HW2 := Lib.hid hb2
   clear hb2 hg2
   go_wp2_with fail
   refine sum6_any _ _ _ _ _ _ _ _ _ _ _ _ _ _ _ _ _ _ _ _ _ _ _ _ _ _ _ _ _ _ _ _ _ _ _ _ _ _ _ _ _ _ _ _ _ _ _ _ _ _ _ _ _ _ _ _ _ _ _ _ _ _ _ _ _ _ _ _ _ _ _ _ _ _ _ _ _ _ _ _ _ _ _ _ _ _ _ _ _ _ _ _ _ _ _ _ _ _ _ _ _ _ _ _ _ _ _ _ _ _ _ _ _ _ _ _ _ _ _ _ _ _ _ _ _ _ _ _ _ _ _ _ _ _ _ _ _ _ _ _ _ _ _ _ _ _ _ _ _ _ _ _ _ _ _ _ _ _ _ _ _ _ _ _ _ _ _ _ _ _ _ _ _ _ _ _ _ _ _ _ _ _ _ _ _ _ _ _ _ _ _ _ _ _ _ _ _ _ _ _ _ _ _ _ _ _ _ _ _ _ _ _ _ _ _ _ _ _ _ _ _ _ _ _ _ _ _ _ _ _ _ _ _ _ _ _ _ _ _ _ _ _ _ _ _ _ _ _ _ _ _ _ _ _ _ _ _ _ _ _ _ _ _ _ _ _ _ _ _ _ wr.heap.size bl w2 _ HBL.out HW2.out ?_
   intro y13 y14 y94 y95 y96 y97 y98 y99 y100 y101 y102 y103 y104 y105 y106 y107 y108 y109 y110 y111 y112 y113 y114 y115 y116 y117 y118 y119 y120 y121 y122 y123 y124 y125 y126 y127 y128 y129 y130 y131 y132 y133 y134 y135 y136 y137 y138 y139 w3 hb3 hg3
   have H6 := Lib.hid (H4.out.new hg3 HG.out)
   have HW3 := Lib.hid hb3
   clear hb3 hg3
   have e0 : w3.cell? ⟨gh, 0, none⟩ = some (.int .u32 (x0 : Nat)) := H6.out.word rfl 0 (by omega)
   have e1 : w3.cell? ⟨gh, 1, none⟩ = some (.int .u32 (x1 : Nat)) := H6.out.word rfl 1 (by omega)
   have e2 : w3.cell? ⟨gh, 2, none⟩ = some (.int .u32 (x2 : Nat)) := H6.out.word rfl 2 (by omega)
   have e3 : w3.cell? ⟨gh, 3, none⟩ = some (.int .u32 (x3 : Nat)) := H6.out.word rfl 3 (by omega)
   have e4 : w3.cell? ⟨gh, 4, none⟩ = some (.int .u32 (x4 : Nat)) := H6.out.word rfl 4 (by omega)
   have e5 : w3.cell? ⟨gh, 5, none⟩ = some (.int .u32 (x5 : Nat)) := H6.out.word rfl 5 (by omega)
   have e6 : w3.cell? ⟨gh, 6, none⟩ = some (.int .u32 (x6 : Nat)) := H6.out.word rfl 6 (by omega)
   have e7 : w3.cell? ⟨gh, 7, none⟩ = some (.int .u32 (x7 : Nat)) := H6.out.word rfl 7 (by omega)
   go_wp2
   go_quiet (fail)
   clear e0 e1 e2 e3 e4 e5 e6 e7
   have HWs := Lib.hid (HW3.out.drewN nq)
   have H7 := Lib.hid (H6.out.drewN nq)
   clear hmk
   generalize w3.drewN nq = w4 at HWs H7 ⊢
   go_wp2_with fail
   refine sum7_any _ _ _ _ _ _ _ _ _ _ _ _ _ _ _ _ _ _ _ _ _ _ _ _ _ _ _ _ _ _ _ _ _ _ _ _ _ _ _ _ _ _ _ _ _ _ _ _ _ _ _ _ _ _ _ _ _ _ _ _ _ _ _ _ _ _ _ _ _ _ _ _ _ _ _ _ _ _ _ _ _ _ _ _ _ _ _ _ _ _ _ _ _ _ _ _ _ _ _ _ _ _ _ _ _ _ _ _ _ _ _ _ _ _ _ _ _ _ _ _ _ _ _ _ _ _ _ _ _ _ _ _ _ _ _ _ _ _ _ _ _ _ _ _ _ _ _ _ _ _ _ _ _ _ _ _ _ _ _ _ _ _ _ _ _ _ _ _ _ _ _ _ _ _ _ _ _ _ _ _ _ _ _ _ _ _ _ _ _ _ _ _ _ _ _ _ _ _ _ _ _ _ _ _ _ _ _ _ _ _ _ _ _ _ _ _ _ _ _ _ _ _ _ _ _ _ _ _ _ _ _ _ _ _ _ _ _ _ _ _ _ _ _ _ _ _ _ _ _ _ _ _ _ _ _ _ _ _ _ _ _ gt wr.heap.size ⟨x0, x1, x2, x3, x4, x5, x6, x7⟩ (Sha.sched bl 64) w4 _ (Sha.ofL_ok HW8.out) (Sha.sched_len _ _) (Sha.sched_lt HBL.out 64) H7.out.tab HWs.out ?_
   intro z24 z25 z164 z165 z166 z167 z168 z169 z170 z171 z172 z173 z174 z175 z176 z177 z178 z179 z180 z181 z182 z183 z184 z185 z186 z187 z188 z189 z190 z191 z192 z193 z194 z195 z196 z197 z198 z199 z200 z201 z202 z203 z204 z205 z206 z207 z208 z209 z210 z211 z212 z213 z214 z215 z216 z217 z218 z219 z220 z221 z222 z223 z224 z225 z226 z227 z228 nd
   have HNB2 := Lib.hid (show Sha.blocks p (k + 1) = Sha.addS [x0, x1, x2, x3, x4, x5, x6, x7] (Sha.rounds ⟨x0, x1, x2, x3, x4, x5, x6, x7⟩ (Sha.sched bl 64) 64) by rw [HNB.out]; rfl)
   have HOK := Lib.hid (Sha.rounds_ok (s := ⟨x0, x1, x2, x3, x4, x5, x6, x7⟩) (Sha.sched bl 64) (Sha.ofL_ok HW8.out) 64)
   generalize Sha.rounds ⟨x0, x1, x2, x3, x4, x5, x6, x7⟩ (Sha.sched bl 64) 64 = s8 at HNB2 HOK ⊢
   have H8 := Lib.hid (H7.out.drewN nd)
   generalize w4.drewN nd = w5 at H8 ⊢
   have H9 := Lib.hid (H8.out.alloc (.cells (u32s (word8 s8)) 104))
   have HX9 := Lib.hid (Blk.new w5 104 (u32s (word8 s8)))
   have hne5 : gh ≠ w5.heap.size := by have := H8.out.only.size; have := HL3.out; omega
   go_wp2_with fail
   refine sum8_any _ _ _ _ _ _ _ _ _ _ _ _ _ _ _ _ _ _ _ _ _ _ _ _ _ _ _ _ _ _ _ _ _ _ _ _ _ _ _ _ _ _ _ _ _ _ _ _ _ _ _ _ _ _ _ _ _ _ _ _ _ _ _ _ _ _ _ _ _ _ _ _ _ _ _ _ _ _ _ _ _ _ _ _ _ _ _ _ _ _ _ _ _ _ _ _ _ _ _ _ _ _ _ _ _ _ _ _ _ _ _ _ _ _ _ _ _ _ _ _ _ _ _ _ _ _ _ _ _ _ _ _ _ _ _ _ _ _ _ _ _ _ _ _ _ _ _ _ _ _ _ _ _ _ _ _ _ _ _ _ _ _ _ _ _ _ _ _ _ _ _ _ _ _ _ _ _ _ _ _ _ _ _ _ _ _ _ _ _ _ _ _ _ _ _ _ _ _ _ _ _ _ _ _ _ _ _ _ _ _ _ _ _ _ _ _ _ _ _ _ _ _ _ _ _ _ _ _ _ _ _ _ _ _ _ _ _ _ _ _ _ _ _ _ _ _ _ _ _ _ _ _ _ _ _ _ _ _ _ _ _ _ _ _ _ _ _ _ gh w5.heap.size [x0, x1, x2, x3, x4, x5, x6, x7] s8 _ _ rfl HW8.out HOK.out hne5 H9.out.hh HX9.out ?_
   intro q26 q27 q240 q241 q242 q243 q244 q245 q246 q247 q248 q249 q250 q251 w6 hb6 hg6
   have H10 := Lib.hid (H9.out.put hg6 hb6)
   rw [← HNB2.out] at H10
   clear hb6 hg6
   go_wp2_with fail
   go_roundw
   case rel => exact ⟨k + 1, by omega, by go_num, H10⟩
   case measure => simp [intOf]; omega
  ·obtain rfl : k = N := by omega
   have hkm : ¬ 64 * ((k : Nat) : Int) < m3 := by omega
   clear hmN
   go_wp2_with fail
   refine HE.out _ _ _ _ _ _ _ _ _ _ _ _ _ _ _ _ _ _ _ _ _ _ _ _ _ _ _ _ _ _ _ _ _ _ _ _ _ _ _ _ _ _ _ _ _ _ _ _ _ _ _ _ _ _ _ _ _ _ _ _ _ _ _ _ _ _ _ _ _ _ _ _ _ _ _ _ _ _ _ _ _ _ _ _ _ _ _ _ _ _ _ _ _ _ _ _ _ _ _ _ _ _ _ _ _ _ _ _ _ _ _ _ _ _ _ _ _ _ _ _ _ _ _ _ _ _ _ _ _ _ _ _ _ _ _ _ _ _ _ _ _ _ _ _ _ _ _ _ _ _ _ _ _ _ _ _ _ _ _ _ _ _ _ _ _ _ _ _ _ _ _ _ _ _ _ _ _ _ _ _ _ _ _ _ _ _ _ _ _ _ _ _ _ _ _ _ _ _ _ _ _ _ _ _ _ _ _ _ _ _ _ wr HR.out
end Go.Proofs.YtdokojlgcplefaaDoor
