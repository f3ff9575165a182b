/- The walks of the two loops of the document's own digest that pad the message. -/
import Derived.Test.YtdokojlgcplefaaDoorMLawOpenHks
import Derived.Test.YtdokojlgcplefaaDoorMSum3
namespace Go.Proofs.YtdokojlgcplefaaDoor
open Go Go.RowKit
set_option maxRecDepth 100000 in
set_option maxHeartbeats 2000000 in
theorem sum1_any (c0 c1 c2 c4 c5 c6 c7 c8 c9 c10 c11 c12 c13 c14 c15 c16 c17 c18 c19 c20 c21 c22 c23 c24 c25 c26 c27 c28 c29 c30 c31 c32 c33 c34 c35 c36 c37 c38 c39 c40 c41 c42 c43 c44 c45 c46 c47 c48 c49 c50 c51 c52 c53 c54 c55 c56 c57 c58 c59 c60 c61 c62 c63 c64 c65 c66 c67 c68 c69 c70 c71 c72 c73 c74 c75 c76 c77 c78 c79 c80 c81 c82 c83 c84 c85 c86 c87 c88 c89 c90 c91 c92 c93 c94 c95 c96 c97 c98 c99 c100 c101 c102 c103 c104 c105 c106 c107 c108 c109 c110 c111 c112 c113 c114 c115 c116 c117 c118 c119 c120 c121 c122 c123 c124 c125 c126 c127 c128 c129 c130 c131 c132 c133 c134 c135 c136 c137 c138 c139 c140 c141 c142 c143 c144 c145 c146 c147 c148 c149 c150 c151 c152 c153 c154 c155 c156 c157 c158 c159 c160 c161 c162 c163 c164 c165 c166 c167 c168 c169 c170 c171 c172 c173 c174 c175 c176 c177 c178 c179 c180 c181 c182 c183 c184 c185 c186 c187 c188 c189 c190 c191 c192 c193 c194 c195 c196 c197 c198 c199 c200 c201 c202 c203 c204 c205 c206 c207 c208 c209 c210 c211 c212 c213 c214 c215 c216 c217 c218 c219 c220 c221 c222 c223 c224 c225 c226 c227 c228 c229 c230 c231 c232 c233 c234 c235 c236 c237 c238 c239 c240 c241 c242 c243 c244 c245 c246 c247 c248 c249 c250 c251 c252 c253 c254 c255 c256 c257 c258 c259 c260 c261 c262 c263 c264 c265 c266 c267 c268 c269 c270 c271 : Value) (v0 : Value) (B : Nat) (wb : World) (bs : List Nat) (w : World) (Q0 : Exit → Act → World → Prop) (hz : bs.length ≤ 1099511627776) (hB : wb.heap.size = B) (hP0 : Pad B wb v0 (Sha.padTo bs 0) w)
  (hexit : ∀ (s1 : Value) (u35 u36 u37 u38 u39 u40 u41 : Value) (w' : World), Pad B wb s1 (Sha.padTo bs (Sha.zeros bs.length)) w' → Q0 (.exit 0) ⟨List.toArray (c0 :: c1 :: c2 :: s1 :: c4 :: c5 :: c6 :: c7 :: c8 :: c9 :: c10 :: c11 :: c12 :: c13 :: c14 :: c15 :: c16 :: c17 :: c18 :: c19 :: c20 :: c21 :: c22 :: c23 :: c24 :: c25 :: c26 :: c27 :: c28 :: c29 :: c30 :: c31 :: c32 :: c33 :: c34 :: u35 :: u36 :: u37 :: u38 :: u39 :: u40 :: u41 :: c42 :: c43 :: c44 :: c45 :: c46 :: c47 :: c48 :: c49 :: c50 :: c51 :: c52 :: c53 :: c54 :: c55 :: c56 :: c57 :: c58 :: c59 :: c60 :: c61 :: c62 :: c63 :: c64 :: c65 :: c66 :: c67 :: c68 :: c69 :: c70 :: c71 :: c72 :: c73 :: c74 :: c75 :: c76 :: c77 :: c78 :: c79 :: c80 :: c81 :: c82 :: c83 :: c84 :: c85 :: c86 :: c87 :: c88 :: c89 :: c90 :: c91 :: c92 :: c93 :: c94 :: c95 :: c96 :: c97 :: c98 :: c99 :: c100 :: c101 :: c102 :: c103 :: c104 :: c105 :: c106 :: c107 :: c108 :: c109 :: c110 :: c111 :: c112 :: c113 :: c114 :: c115 :: c116 :: c117 :: c118 :: c119 :: c120 :: c121 :: c122 :: c123 :: c124 :: c125 :: c126 :: c127 :: c128 :: c129 :: c130 :: c131 :: c132 :: c133 :: c134 :: c135 :: c136 :: c137 :: c138 :: c139 :: c140 :: c141 :: c142 :: c143 :: c144 :: c145 :: c146 :: c147 :: c148 :: c149 :: c150 :: c151 :: c152 :: c153 :: c154 :: c155 :: c156 :: c157 :: c158 :: c159 :: c160 :: c161 :: c162 :: c163 :: c164 :: c165 :: c166 :: c167 :: c168 :: c169 :: c170 :: c171 :: c172 :: c173 :: c174 :: c175 :: c176 :: c177 :: c178 :: c179 :: c180 :: c181 :: c182 :: c183 :: c184 :: c185 :: c186 :: c187 :: c188 :: c189 :: c190 :: c191 :: c192 :: c193 :: c194 :: c195 :: c196 :: c197 :: c198 :: c199 :: c200 :: c201 :: c202 :: c203 :: c204 :: c205 :: c206 :: c207 :: c208 :: c209 :: c210 :: c211 :: c212 :: c213 :: c214 :: c215 :: c216 :: c217 :: c218 :: c219 :: c220 :: c221 :: c222 :: c223 :: c224 :: c225 :: c226 :: c227 :: c228 :: c229 :: c230 :: c231 :: c232 :: c233 :: c234 :: c235 :: c236 :: c237 :: c238 :: c239 :: c240 :: c241 :: c242 :: c243 :: c244 :: c245 :: c246 :: c247 :: c248 :: c249 :: c250 :: c251 :: c252 :: c253 :: c254 :: c255 :: c256 :: c257 :: c258 :: c259 :: c260 :: c261 :: c262 :: c263 :: c264 :: c265 :: c266 :: c267 :: c268 :: c269 :: c270 :: c271 :: []), []⟩ w') :
  (Code.loop (sumLoop 0)).wp Tryd.prog Q0 ⟨List.toArray (c0 :: c1 :: c2 :: v0 :: c4 :: c5 :: c6 :: c7 :: c8 :: c9 :: c10 :: c11 :: c12 :: c13 :: c14 :: c15 :: c16 :: c17 :: c18 :: c19 :: c20 :: c21 :: c22 :: c23 :: c24 :: c25 :: c26 :: c27 :: c28 :: c29 :: c30 :: c31 :: c32 :: c33 :: c34 :: c35 :: c36 :: c37 :: c38 :: c39 :: c40 :: c41 :: c42 :: c43 :: c44 :: c45 :: c46 :: c47 :: c48 :: c49 :: c50 :: c51 :: c52 :: c53 :: c54 :: c55 :: c56 :: c57 :: c58 :: c59 :: c60 :: c61 :: c62 :: c63 :: c64 :: c65 :: c66 :: c67 :: c68 :: c69 :: c70 :: c71 :: c72 :: c73 :: c74 :: c75 :: c76 :: c77 :: c78 :: c79 :: c80 :: c81 :: c82 :: c83 :: c84 :: c85 :: c86 :: c87 :: c88 :: c89 :: c90 :: c91 :: c92 :: c93 :: c94 :: c95 :: c96 :: c97 :: c98 :: c99 :: c100 :: c101 :: c102 :: c103 :: c104 :: c105 :: c106 :: c107 :: c108 :: c109 :: c110 :: c111 :: c112 :: c113 :: c114 :: c115 :: c116 :: c117 :: c118 :: c119 :: c120 :: c121 :: c122 :: c123 :: c124 :: c125 :: c126 :: c127 :: c128 :: c129 :: c130 :: c131 :: c132 :: c133 :: c134 :: c135 :: c136 :: c137 :: c138 :: c139 :: c140 :: c141 :: c142 :: c143 :: c144 :: c145 :: c146 :: c147 :: c148 :: c149 :: c150 :: c151 :: c152 :: c153 :: c154 :: c155 :: c156 :: c157 :: c158 :: c159 :: c160 :: c161 :: c162 :: c163 :: c164 :: c165 :: c166 :: c167 :: c168 :: c169 :: c170 :: c171 :: c172 :: c173 :: c174 :: c175 :: c176 :: c177 :: c178 :: c179 :: c180 :: c181 :: c182 :: c183 :: c184 :: c185 :: c186 :: c187 :: c188 :: c189 :: c190 :: c191 :: c192 :: c193 :: c194 :: c195 :: c196 :: c197 :: c198 :: c199 :: c200 :: c201 :: c202 :: c203 :: c204 :: c205 :: c206 :: c207 :: c208 :: c209 :: c210 :: c211 :: c212 :: c213 :: c214 :: c215 :: c216 :: c217 :: c218 :: c219 :: c220 :: c221 :: c222 :: c223 :: c224 :: c225 :: c226 :: c227 :: c228 :: c229 :: c230 :: c231 :: c232 :: c233 :: c234 :: c235 :: c236 :: c237 :: c238 :: c239 :: c240 :: c241 :: c242 :: c243 :: c244 :: c245 :: c246 :: c247 :: c248 :: c249 :: c250 :: c251 :: c252 :: c253 :: c254 :: c255 :: c256 :: c257 :: c258 :: c259 :: c260 :: c261 :: c262 :: c263 :: c264 :: c265 :: c266 :: c267 :: c268 :: c269 :: c270 :: c271 :: []), []⟩ w := by
 have HE := Lib.hid hexit
 have HP0 := Lib.hid hP0
 have HS0 := Lib.hid hB
 clear hexit hP0 hB
 obtain ⟨n, hn⟩ : ∃ n, n = bs.length := ⟨_, rfl⟩
 have HN := Lib.hid hn
 rw [← hn] at hz
 clear hn
 conv => arg 2; arg 1; whnf
 go_loopw [3] (fun s wr => ∃ j : Nat, j ≤ Sha.zeros bs.length ∧ Pad B wb s (Sha.padTo bs j) wr) (fun s _ => (bs.length + 1 + Sha.zeros bs.length) - lenVp s)
 case atStart => exact ⟨0, Nat.zero_le _, HP0.out⟩
 case round =>
  obtain ⟨j, hj, hP⟩ := hrel
  have HPJ := Lib.hid hP
  have HJ := Lib.hid hj
  obtain ⟨A2, c2, rfl⟩ := hP.len
  clear hP
  have hL := Sha.padTo_len bs j
  have hzz : Sha.zeros bs.length < 64 := Nat.mod_lt _ (by decide)
  have hgo := Sha.zeros_go hj
  rw [← HN.out] at hL hgo hzz
  obtain ⟨m, hm⟩ : ∃ m, m = (Sha.padTo bs j).length := ⟨_, rfl⟩
  rw [← hm] at hL
  have HM := Lib.hid hm
  rw [← hm]
  clear hm
  have hme : j = Sha.zeros n ↔ m % 64 = 56 := by rw [hL]; exact hgo.symm
  have hmz : m ≤ n + 65 := by have h1 := HJ.out; rw [← HN.out] at h1; omega
  have HL := Lib.hid hL
  clear hL hgo
  by_cases hlt : j = Sha.zeros n
  ·have h56 : ((m : Int) % 64) = 56 := by have := hme.1 hlt; omega
   have HLT := Lib.hid hlt
   clear hme hlt hj
   have HPS : Hid (Pad B wb (.slice A2 m c2) (Sha.padTo bs (Sha.zeros bs.length)) wr) := Lib.hid (by have h := HPJ.out; rw [← HM.out] at h; rw [HN.out] at HLT; rw [HLT.out] at h; exact h)
   go_wp2_with fail
   exact HE.out _ _ _ _ _ _ _ _ wr HPS.out
  ·have h56 : ((m : Int) % 64) ≠ 56 := by have := fun h => hlt (hme.2 h); omega
   have HLT := Lib.hid hlt
   clear hme hlt hj
   have HOA : Hid ((wr.alloc (.cells (u8s [0]) 5)).ownsRow B 5 1 (.slice A2 m c2) (Sha.padTo bs j).length (cellsB (Sha.padTo bs j))) := Lib.hid (ownsRow_alloc (by have h := HPJ.out.own; rw [← HM.out] at h ⊢; exact h) _)
   have HB3 := Lib.hid (HPJ.out.bel.alloc (HS0.out ▸ HPJ.out.bel.size) (.cells (u8s [0]) 5))
   have HRM := Lib.hid (rd_of_lit wr [0] 5 (by decide))
   have HZ2 := Lib.hid (show (Sha.padTo bs j).length + [0].length ≤ 70368744177664 by rw [← HM.out]; simp; omega)
   go_wp2_with (refine wpList_appendB rfl (.tmp 39) (.tmp 40) rfl B _ (Sha.padTo bs j) rfl HOA.out (HS0.out ▸ HB3.out.size) _ rfl [0] HRM.out HZ2.out ?_; intro v2 w2 ho2 hg2; rw [Sha.padTo_succ] at ho2; have HP2 : Hid (Pad B wb v2 (Sha.padTo bs (j + 1)) w2) := Lib.hid ⟨ho2, below_ownB HS0.out HB3.out HOA.out hg2⟩; clear ho2 hg2)
   obtain ⟨A3, c3, hv2⟩ := HP2.out.len
   have h1 := HJ.out
   have h2 := HLT.out
   have h3 := HL.out
   rw [HN.out] at h2 h3
   refine ⟨⟨j + 1, by omega, HP2.out⟩, ?_⟩
   rw [hv2]
   show bs.length + 1 + Sha.zeros bs.length - (Sha.padTo bs (j + 1)).length < bs.length + 1 + Sha.zeros bs.length - m
   rw [Sha.padTo_len]
   omega
set_option maxRecDepth 100000 in
set_option maxHeartbeats 2000000 in
theorem sum2_any (c0 c1 c2 c6 c7 c8 c9 c10 c11 c12 c13 c14 c15 c16 c17 c18 c19 c20 c21 c22 c23 c24 c25 c26 c27 c28 c29 c30 c31 c32 c33 c34 c35 c36 c37 c38 c39 c40 c41 c42 c43 c44 c45 c46 c47 c48 c49 c50 c51 c52 c53 c54 c55 c56 c57 c58 c59 c60 c61 c62 c63 c64 c65 c66 c67 c68 c69 c70 c71 c72 c73 c74 c75 c76 c77 c78 c79 c80 c81 c82 c83 c84 c85 c86 c87 c88 c89 c90 c91 c92 c93 c94 c95 c96 c97 c98 c99 c100 c101 c102 c103 c104 c105 c106 c107 c108 c109 c110 c111 c112 c113 c114 c115 c116 c117 c118 c119 c120 c121 c122 c123 c124 c125 c126 c127 c128 c129 c130 c131 c132 c133 c134 c135 c136 c137 c138 c139 c140 c141 c142 c143 c144 c145 c146 c147 c148 c149 c150 c151 c152 c153 c154 c155 c156 c157 c158 c159 c160 c161 c162 c163 c164 c165 c166 c167 c168 c169 c170 c171 c172 c173 c174 c175 c176 c177 c178 c179 c180 c181 c182 c183 c184 c185 c186 c187 c188 c189 c190 c191 c192 c193 c194 c195 c196 c197 c198 c199 c200 c201 c202 c203 c204 c205 c206 c207 c208 c209 c210 c211 c212 c213 c214 c215 c216 c217 c218 c219 c220 c221 c222 c223 c224 c225 c226 c227 c228 c229 c230 c231 c232 c233 c234 c235 c236 c237 c238 c239 c240 c241 c242 c243 c244 c245 c246 c247 c248 c249 c250 c251 c252 c253 c254 c255 c256 c257 c258 c259 c260 c261 c262 c263 c264 c265 c266 c267 c268 c269 c270 c271 : Value) (v0 : Value) (B n : Nat) (wb : World) (bs : List Nat) (w : World) (Q0 : Exit → Act → World → Prop) (hz : n ≤ 1099511627776) (hn : n = bs.length) (hB : wb.heap.size = B) (hP0 : Pad B wb v0 (Sha.padTo bs (Sha.zeros bs.length)) w)
  (hexit : ∀ (s1 : Value) (u46 u47 u48 u49 u50 u51 u52 u53 u54 u55 u56 u57 : Value) (w' : World), Pad B wb s1 (Sha.padded bs) w' → Q0 (.exit 2) ⟨List.toArray (c0 :: c1 :: c2 :: s1 :: .int .u64 ((n : Int) * 8) :: .int .i64 (-8) :: c6 :: c7 :: c8 :: c9 :: c10 :: c11 :: c12 :: c13 :: c14 :: c15 :: c16 :: c17 :: c18 :: c19 :: c20 :: c21 :: c22 :: c23 :: c24 :: c25 :: c26 :: c27 :: c28 :: c29 :: c30 :: c31 :: c32 :: c33 :: c34 :: c35 :: c36 :: c37 :: c38 :: c39 :: c40 :: c41 :: c42 :: c43 :: c44 :: c45 :: u46 :: u47 :: u48 :: u49 :: u50 :: u51 :: u52 :: u53 :: u54 :: u55 :: u56 :: u57 :: c58 :: c59 :: c60 :: c61 :: c62 :: c63 :: c64 :: c65 :: c66 :: c67 :: c68 :: c69 :: c70 :: c71 :: c72 :: c73 :: c74 :: c75 :: c76 :: c77 :: c78 :: c79 :: c80 :: c81 :: c82 :: c83 :: c84 :: c85 :: c86 :: c87 :: c88 :: c89 :: c90 :: c91 :: c92 :: c93 :: c94 :: c95 :: c96 :: c97 :: c98 :: c99 :: c100 :: c101 :: c102 :: c103 :: c104 :: c105 :: c106 :: c107 :: c108 :: c109 :: c110 :: c111 :: c112 :: c113 :: c114 :: c115 :: c116 :: c117 :: c118 :: c119 :: c120 :: c121 :: c122 :: c123 :: c124 :: c125 :: c126 :: c127 :: c128 :: c129 :: c130 :: c131 :: c132 :: c133 :: c134 :: c135 :: c136 :: c137 :: c138 :: c139 :: c140 :: c141 :: c142 :: c143 :: c144 :: c145 :: c146 :: c147 :: c148 :: c149 :: c150 :: c151 :: c152 :: c153 :: c154 :: c155 :: c156 :: c157 :: c158 :: c159 :: c160 :: c161 :: c162 :: c163 :: c164 :: c165 :: c166 :: c167 :: c168 :: c169 :: c170 :: c171 :: c172 :: c173 :: c174 :: c175 :: c176 :: c177 :: c178 :: c179 :: c180 :: c181 :: c182 :: c183 :: c184 :: c185 :: c186 :: c187 :: c188 :: c189 :: c190 :: c191 :: c192 :: c193 :: c194 :: c195 :: c196 :: c197 :: c198 :: c199 :: c200 :: c201 :: c202 :: c203 :: c204 :: c205 :: c206 :: c207 :: c208 :: c209 :: c210 :: c211 :: c212 :: c213 :: c214 :: c215 :: c216 :: c217 :: c218 :: c219 :: c220 :: c221 :: c222 :: c223 :: c224 :: c225 :: c226 :: c227 :: c228 :: c229 :: c230 :: c231 :: c232 :: c233 :: c234 :: c235 :: c236 :: c237 :: c238 :: c239 :: c240 :: c241 :: c242 :: c243 :: c244 :: c245 :: c246 :: c247 :: c248 :: c249 :: c250 :: c251 :: c252 :: c253 :: c254 :: c255 :: c256 :: c257 :: c258 :: c259 :: c260 :: c261 :: c262 :: c263 :: c264 :: c265 :: c266 :: c267 :: c268 :: c269 :: c270 :: c271 :: []), []⟩ w') :
  (Code.loop (sumLoop 1)).wp Tryd.prog Q0 ⟨List.toArray (c0 :: c1 :: c2 :: v0 :: .int .u64 ((n : Int) * 8) :: .int .i64 56 :: c6 :: c7 :: c8 :: c9 :: c10 :: c11 :: c12 :: c13 :: c14 :: c15 :: c16 :: c17 :: c18 :: c19 :: c20 :: c21 :: c22 :: c23 :: c24 :: c25 :: c26 :: c27 :: c28 :: c29 :: c30 :: c31 :: c32 :: c33 :: c34 :: c35 :: c36 :: c37 :: c38 :: c39 :: c40 :: c41 :: c42 :: c43 :: c44 :: c45 :: c46 :: c47 :: c48 :: c49 :: c50 :: c51 :: c52 :: c53 :: c54 :: c55 :: c56 :: c57 :: c58 :: c59 :: c60 :: c61 :: c62 :: c63 :: c64 :: c65 :: c66 :: c67 :: c68 :: c69 :: c70 :: c71 :: c72 :: c73 :: c74 :: c75 :: c76 :: c77 :: c78 :: c79 :: c80 :: c81 :: c82 :: c83 :: c84 :: c85 :: c86 :: c87 :: c88 :: c89 :: c90 :: c91 :: c92 :: c93 :: c94 :: c95 :: c96 :: c97 :: c98 :: c99 :: c100 :: c101 :: c102 :: c103 :: c104 :: c105 :: c106 :: c107 :: c108 :: c109 :: c110 :: c111 :: c112 :: c113 :: c114 :: c115 :: c116 :: c117 :: c118 :: c119 :: c120 :: c121 :: c122 :: c123 :: c124 :: c125 :: c126 :: c127 :: c128 :: c129 :: c130 :: c131 :: c132 :: c133 :: c134 :: c135 :: c136 :: c137 :: c138 :: c139 :: c140 :: c141 :: c142 :: c143 :: c144 :: c145 :: c146 :: c147 :: c148 :: c149 :: c150 :: c151 :: c152 :: c153 :: c154 :: c155 :: c156 :: c157 :: c158 :: c159 :: c160 :: c161 :: c162 :: c163 :: c164 :: c165 :: c166 :: c167 :: c168 :: c169 :: c170 :: c171 :: c172 :: c173 :: c174 :: c175 :: c176 :: c177 :: c178 :: c179 :: c180 :: c181 :: c182 :: c183 :: c184 :: c185 :: c186 :: c187 :: c188 :: c189 :: c190 :: c191 :: c192 :: c193 :: c194 :: c195 :: c196 :: c197 :: c198 :: c199 :: c200 :: c201 :: c202 :: c203 :: c204 :: c205 :: c206 :: c207 :: c208 :: c209 :: c210 :: c211 :: c212 :: c213 :: c214 :: c215 :: c216 :: c217 :: c218 :: c219 :: c220 :: c221 :: c222 :: c223 :: c224 :: c225 :: c226 :: c227 :: c228 :: c229 :: c230 :: c231 :: c232 :: c233 :: c234 :: c235 :: c236 :: c237 :: c238 :: c239 :: c240 :: c241 :: c242 :: c243 :: c244 :: c245 :: c246 :: c247 :: c248 :: c249 :: c250 :: c251 :: c252 :: c253 :: c254 :: c255 :: c256 :: c257 :: c258 :: c259 :: c260 :: c261 :: c262 :: c263 :: c264 :: c265 :: c266 :: c267 :: c268 :: c269 :: c270 :: c271 :: []), []⟩ w := by
 have HE := Lib.hid hexit
 have HPS : Hid (Pad B wb v0 (Sha.padTo bs (Sha.zeros bs.length) ++ (Sha.len8 bs.length).take 0) w) := Lib.hid (by simpa using hP0)
 have HS0 := Lib.hid hB
 have HN := Lib.hid hn
 clear hexit hP0 hB hn
 conv => arg 2; arg 1; whnf
 go_loopw [3, 5] (fun s i wr => ∃ t : Nat, t ≤ 8 ∧ i = .int .i64 (56 - 8 * (t : Int)) ∧ Pad B wb s (Sha.padTo bs (Sha.zeros bs.length) ++ (Sha.len8 bs.length).take t) wr) (fun _ i _ => (intOf i + 8).toNat)
 case atStart => exact ⟨0, by omega, rfl, HPS.out⟩
 case round =>
  obtain ⟨t, ht, rfl, hP⟩ := hrel
  have HPJ := Lib.hid hP
  obtain ⟨A3, c3, rfl⟩ := hP.len
  clear hP
  have hyl : (Sha.padTo bs (Sha.zeros bs.length) ++ (Sha.len8 bs.length).take t).length ≤ n + 73 := by
   have h1 : Sha.zeros bs.length < 64 := Nat.mod_lt _ (by decide)
   rw [List.length_append, Sha.padTo_len, List.length_take, Sha.len8_len, HN.out]; omega
  have HYS : Hid (t < 8 → (Sha.padTo bs (Sha.zeros bs.length) ++ (Sha.len8 bs.length).take t) ++ [8 * bs.length / 2^(56 - 8*t) % 256] = Sha.padTo bs (Sha.zeros bs.length) ++ (Sha.len8 bs.length).take (t + 1)) := Lib.hid (fun h => by rw [List.append_assoc, Sha.len8_succ h])
  have HY8 : Hid (t = 8 → (Sha.padTo bs (Sha.zeros bs.length) ++ (Sha.len8 bs.length).take t) = Sha.padded bs) := Lib.hid (fun h => by rw [h, ← Sha.padded_eq])
  generalize Sha.padTo bs (Sha.zeros bs.length) ++ (Sha.len8 bs.length).take t = ys at HPJ hyl HYS HY8 ⊢
  obtain ⟨m3, hm3⟩ : ∃ m3, m3 = ys.length := ⟨_, rfl⟩
  rw [← hm3] at hyl ⊢
  have HM3 := Lib.hid hm3
  clear hm3
  by_cases hlt : t < 8
  ·obtain ⟨x, hx⟩ : ∃ x, x = 8 * bs.length / 2^(56 - 8*t) % 256 := ⟨_, rfl⟩
   rw [← hx] at HYS
   have HX : Hid ((n : Int) * 8 / 2^(56 - 8*t) % 256 = (x : Int)) := Lib.hid (by rw [hx, ← HN.out, Nat.mul_comm 8 n]; simp)
   clear hx
   have HOA : Hid ((wr.alloc (.cells (u8s [x]) 5)).ownsRow B 5 1 (.slice A3 m3 c3) ys.length (cellsB ys)) := Lib.hid (ownsRow_alloc (by have h := HPJ.out.own; rw [← HM3.out] at h ⊢; exact h) _)
   have HB3 := Lib.hid (HPJ.out.bel.alloc (HS0.out ▸ HPJ.out.bel.size) (.cells (u8s [x]) 5))
   have HRM := Lib.hid (rd_of_lit wr [x] 5 (by simp))
   have HZ2 := Lib.hid (show ys.length + [x].length ≤ 70368744177664 by rw [← HM3.out]; simp; omega)
   go_wp2_with (rw [HX.out]; refine wpList_appendB rfl (.tmp 50) (.tmp 56) rfl B _ ys rfl HOA.out (HS0.out ▸ HB3.out.size) _ rfl [x] HRM.out HZ2.out ?_; intro v2 w2 ho2 hg2; rw [HYS.out hlt] at ho2; have HP2 : Hid (Pad B wb v2 (Sha.padTo bs (Sha.zeros bs.length) ++ (Sha.len8 bs.length).take (t + 1)) w2) := Lib.hid ⟨ho2, below_ownB HS0.out HB3.out HOA.out hg2⟩; clear ho2 hg2)
   go_roundw
   case rel => exact ⟨t + 1, by omega, by go_num, HP2.out⟩
   case measure => simp [intOf]; omega
  ·obtain rfl : t = 8 := by omega
   have HPF : Hid (Pad B wb (.slice A3 m3 c3) (Sha.padded bs) wr) := Lib.hid (by have h := HPJ.out; rw [HY8.out rfl] at h HM3; rw [← HM3.out] at h; exact h)
   clear HY8 HYS hlt
   go_wp2_with fail
   exact HE.out _ _ _ _ _ _ _ _ _ _ _ _ _ wr HPF.out
end Go.Proofs.YtdokojlgcplefaaDoor
/- The walk of the document's own digest (cartageref01.Sum). -/
namespace Go.Proofs.YtdokojlgcplefaaDoor
open Go Go.RowKit
set_option maxRecDepth 100000 in
set_option maxHeartbeats 4000000 in
theorem refsum_any (v : Value) (bs : List Nat) (w : World) (hv : Rd w v bs) (hb : Sha.Byte bs) (hz : bs.length ≤ 1099511627776) :
  Calls Tryd.prog 46 #[v] w fun e w' => e = .returned (.agg (u8s (Sha.sum bs))) ∧ Below w.heap.size w w' := by
 have HV := Lib.hid hv
 obtain ⟨A, c, rfl, hc, hA⟩ := hv
 clear hA
 obtain ⟨n, hn⟩ : ∃ n, n = bs.length := ⟨_, rfl⟩
 rw [← hn] at hz hc HV ⊢
 have HN := Lib.hid hn
 clear hn
 have HS0 := Lib.hid (res32_size w)
 have HOWN : Hid (((res32 w).alloc (.cells #[] 5)).ownsRow (w.heap.size + 1) 5 1 (.slice (some ⟨w.heap.size + 1, 0, none⟩) 0 0) ([] : List Nat).length (cellsB [])) := Lib.hid (by have h := World.ownsRow_lit (base := (res32 w).heap.size) (e := 5) (size := 1) (res32 w) #[] 0 (Nat.le_refl _) (by decide) rfl; rw [HS0.out] at h; exact h)
 have HB1 : Hid (Below (w.heap.size + 1) (res32 w) ((res32 w).alloc (.cells #[] 5))) := Lib.hid ((Below.refl _ _).alloc (Nat.le_of_eq HS0.out.symm) _)
 have HR1 := Lib.hid (rd_alloc (rd_alloc HV.out (.cells (u8s (List.replicate 32 0)) 65)) (.cells #[] 5))
 have HZ := Lib.hid (show ([] : List Nat).length + bs.length ≤ 70368744177664 by rw [← HN.out]; simp; omega)
 have HZ2 := Lib.hid (show bs.length + [128].length ≤ 70368744177664 by rw [← HN.out]; simp; omega)
 have HZB := Lib.hid (show bs.length ≤ 1099511627776 by rw [← HN.out]; exact hz)
 have HRES : Hid (Blk (res32 w) w.heap.size 65 (u8s (List.replicate 32 0))) := Lib.hid (Blk.new w _ _)
 have HW0 := Lib.hid ((Below.refl w.heap.size w).alloc (Nat.le_refl _) (.cells (u8s (List.replicate 32 0)) 65))
 go_enter Tryd.func46, Tryd.ntmps46
 go_wp2_with (first | (refine wpList_appendB rfl (.tmp 30) (.tmp 31) rfl (w.heap.size + 1) _ [] rfl HOWN.out (HS0.out ▸ HB1.out.size) _ rfl bs HR1.out HZ.out ?_; intro v1 w1 ho1 hg1; rw [List.nil_append] at ho1; have HO1 := Lib.hid ho1; have HB2 := Lib.hid (below_ownB HS0.out HB1.out HOWN.out hg1); have HOA := Lib.hid (ownsRow_alloc ho1 (.cells (u8s [128]) 5)); have HB3 := Lib.hid (HB2.out.alloc (HS0.out ▸ HB2.out.size) (.cells (u8s [128]) 5)); have HRM := Lib.hid (rd_of_lit w1 [128] 5 (by decide)); clear ho1 hg1) | (refine wpList_appendB rfl (.tmp 32) (.tmp 33) rfl (w.heap.size + 1) _ bs rfl HOA.out (HS0.out ▸ HB3.out.size) _ rfl [128] HRM.out HZ2.out ?_; intro v2 w2 ho2 hg2; have HP : Hid (Pad (w.heap.size + 1) (res32 w) v2 (bs ++ [128]) w2) := Lib.hid ⟨ho2, below_ownB HS0.out HB3.out HOA.out hg2⟩; clear ho2 hg2))
 have HP0 := Lib.hid (show Pad (w.heap.size + 1) (res32 w) v2 (Sha.padTo bs 0) w2 by simpa [Sha.padTo] using HP.out)
 clear HP HRM HB3 HOA HB2 HO1 HR1 HB1 HOWN HZ HZ2
 refine sum1_any _ _ _ _ _ _ _ _ _ _ _ _ _ _ _ _ _ _ _ _ _ _ _ _ _ _ _ _ _ _ _ _ _ _ _ _ _ _ _ _ _ _ _ _ _ _ _ _ _ _ _ _ _ _ _ _ _ _ _ _ _ _ _ _ _ _ _ _ _ _ _ _ _ _ _ _ _ _ _ _ _ _ _ _ _ _ _ _ _ _ _ _ _ _ _ _ _ _ _ _ _ _ _ _ _ _ _ _ _ _ _ _ _ _ _ _ _ _ _ _ _ _ _ _ _ _ _ _ _ _ _ _ _ _ _ _ _ _ _ _ _ _ _ _ _ _ _ _ _ _ _ _ _ _ _ _ _ _ _ _ _ _ _ _ _ _ _ _ _ _ _ _ _ _ _ _ _ _ _ _ _ _ _ _ _ _ _ _ _ _ _ _ _ _ _ _ _ _ _ _ _ _ _ _ _ _ _ _ _ _ _ _ _ _ _ _ _ _ _ _ _ _ _ _ _ _ _ _ _ _ _ _ _ _ _ _ _ _ _ _ _ _ _ _ _ _ _ _ _ _ _ _ _ _ _ _ _ _ _ _ _ _ _ _ _ _ _ _ _ _ _ v2 (w.heap.size + 1) (res32 w) bs w2 _ HZB.out HS0.out HP0.out ?_
 intro v3 p35 p36 p37 p38 p39 p40 p41 w3 hp3
 have HP3 := Lib.hid hp3
 clear hp3 HP0
 go_wp2_with fail
 refine sum2_any _ _ _ _ _ _ _ _ _ _ _ _ _ _ _ _ _ _ _ _ _ _ _ _ _ _ _ _ _ _ _ _ _ _ _ _ _ _ _ _ _ _ _ _ _ _ _ _ _ _ _ _ _ _ _ _ _ _ _ _ _ _ _ _ _ _ _ _ _ _ _ _ _ _ _ _ _ _ _ _ _ _ _ _ _ _ _ _ _ _ _ _ _ _ _ _ _ _ _ _ _ _ _ _ _ _ _ _ _ _ _ _ _ _ _ _ _ _ _ _ _ _ _ _ _ _ _ _ _ _ _ _ _ _ _ _ _ _ _ _ _ _ _ _ _ _ _ _ _ _ _ _ _ _ _ _ _ _ _ _ _ _ _ _ _ _ _ _ _ _ _ _ _ _ _ _ _ _ _ _ _ _ _ _ _ _ _ _ _ _ _ _ _ _ _ _ _ _ _ _ _ _ _ _ _ _ _ _ _ _ _ _ _ _ _ _ _ _ _ _ _ _ _ _ _ _ _ _ _ _ _ _ _ _ _ _ _ _ _ _ _ _ _ _ _ _ _ _ _ _ _ _ _ _ _ _ _ _ _ _ _ _ _ _ _ _ _ _ _ v3 (w.heap.size + 1) n (res32 w) bs w3 _ hz HN.out HS0.out HP3.out ?_
 intro v4 q46 q47 q48 q49 q50 q51 q52 q53 q54 q55 q56 q57 w4 hp4
 have HP4 := Lib.hid hp4
 have hrd := hp4.rd
 have HBW := Lib.hid (HW0.out.trans (hp4.bel.mono (Nat.le_succ _)))
 have HR4 := Lib.hid (show Blk w4 w.heap.size 65 (u8s (List.replicate 32 0)) from HRES.out.below hp4.bel (Nat.lt_succ_self _))
 clear hp4 HP3
 have hpl := Sha.padded_len bs
 rw [← HN.out] at hpl
 have HPB := Lib.hid (Sha.padded_byte hb)
 obtain ⟨N, hN⟩ : ∃ N, N = (n + 72) / 64 := ⟨_, rfl⟩
 rw [← hN] at hpl
 have hNz : N ≤ 17179869186 := by omega
 have HSUM : Hid (Sha.sum bs = Sha.join (Sha.blocks (Sha.padded bs) N)) := Lib.hid (by unfold Sha.sum; rw [hpl, Nat.mul_div_cancel_left _ (by decide)])
 have hN1 : 1 ≤ N := by omega
 clear hN
 generalize Sha.padded bs = p at HPB HSUM hpl hrd HP4
 obtain ⟨A4, c4, rfl, hc4, hA4⟩ := hrd
 obtain ⟨g, o, rfl, hg, hcell⟩ := hA4 (by omega)
 have HCELL := Lib.hid hcell
 obtain ⟨m3, hm3⟩ : ∃ m3, m3 = p.length := ⟨_, rfl⟩
 rw [← hm3] at hpl hc4 ⊢
 have HM3 := Lib.hid hm3
 have HG := Lib.hid hg
 have HPL := Lib.hid hpl
 clear hcell hA4 hm3 hg hpl
 go_wp2_with fail
 refine (reftable_any w4).mono ?_
 rintro e w5 ⟨rfl, hblk, hb5⟩
 have HTB := Lib.hid hblk
 have HB5 := Lib.hid hb5
 clear hblk hb5
 have HH0 : Hid (Blk (w5.alloc (.cells (u32s Sha.H0) 104)) w5.heap.size 104 (u32s Sha.H0)) := Lib.hid (Blk.new _ _ _)
 have hgt : w4.heap.size < w5.heap.size := HTB.out.lt
 have HS5 : Hid (SumS (w5.alloc (.cells (u32s Sha.H0) 104)) w4.heap.size w5.heap.size g o p Sha.H0 (w5.alloc (.cells (u32s Sha.H0) 104))) := Lib.hid ⟨HTB.out.alloc _, HH0.out, fun x hx => by
   have h := HCELL.out x hx
   have h1 := (HB5.out.cell (p := ⟨g, o + x, none⟩) HG.out).trans h
   rw [← h1]; exact World.cell?_alloc_lt w5 _ ⟨g, o + x, none⟩ (Nat.lt_of_lt_of_le HG.out HB5.out.size), World.grownBy.refl _ _, by have := HG.out; simp; omega, by have := HG.out; omega⟩
 clear hgt
 go_wp2_with fail
 refine sum3_any _ _ _ _ _ _ _ _ _ _ _ _ _ _ _ _ _ _ _ _ _ _ _ _ _ _ _ _ _ _ _ _ _ _ _ _ _ _ _ _ _ _ _ _ _ _ _ _ _ _ _ _ _ _ _ _ _ _ _ _ _ _ _ _ _ _ _ _ _ _ _ _ _ _ _ _ _ _ _ _ _ _ _ _ _ _ _ _ _ _ _ _ _ _ _ _ _ _ _ _ _ _ _ _ _ _ _ _ _ _ _ _ _ _ _ _ _ _ _ _ _ _ _ _ _ _ _ _ _ _ _ _ _ _ _ _ _ _ _ _ _ _ _ _ _ _ _ _ _ _ _ _ _ _ _ _ _ _ _ _ _ _ _ _ _ _ _ _ _ _ _ _ _ _ _ _ _ _ _ _ _ _ _ _ _ _ _ _ _ _ _ _ _ _ _ _ _ _ _ _ _ _ _ _ _ _ _ _ _ _ _ _ _ _ _ _ _ _ _ _ _ _ _ _ _ _ _ _ _ _ _ _ _ _ _ _ _ _ _ _ _ _ _ _ _ _ _ _ _ _ _ _ _ _ _ _ _ _ _ _ _ _ _ _ _ _ _ _ g o m3 c4 w4.heap.size w5.heap.size N p _ _ HPB.out (by have := HPL.out; omega) HPL.out HM3.out.symm HS5.out ?_
 intro r9 r10 r11 r12 r13 r14 r15 r16 r17 r18 r19 r20 r21 r22 r23 r24 r25 r26 r27 r60 r61 r62 r63 r64 r65 r66 r67 r68 r69 r70 r71 r72 r73 r74 r75 r76 r77 r78 r79 r80 r81 r82 r83 r84 r85 r86 r87 r88 r89 r90 r91 r92 r93 r94 r95 r96 r97 r98 r99 r100 r101 r102 r103 r104 r105 r106 r107 r108 r109 r110 r111 r112 r113 r114 r115 r116 r117 r118 r119 r120 r121 r122 r123 r124 r125 r126 r127 r128 r129 r130 r131 r132 r133 r134 r135 r136 r137 r138 r139 r140 r141 r142 r143 r144 r145 r146 r147 r148 r149 r150 r151 r152 r153 r154 r155 r156 r157 r158 r159 r160 r161 r162 r163 r164 r165 r166 r167 r168 r169 r170 r171 r172 r173 r174 r175 r176 r177 r178 r179 r180 r181 r182 r183 r184 r185 r186 r187 r188 r189 r190 r191 r192 r193 r194 r195 r196 r197 r198 r199 r200 r201 r202 r203 r204 r205 r206 r207 r208 r209 r210 r211 r212 r213 r214 r215 r216 r217 r218 r219 r220 r221 r222 r223 r224 r225 r226 r227 r228 r229 r230 r231 r232 r233 r234 r235 r236 r237 r238 r239 r240 r241 r242 r243 r244 r245 r246 r247 r248 r249 r250 r251 w6 h6
 have H6 := Lib.hid h6
 clear h6
 have HO0 : Hid (Blk (w6.alloc (.cells (u8s (List.replicate 32 0)) 65)) w6.heap.size 65 (u8s (List.replicate 32 0))) := Lib.hid (Blk.new _ _ _)
 go_wp2_with (refine wpList_store_row rfl 65 (.tmp 28) (.tmp 252) rfl w6.heap.size (u8s (List.replicate 32 0)) rfl rfl 65 _ HO0.out (by kernel_rfl) (by kernel_rfl) (u8s_one _) ?_)
 have HO1 : Hid (Blk ((w6.alloc (.cells (u8s (List.replicate 32 0)) 65)).setRow w6.heap.size (u8s (List.replicate 32 0))) w6.heap.size 65 (u8s (List.replicate 32 0))) := Lib.hid (HO0.out.row _)
 have H7 := Lib.hid ((H6.out.alloc (.cells (u8s (List.replicate 32 0)) 65)).new (g := w6.heap.size) (w2 := (w6.alloc (.cells (u8s (List.replicate 32 0)) 65)).setRow w6.heap.size (u8s (List.replicate 32 0))) ⟨rfl, rfl, rfl, by simp, fun i _ hne => setRow_other _ _ _ _ (by intro e; exact hne (by rw [e]))⟩ H6.out.only.size)
 have hne : w5.heap.size ≠ w6.heap.size := by have := H6.out.hh.lt; omega
 have HF : Hid (Blk ((w6.alloc (.cells (u8s (List.replicate 32 0)) 65)).setRow w6.heap.size (u8s (List.replicate 32 0))) w5.heap.size 104 (u32s (Sha.blocks p N))) := Lib.hid H7.out.hh
 have hlt4 : w.heap.size < w4.heap.size := HR4.out.lt
 have HBW5 : Below w.heap.size w w5 := HBW.out.trans (HB5.out.mono HBW.out.size)
 have HBW6 : Below w.heap.size w w6 := (HBW5.alloc HBW5.size (.cells (u32s Sha.H0) 104)).grown H6.out.only (by have := HBW5.size; simp; omega) (fun j e => by cases e; exact HBW5.size)
 have HBW8 := Lib.hid (below_row (HBW6.alloc HBW6.size (.cells (u8s (List.replicate 32 0)) 65)) HBW6.size (u8s (List.replicate 32 0)))
 have R5 : Blk (w5.alloc (.cells (u32s Sha.H0) 104)) w.heap.size 65 (u8s (List.replicate 32 0)) := (HR4.out.below HB5.out hlt4).alloc _
 have R6 := R5.grown H6.out.only (by intro e; have e2 := Option.some.inj e; have := HB5.out.size; omega)
 have R8 := Lib.hid ((R6.alloc (.cells (u8s (List.replicate 32 0)) 65)).farRow (g' := w6.heap.size) (by have := R6.lt; omega) (u8s (List.replicate 32 0)))
 have HL6 := Lib.hid (show w.heap.size < w6.heap.size from R6.lt)
 have HZ8 := Lib.hid HBW6.size
 clear R5 R6 HBW5 HBW6 hlt4
 refine sum9_any _ _ _ _ _ _ _ _ _ _ _ _ _ _ _ _ _ _ _ _ _ _ _ _ _ _ _ _ _ _ _ _ _ _ _ _ _ _ _ _ _ _ _ _ _ _ _ _ _ _ _ _ _ _ _ _ _ _ _ _ _ _ _ _ _ _ _ _ _ _ _ _ _ _ _ _ _ _ _ _ _ _ _ _ _ _ _ _ _ _ _ _ _ _ _ _ _ _ _ _ _ _ _ _ _ _ _ _ _ _ _ _ _ _ _ _ _ _ _ _ _ _ _ _ _ _ _ _ _ _ _ _ _ _ _ _ _ _ _ _ _ _ _ _ _ _ _ _ _ _ _ _ _ _ _ _ _ _ _ _ _ _ _ _ _ _ _ _ _ _ _ _ _ _ _ _ _ _ _ _ _ _ _ _ _ _ _ _ _ _ _ _ _ _ _ _ _ _ _ _ _ _ _ _ _ _ _ _ _ _ _ _ _ _ _ _ _ _ _ _ _ _ _ _ _ _ _ _ _ _ _ _ _ _ _ _ _ _ _ _ _ _ _ _ _ _ _ _ _ _ _ _ _ _ _ _ _ _ _ _ _ _ _ _ _ _ _ _ _ w5.heap.size w6.heap.size (Sha.blocks p N) _ _ (Sha.blocks_len p N) (Sha.blocks_lt p N) hne HF.out HO1.out ?_
 intro t29 t254 t255 t256 t257 t258 t259 t260 t261 t262 t263 t264 t265 t266 t267 t268 t269 t270 w7 hb7 hg7
 have HB7 := Lib.hid hb7
 have HBW7 : Hid (Below w.heap.size w w7) := Lib.hid (HBW8.out.grown hg7 HBW8.out.size (fun j e => by cases e; exact HZ8.out))
 have R7 : Hid (Blk w7 w.heap.size 65 (u8s (List.replicate 32 0))) := Lib.hid (R8.out.grown hg7 (by intro e; have e2 := Option.some.inj e; have := HL6.out; omega))
 clear hb7 hg7
 rw [← HSUM.out] at HB7
 have HSL := Lib.hid (show (Sha.sum bs).length = 32 from Sha.join_len _)
 obtain ⟨dg, hdg⟩ : ∃ dg, dg = Sha.sum bs := ⟨_, rfl⟩
 rw [← hdg] at HB7 HSL
 have HDG := Lib.hid hdg
 clear hdg
 go_wp2_with (first | (refine wpList_load_row rfl 65 (.tmp 28) rfl w6.heap.size rfl 65 _ (0,0) _ HB7.out Tryd.underlying65 rfl (by rw [u8s_size, HSL.out]; kernel_rfl) ?_) | (refine wpList_store_row rfl 65 (.tmp 2) (.tmp 271) rfl w.heap.size _ rfl rfl 65 _ R7.out (by rw [u8s_size, HSL.out]; kernel_rfl) (by rw [u8s_size, u8s_size, HSL.out]; rfl) (u8s_one _) ?_))
 exact bodyPost_ret (v := .agg (u8s dg)) (results_cell_row rfl _ _ w.heap.size 65 _ (0, 0) _ rfl (R7.out.row _) Tryd.underlying65 rfl (by rw [u8s_size, HSL.out]; kernel_rfl)) rfl ⟨by rw [HDG.out], below_row HBW7.out (Nat.le_refl _) _⟩
end Go.Proofs.YtdokojlgcplefaaDoor
