/- The walks of the two loops of the document's own digest that pad the message. -/
import Derived.Test.YtgjcfmgaioiogaaDoorSumCode
namespace Go.Proofs.YtgjcfmgaioiogaaDoor
open Go Go.RowKit
set_option maxRecDepth 100000 in
set_option maxHeartbeats 2000000 in
theorem sum1_any (c0 c1 c2 c4 c5 c6 c7 c8 c9 c10 c11 c12 c13 c14 c15 c16 c17 c18 c19 c20 c21 c22 c23 c24 c25 c26 c27 c28 c29 c30 c31 c32 c33 c34 c35 c36 c37 c38 c39 c40 c41 c42 c43 c44 c45 c46 c47 c48 c49 c50 c51 c52 c53 c54 c55 c56 c57 c58 c59 c60 c61 c62 c63 c64 c65 c66 c67 c68 c69 c70 c71 c72 c73 c74 c75 c76 c77 c78 c79 c80 c81 c82 c83 c84 c85 c86 c87 c88 c89 c90 c91 c92 c93 c94 c95 c96 c97 c98 c99 c100 c101 c102 c103 c104 c105 c106 c107 c108 c109 c110 c111 c112 c113 c114 c115 c116 c117 c118 c119 c120 c121 c122 c123 c124 c125 c126 c127 c128 c129 c130 c131 c132 c133 c134 c135 c136 c137 c138 c139 c140 c141 c142 c143 c144 c145 c146 c147 c148 c149 c150 c151 c152 c153 c154 c155 c156 c157 c158 c159 c160 c161 c162 c163 c164 c165 c166 c167 c168 c169 c170 c171 c172 c173 c174 c175 c176 c177 c178 c179 c180 c181 c182 c183 c184 c185 c186 c187 c188 c189 c190 c191 c192 c193 c194 c195 c196 c197 c198 c199 c200 c201 c202 c203 c204 c205 c206 c207 c208 c209 c210 c211 c212 c213 c214 c215 c216 c217 c218 c219 c220 c221 c222 c223 c224 c225 c226 c227 c228 c229 c230 c231 c232 c233 c234 c235 c236 c237 c238 c239 c240 c241 c242 c243 c244 c245 c246 c247 c248 c249 c250 c251 c252 c253 c254 c255 c256 c257 c258 c259 c260 c261 c262 c263 c264 c265 c266 c267 c268 c269 c270 c271 : Value) (v0 : Value) (B : Nat) (wb : World) (bs : List Nat) (w : World) (Q0 : Exit → Act → World → Prop) (hz : bs.length ≤ 1099511627776) (hB : wb.heap.size = B) (hP0 : Pad B wb v0 (Sha.padTo bs 0) w)
    (hexit : ∀ (s1 : Value) (u35 u36 u37 u38 u39 u40 u41 : Value) (w' : World), Pad B wb s1 (Sha.padTo bs (Sha.zeros bs.length)) w' → Q0 (.exit 0) ⟨List.toArray (c0 :: c1 :: c2 :: s1 :: c4 :: c5 :: c6 :: c7 :: c8 :: c9 :: c10 :: c11 :: c12 :: c13 :: c14 :: c15 :: c16 :: c17 :: c18 :: c19 :: c20 :: c21 :: c22 :: c23 :: c24 :: c25 :: c26 :: c27 :: c28 :: c29 :: c30 :: c31 :: c32 :: c33 :: c34 :: u35 :: u36 :: u37 :: u38 :: u39 :: u40 :: u41 :: c42 :: c43 :: c44 :: c45 :: c46 :: c47 :: c48 :: c49 :: c50 :: c51 :: c52 :: c53 :: c54 :: c55 :: c56 :: c57 :: c58 :: c59 :: c60 :: c61 :: c62 :: c63 :: c64 :: c65 :: c66 :: c67 :: c68 :: c69 :: c70 :: c71 :: c72 :: c73 :: c74 :: c75 :: c76 :: c77 :: c78 :: c79 :: c80 :: c81 :: c82 :: c83 :: c84 :: c85 :: c86 :: c87 :: c88 :: c89 :: c90 :: c91 :: c92 :: c93 :: c94 :: c95 :: c96 :: c97 :: c98 :: c99 :: c100 :: c101 :: c102 :: c103 :: c104 :: c105 :: c106 :: c107 :: c108 :: c109 :: c110 :: c111 :: c112 :: c113 :: c114 :: c115 :: c116 :: c117 :: c118 :: c119 :: c120 :: c121 :: c122 :: c123 :: c124 :: c125 :: c126 :: c127 :: c128 :: c129 :: c130 :: c131 :: c132 :: c133 :: c134 :: c135 :: c136 :: c137 :: c138 :: c139 :: c140 :: c141 :: c142 :: c143 :: c144 :: c145 :: c146 :: c147 :: c148 :: c149 :: c150 :: c151 :: c152 :: c153 :: c154 :: c155 :: c156 :: c157 :: c158 :: c159 :: c160 :: c161 :: c162 :: c163 :: c164 :: c165 :: c166 :: c167 :: c168 :: c169 :: c170 :: c171 :: c172 :: c173 :: c174 :: c175 :: c176 :: c177 :: c178 :: c179 :: c180 :: c181 :: c182 :: c183 :: c184 :: c185 :: c186 :: c187 :: c188 :: c189 :: c190 :: c191 :: c192 :: c193 :: c194 :: c195 :: c196 :: c197 :: c198 :: c199 :: c200 :: c201 :: c202 :: c203 :: c204 :: c205 :: c206 :: c207 :: c208 :: c209 :: c210 :: c211 :: c212 :: c213 :: c214 :: c215 :: c216 :: c217 :: c218 :: c219 :: c220 :: c221 :: c222 :: c223 :: c224 :: c225 :: c226 :: c227 :: c228 :: c229 :: c230 :: c231 :: c232 :: c233 :: c234 :: c235 :: c236 :: c237 :: c238 :: c239 :: c240 :: c241 :: c242 :: c243 :: c244 :: c245 :: c246 :: c247 :: c248 :: c249 :: c250 :: c251 :: c252 :: c253 :: c254 :: c255 :: c256 :: c257 :: c258 :: c259 :: c260 :: c261 :: c262 :: c263 :: c264 :: c265 :: c266 :: c267 :: c268 :: c269 :: c270 :: c271 :: []), []⟩ w') :
    (Code.loop (sumLoop 0)).wp Tryd.prog Q0 ⟨List.toArray (c0 :: c1 :: c2 :: v0 :: c4 :: c5 :: c6 :: c7 :: c8 :: c9 :: c10 :: c11 :: c12 :: c13 :: c14 :: c15 :: c16 :: c17 :: c18 :: c19 :: c20 :: c21 :: c22 :: c23 :: c24 :: c25 :: c26 :: c27 :: c28 :: c29 :: c30 :: c31 :: c32 :: c33 :: c34 :: c35 :: c36 :: c37 :: c38 :: c39 :: c40 :: c41 :: c42 :: c43 :: c44 :: c45 :: c46 :: c47 :: c48 :: c49 :: c50 :: c51 :: c52 :: c53 :: c54 :: c55 :: c56 :: c57 :: c58 :: c59 :: c60 :: c61 :: c62 :: c63 :: c64 :: c65 :: c66 :: c67 :: c68 :: c69 :: c70 :: c71 :: c72 :: c73 :: c74 :: c75 :: c76 :: c77 :: c78 :: c79 :: c80 :: c81 :: c82 :: c83 :: c84 :: c85 :: c86 :: c87 :: c88 :: c89 :: c90 :: c91 :: c92 :: c93 :: c94 :: c95 :: c96 :: c97 :: c98 :: c99 :: c100 :: c101 :: c102 :: c103 :: c104 :: c105 :: c106 :: c107 :: c108 :: c109 :: c110 :: c111 :: c112 :: c113 :: c114 :: c115 :: c116 :: c117 :: c118 :: c119 :: c120 :: c121 :: c122 :: c123 :: c124 :: c125 :: c126 :: c127 :: c128 :: c129 :: c130 :: c131 :: c132 :: c133 :: c134 :: c135 :: c136 :: c137 :: c138 :: c139 :: c140 :: c141 :: c142 :: c143 :: c144 :: c145 :: c146 :: c147 :: c148 :: c149 :: c150 :: c151 :: c152 :: c153 :: c154 :: c155 :: c156 :: c157 :: c158 :: c159 :: c160 :: c161 :: c162 :: c163 :: c164 :: c165 :: c166 :: c167 :: c168 :: c169 :: c170 :: c171 :: c172 :: c173 :: c174 :: c175 :: c176 :: c177 :: c178 :: c179 :: c180 :: c181 :: c182 :: c183 :: c184 :: c185 :: c186 :: c187 :: c188 :: c189 :: c190 :: c191 :: c192 :: c193 :: c194 :: c195 :: c196 :: c197 :: c198 :: c199 :: c200 :: c201 :: c202 :: c203 :: c204 :: c205 :: c206 :: c207 :: c208 :: c209 :: c210 :: c211 :: c212 :: c213 :: c214 :: c215 :: c216 :: c217 :: c218 :: c219 :: c220 :: c221 :: c222 :: c223 :: c224 :: c225 :: c226 :: c227 :: c228 :: c229 :: c230 :: c231 :: c232 :: c233 :: c234 :: c235 :: c236 :: c237 :: c238 :: c239 :: c240 :: c241 :: c242 :: c243 :: c244 :: c245 :: c246 :: c247 :: c248 :: c249 :: c250 :: c251 :: c252 :: c253 :: c254 :: c255 :: c256 :: c257 :: c258 :: c259 :: c260 :: c261 :: c262 :: c263 :: c264 :: c265 :: c266 :: c267 :: c268 :: c269 :: c270 :: c271 :: []), []⟩ w := by
  have HE := Lib.hid hexit
  have HP0 := Lib.hid hP0
  have HS0 := Lib.hid hB
  clear hexit hP0 hB
  obtain ⟨n, hn⟩ : ∃ n, n = bs.length := ⟨_, rfl⟩
  have HN := Lib.hid hn
  rw [← hn] at hz
  clear hn
  conv => arg 2; arg 1; whnf
  go_loopw [3] (fun s wr => ∃ j : Nat, j ≤ Sha.zeros bs.length ∧ Pad B wb s (Sha.padTo bs j) wr) (fun s _ => (bs.length + 1 + Sha.zeros bs.length) - lenV s)
  case atStart => exact ⟨0, Nat.zero_le _, HP0.out⟩
  case round =>
    obtain ⟨j, hj, hP⟩ := hrel
    have HPJ := Lib.hid hP
    have HJ := Lib.hid hj
    obtain ⟨A2, c2, rfl⟩ := hP.len
    clear hP
    have hL := Sha.padTo_len bs j
    have hzz : Sha.zeros bs.length < 64 := Nat.mod_lt _ (by decide)
    have hgo := Sha.zeros_go hj
    rw [← HN.out] at hL hgo hzz
    obtain ⟨m, hm⟩ : ∃ m, m = (Sha.padTo bs j).length := ⟨_, rfl⟩
    rw [← hm] at hL
    have HM := Lib.hid hm
    rw [← hm]
    clear hm
    have hme : j = Sha.zeros n ↔ m % 64 = 56 := by rw [hL]; exact hgo.symm
    have hmz : m ≤ n + 65 := by have h1 := HJ.out; rw [← HN.out] at h1; omega
    have HL := Lib.hid hL
    clear hL hgo
    by_cases hlt : j = Sha.zeros n
    · have h56 : ((m : Int) % 64) = 56 := by have := hme.1 hlt; omega
      have HLT := Lib.hid hlt
      clear hme hlt hj
      have HPS : Hid (Pad B wb (.slice A2 m c2) (Sha.padTo bs (Sha.zeros bs.length)) wr) := Lib.hid (by have h := HPJ.out; rw [← HM.out] at h; rw [HN.out] at HLT; rw [HLT.out] at h; exact h)
      go_wp2_with fail
      exact HE.out _ _ _ _ _ _ _ _ wr HPS.out
    · have h56 : ((m : Int) % 64) ≠ 56 := by have := fun h => hlt (hme.2 h); omega
      have HLT := Lib.hid hlt
      clear hme hlt hj
      have HOA : Hid ((wr.alloc (.cells (u8s [0]) 5)).ownsRow B 5 1 (.slice A2 m c2) (Sha.padTo bs j).length (cellsB (Sha.padTo bs j))) := Lib.hid (ownsRow_alloc (by have h := HPJ.out.own; rw [← HM.out] at h ⊢; exact h) _)
      have HB3 := Lib.hid (HPJ.out.bel.alloc (HS0.out ▸ HPJ.out.bel.size) (.cells (u8s [0]) 5))
      have HRM := Lib.hid (rd_of_lit wr [0] 5 (by decide))
      have HZ2 := Lib.hid (show (Sha.padTo bs j).length + [0].length ≤ 70368744177664 by rw [← HM.out]; simp; omega)
      go_wp2_with (refine wpList_appendB rfl (.tmp 39) (.tmp 40) rfl B _ (Sha.padTo bs j) rfl HOA.out (HS0.out ▸ HB3.out.size) _ rfl [0] HRM.out HZ2.out ?_; intro v2 w2 ho2 hg2; rw [Sha.padTo_succ] at ho2; have HP2 : Hid (Pad B wb v2 (Sha.padTo bs (j + 1)) w2) := Lib.hid ⟨ho2, below_ownB HS0.out HB3.out HOA.out hg2⟩; clear ho2 hg2)
      obtain ⟨A3, c3, hv2⟩ := HP2.out.len
      have h1 := HJ.out
      have h2 := HLT.out
      have h3 := HL.out
      rw [HN.out] at h2 h3
      refine ⟨⟨j + 1, by omega, HP2.out⟩, ?_⟩
      rw [hv2]
      show bs.length + 1 + Sha.zeros bs.length - (Sha.padTo bs (j + 1)).length < bs.length + 1 + Sha.zeros bs.length - m
      rw [Sha.padTo_len]
      omega
set_option maxRecDepth 100000 in
set_option maxHeartbeats 2000000 in
theorem sum2_any (c0 c1 c2 c6 c7 c8 c9 c10 c11 c12 c13 c14 c15 c16 c17 c18 c19 c20 c21 c22 c23 c24 c25 c26 c27 c28 c29 c30 c31 c32 c33 c34 c35 c36 c37 c38 c39 c40 c41 c42 c43 c44 c45 c46 c47 c48 c49 c50 c51 c52 c53 c54 c55 c56 c57 c58 c59 c60 c61 c62 c63 c64 c65 c66 c67 c68 c69 c70 c71 c72 c73 c74 c75 c76 c77 c78 c79 c80 c81 c82 c83 c84 c85 c86 c87 c88 c89 c90 c91 c92 c93 c94 c95 c96 c97 c98 c99 c100 c101 c102 c103 c104 c105 c106 c107 c108 c109 c110 c111 c112 c113 c114 c115 c116 c117 c118 c119 c120 c121 c122 c123 c124 c125 c126 c127 c128 c129 c130 c131 c132 c133 c134 c135 c136 c137 c138 c139 c140 c141 c142 c143 c144 c145 c146 c147 c148 c149 c150 c151 c152 c153 c154 c155 c156 c157 c158 c159 c160 c161 c162 c163 c164 c165 c166 c167 c168 c169 c170 c171 c172 c173 c174 c175 c176 c177 c178 c179 c180 c181 c182 c183 c184 c185 c186 c187 c188 c189 c190 c191 c192 c193 c194 c195 c196 c197 c198 c199 c200 c201 c202 c203 c204 c205 c206 c207 c208 c209 c210 c211 c212 c213 c214 c215 c216 c217 c218 c219 c220 c221 c222 c223 c224 c225 c226 c227 c228 c229 c230 c231 c232 c233 c234 c235 c236 c237 c238 c239 c240 c241 c242 c243 c244 c245 c246 c247 c248 c249 c250 c251 c252 c253 c254 c255 c256 c257 c258 c259 c260 c261 c262 c263 c264 c265 c266 c267 c268 c269 c270 c271 : Value) (v0 : Value) (B n : Nat) (wb : World) (bs : List Nat) (w : World) (Q0 : Exit → Act → World → Prop) (hz : n ≤ 1099511627776) (hn : n = bs.length) (hB : wb.heap.size = B) (hP0 : Pad B wb v0 (Sha.padTo bs (Sha.zeros bs.length)) w)
    (hexit : ∀ (s1 : Value) (u46 u47 u48 u49 u50 u51 u52 u53 u54 u55 u56 u57 : Value) (w' : World), Pad B wb s1 (Sha.padded bs) w' → Q0 (.exit 2) ⟨List.toArray (c0 :: c1 :: c2 :: s1 :: .int .u64 ((n : Int) * 8) :: .int .i64 (-8) :: c6 :: c7 :: c8 :: c9 :: c10 :: c11 :: c12 :: c13 :: c14 :: c15 :: c16 :: c17 :: c18 :: c19 :: c20 :: c21 :: c22 :: c23 :: c24 :: c25 :: c26 :: c27 :: c28 :: c29 :: c30 :: c31 :: c32 :: c33 :: c34 :: c35 :: c36 :: c37 :: c38 :: c39 :: c40 :: c41 :: c42 :: c43 :: c44 :: c45 :: u46 :: u47 :: u48 :: u49 :: u50 :: u51 :: u52 :: u53 :: u54 :: u55 :: u56 :: u57 :: c58 :: c59 :: c60 :: c61 :: c62 :: c63 :: c64 :: c65 :: c66 :: c67 :: c68 :: c69 :: c70 :: c71 :: c72 :: c73 :: c74 :: c75 :: c76 :: c77 :: c78 :: c79 :: c80 :: c81 :: c82 :: c83 :: c84 :: c85 :: c86 :: c87 :: c88 :: c89 :: c90 :: c91 :: c92 :: c93 :: c94 :: c95 :: c96 :: c97 :: c98 :: c99 :: c100 :: c101 :: c102 :: c103 :: c104 :: c105 :: c106 :: c107 :: c108 :: c109 :: c110 :: c111 :: c112 :: c113 :: c114 :: c115 :: c116 :: c117 :: c118 :: c119 :: c120 :: c121 :: c122 :: c123 :: c124 :: c125 :: c126 :: c127 :: c128 :: c129 :: c130 :: c131 :: c132 :: c133 :: c134 :: c135 :: c136 :: c137 :: c138 :: c139 :: c140 :: c141 :: c142 :: c143 :: c144 :: c145 :: c146 :: c147 :: c148 :: c149 :: c150 :: c151 :: c152 :: c153 :: c154 :: c155 :: c156 :: c157 :: c158 :: c159 :: c160 :: c161 :: c162 :: c163 :: c164 :: c165 :: c166 :: c167 :: c168 :: c169 :: c170 :: c171 :: c172 :: c173 :: c174 :: c175 :: c176 :: c177 :: c178 :: c179 :: c180 :: c181 :: c182 :: c183 :: c184 :: c185 :: c186 :: c187 :: c188 :: c189 :: c190 :: c191 :: c192 :: c193 :: c194 :: c195 :: c196 :: c197 :: c198 :: c199 :: c200 :: c201 :: c202 :: c203 :: c204 :: c205 :: c206 :: c207 :: c208 :: c209 :: c210 :: c211 :: c212 :: c213 :: c214 :: c215 :: c216 :: c217 :: c218 :: c219 :: c220 :: c221 :: c222 :: c223 :: c224 :: c225 :: c226 :: c227 :: c228 :: c229 :: c230 :: c231 :: c232 :: c233 :: c234 :: c235 :: c236 :: c237 :: c238 :: c239 :: c240 :: c241 :: c242 :: c243 :: c244 :: c245 :: c246 :: c247 :: c248 :: c249 :: c250 :: c251 :: c252 :: c253 :: c254 :: c255 :: c256 :: c257 :: c258 :: c259 :: c260 :: c261 :: c262 :: c263 :: c264 :: c265 :: c266 :: c267 :: c268 :: c269 :: c270 :: c271 :: []), []⟩ w') :
    (Code.loop (sumLoop 1)).wp Tryd.prog Q0 ⟨List.toArray (c0 :: c1 :: c2 :: v0 :: .int .u64 ((n : Int) * 8) :: .int .i64 56 :: c6 :: c7 :: c8 :: c9 :: c10 :: c11 :: c12 :: c13 :: c14 :: c15 :: c16 :: c17 :: c18 :: c19 :: c20 :: c21 :: c22 :: c23 :: c24 :: c25 :: c26 :: c27 :: c28 :: c29 :: c30 :: c31 :: c32 :: c33 :: c34 :: c35 :: c36 :: c37 :: c38 :: c39 :: c40 :: c41 :: c42 :: c43 :: c44 :: c45 :: c46 :: c47 :: c48 :: c49 :: c50 :: c51 :: c52 :: c53 :: c54 :: c55 :: c56 :: c57 :: c58 :: c59 :: c60 :: c61 :: c62 :: c63 :: c64 :: c65 :: c66 :: c67 :: c68 :: c69 :: c70 :: c71 :: c72 :: c73 :: c74 :: c75 :: c76 :: c77 :: c78 :: c79 :: c80 :: c81 :: c82 :: c83 :: c84 :: c85 :: c86 :: c87 :: c88 :: c89 :: c90 :: c91 :: c92 :: c93 :: c94 :: c95 :: c96 :: c97 :: c98 :: c99 :: c100 :: c101 :: c102 :: c103 :: c104 :: c105 :: c106 :: c107 :: c108 :: c109 :: c110 :: c111 :: c112 :: c113 :: c114 :: c115 :: c116 :: c117 :: c118 :: c119 :: c120 :: c121 :: c122 :: c123 :: c124 :: c125 :: c126 :: c127 :: c128 :: c129 :: c130 :: c131 :: c132 :: c133 :: c134 :: c135 :: c136 :: c137 :: c138 :: c139 :: c140 :: c141 :: c142 :: c143 :: c144 :: c145 :: c146 :: c147 :: c148 :: c149 :: c150 :: c151 :: c152 :: c153 :: c154 :: c155 :: c156 :: c157 :: c158 :: c159 :: c160 :: c161 :: c162 :: c163 :: c164 :: c165 :: c166 :: c167 :: c168 :: c169 :: c170 :: c171 :: c172 :: c173 :: c174 :: c175 :: c176 :: c177 :: c178 :: c179 :: c180 :: c181 :: c182 :: c183 :: c184 :: c185 :: c186 :: c187 :: c188 :: c189 :: c190 :: c191 :: c192 :: c193 :: c194 :: c195 :: c196 :: c197 :: c198 :: c199 :: c200 :: c201 :: c202 :: c203 :: c204 :: c205 :: c206 :: c207 :: c208 :: c209 :: c210 :: c211 :: c212 :: c213 :: c214 :: c215 :: c216 :: c217 :: c218 :: c219 :: c220 :: c221 :: c222 :: c223 :: c224 :: c225 :: c226 :: c227 :: c228 :: c229 :: c230 :: c231 :: c232 :: c233 :: c234 :: c235 :: c236 :: c237 :: c238 :: c239 :: c240 :: c241 :: c242 :: c243 :: c244 :: c245 :: c246 :: c247 :: c248 :: c249 :: c250 :: c251 :: c252 :: c253 :: c254 :: c255 :: c256 :: c257 :: c258 :: c259 :: c260 :: c261 :: c262 :: c263 :: c264 :: c265 :: c266 :: c267 :: c268 :: c269 :: c270 :: c271 :: []), []⟩ w := by
  have HE := Lib.hid hexit
  have HPS : Hid (Pad B wb v0 (Sha.padTo bs (Sha.zeros bs.length) ++ (Sha.len8 bs.length).take 0) w) := Lib.hid (by simpa using hP0)
  have HS0 := Lib.hid hB
  have HN := Lib.hid hn
  clear hexit hP0 hB hn
  conv => arg 2; arg 1; whnf
  go_loopw [3, 5] (fun s i wr => ∃ t : Nat, t ≤ 8 ∧ i = .int .i64 (56 - 8 * (t : Int)) ∧ Pad B wb s (Sha.padTo bs (Sha.zeros bs.length) ++ (Sha.len8 bs.length).take t) wr) (fun _ i _ => (intOf i + 8).toNat)
  case atStart => exact ⟨0, by omega, rfl, HPS.out⟩
  case round =>
    obtain ⟨t, ht, rfl, hP⟩ := hrel
    have HPJ := Lib.hid hP
    obtain ⟨A3, c3, rfl⟩ := hP.len
    clear hP
    have hyl : (Sha.padTo bs (Sha.zeros bs.length) ++ (Sha.len8 bs.length).take t).length ≤ n + 73 := by
      have h1 : Sha.zeros bs.length < 64 := Nat.mod_lt _ (by decide)
      rw [List.length_append, Sha.padTo_len, List.length_take, Sha.len8_len, HN.out]; omega
    have HYS : Hid (t < 8 → (Sha.padTo bs (Sha.zeros bs.length) ++ (Sha.len8 bs.length).take t) ++ [8 * bs.length / 2^(56 - 8*t) % 256] = Sha.padTo bs (Sha.zeros bs.length) ++ (Sha.len8 bs.length).take (t + 1)) := Lib.hid (fun h => by rw [List.append_assoc, Sha.len8_succ h])
    have HY8 : Hid (t = 8 → (Sha.padTo bs (Sha.zeros bs.length) ++ (Sha.len8 bs.length).take t) = Sha.padded bs) := Lib.hid (fun h => by rw [h, ← Sha.padded_eq])
    generalize Sha.padTo bs (Sha.zeros bs.length) ++ (Sha.len8 bs.length).take t = ys at HPJ hyl HYS HY8 ⊢
    obtain ⟨m3, hm3⟩ : ∃ m3, m3 = ys.length := ⟨_, rfl⟩
    rw [← hm3] at hyl ⊢
    have HM3 := Lib.hid hm3
    clear hm3
    by_cases hlt : t < 8
    · obtain ⟨x, hx⟩ : ∃ x, x = 8 * bs.length / 2^(56 - 8*t) % 256 := ⟨_, rfl⟩
      rw [← hx] at HYS
      have HX : Hid ((n : Int) * 8 / 2^(56 - 8*t) % 256 = (x : Int)) := Lib.hid (by rw [hx, ← HN.out, Nat.mul_comm 8 n]; simp)
      clear hx
      have HOA : Hid ((wr.alloc (.cells (u8s [x]) 5)).ownsRow B 5 1 (.slice A3 m3 c3) ys.length (cellsB ys)) := Lib.hid (ownsRow_alloc (by have h := HPJ.out.own; rw [← HM3.out] at h ⊢; exact h) _)
      have HB3 := Lib.hid (HPJ.out.bel.alloc (HS0.out ▸ HPJ.out.bel.size) (.cells (u8s [x]) 5))
      have HRM := Lib.hid (rd_of_lit wr [x] 5 (by simp))
      have HZ2 := Lib.hid (show ys.length + [x].length ≤ 70368744177664 by rw [← HM3.out]; simp; omega)
      go_wp2_with (rw [HX.out]; refine wpList_appendB rfl (.tmp 50) (.tmp 56) rfl B _ ys rfl HOA.out (HS0.out ▸ HB3.out.size) _ rfl [x] HRM.out HZ2.out ?_; intro v2 w2 ho2 hg2; rw [HYS.out hlt] at ho2; have HP2 : Hid (Pad B wb v2 (Sha.padTo bs (Sha.zeros bs.length) ++ (Sha.len8 bs.length).take (t + 1)) w2) := Lib.hid ⟨ho2, below_ownB HS0.out HB3.out HOA.out hg2⟩; clear ho2 hg2)
      go_roundw
      case rel => exact ⟨t + 1, by omega, by go_num, HP2.out⟩
      case measure => simp [intOf]; omega
    · obtain rfl : t = 8 := by omega
      have HPF : Hid (Pad B wb (.slice A3 m3 c3) (Sha.padded bs) wr) := Lib.hid (by have h := HPJ.out; rw [HY8.out rfl] at h HM3; rw [← HM3.out] at h; exact h)
      clear HY8 HYS hlt
      go_wp2_with fail
      exact HE.out _ _ _ _ _ _ _ _ _ _ _ _ _ wr HPF.out
end Go.Proofs.YtgjcfmgaioiogaaDoor
