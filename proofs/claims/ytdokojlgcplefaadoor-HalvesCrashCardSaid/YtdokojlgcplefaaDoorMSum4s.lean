/- The walk of the loop of the document's own digest that reads the sixteen words of a block. -/
import Derived.Test.YtdokojlgcplefaaDoorMLawOpenHks
namespace Go.Proofs.YtdokojlgcplefaaDoor
open Go Go.RowKit
theorem sched_read (bl : List Nat) (i : Nat) (h : i < 16) : Sha.sched bl i ++ Sha.word bl i :: List.replicate (63 - i) 0 = Sha.sched bl (i + 1) ++ List.replicate (64 - (i + 1)) 0 := by
 have e : Sha.nextW bl (Sha.sched bl i) = Sha.word bl i := by unfold Sha.nextW; rw [Sha.sched_len, if_pos h]
 show _ = Sha.sched bl i ++ [Sha.nextW bl (Sha.sched bl i)] ++ _
 rw [e, show 64 - (i + 1) = 63 - i by omega]; simp
theorem sched_head (bl : List Nat) (i : Nat) (h : i < 64) : Sha.sched bl i ++ List.replicate (64 - i) 0 = Sha.sched bl i ++ 0 :: List.replicate (63 - i) 0 := by
 rw [show 64 - i = (63 - i) + 1 by omega, List.replicate_succ]
set_option maxRecDepth 100000 in
set_option maxHeartbeats 2000000 in
theorem sum4_any (c0 c1 c2 c4 c5 c6 c7 c11 c12 c13 c14 c15 c16 c17 c18 c19 c20 c21 c22 c23 c24 c25 c26 c27 c28 c29 c30 c31 c32 c33 c34 c35 c36 c37 c38 c39 c40 c41 c42 c43 c44 c45 c46 c47 c48 c49 c50 c51 c52 c53 c54 c55 c56 c57 c58 c59 c60 c61 c62 c63 c64 c65 c66 c67 c68 c69 c70 c71 c72 c73 c74 c75 c76 c77 c78 c79 c80 c81 c82 c83 c84 c85 c86 c87 c88 c89 c90 c91 c92 c93 c94 c95 c96 c97 c98 c99 c100 c101 c102 c103 c104 c105 c106 c107 c108 c109 c110 c111 c112 c113 c114 c115 c116 c117 c118 c119 c120 c121 c122 c123 c124 c125 c126 c127 c128 c129 c130 c131 c132 c133 c134 c135 c136 c137 c138 c139 c140 c141 c142 c143 c144 c145 c146 c147 c148 c149 c150 c151 c152 c153 c154 c155 c156 c157 c158 c159 c160 c161 c162 c163 c164 c165 c166 c167 c168 c169 c170 c171 c172 c173 c174 c175 c176 c177 c178 c179 c180 c181 c182 c183 c184 c185 c186 c187 c188 c189 c190 c191 c192 c193 c194 c195 c196 c197 c198 c199 c200 c201 c202 c203 c204 c205 c206 c207 c208 c209 c210 c211 c212 c213 c214 c215 c216 c217 c218 c219 c220 c221 c222 c223 c224 c225 c226 c227 c228 c229 c230 c231 c232 c233 c234 c235 c236 c237 c238 c239 c240 c241 c242 c243 c244 c245 c246 c247 c248 c249 c250 c251 c252 c253 c254 c255 c256 c257 c258 c259 c260 c261 c262 c263 c264 c265 c266 c267 c268 c269 c270 c271 : Value) (gb o m3 c3 gw k : Nat) (bl : List Nat) (w : World) (Q0 : Exit → Act → World → Prop) (hb : Sha.Byte bl) (hm : m3 ≤ 1099511628000) (hk : 64 * k + 64 ≤ m3)
  (hne : gb ≠ gw) (hmsg : ∀ x, x < 64 → w.cell? ⟨gb, o + (64 * k + x), none⟩ = some (.int .u8 ((bl.getD x 0 : Nat) : Int))) (hw : Blk w gw 104 (u32s (List.replicate 64 0)))
  (hexit : ∀ (u11 u67 u68 u69 u70 u71 u72 u73 u74 u75 u76 u77 u78 u79 u80 u81 u82 u83 u84 u85 u86 u87 u88 u89 u90 u91 u92 u93 : Value) (w' : World), Blk w' gw 104 (u32s (Sha.sched bl 16 ++ List.replicate 48 0)) → w.grownBy w' (some gw) → Q0 (.exit 6) ⟨List.toArray (c0 :: c1 :: c2 :: .slice (some ⟨gb, o, none⟩) m3 c3 :: c4 :: c5 :: c6 :: c7 :: .int .i64 (64 * (k : Int)) :: .slice (some ⟨gw, 0, none⟩) 64 64 :: .int .i64 16 :: u11 :: c12 :: c13 :: c14 :: c15 :: c16 :: c17 :: c18 :: c19 :: c20 :: c21 :: c22 :: c23 :: c24 :: c25 :: c26 :: c27 :: c28 :: c29 :: c30 :: c31 :: c32 :: c33 :: c34 :: c35 :: c36 :: c37 :: c38 :: c39 :: c40 :: c41 :: c42 :: c43 :: c44 :: c45 :: c46 :: c47 :: c48 :: c49 :: c50 :: c51 :: c52 :: c53 :: c54 :: c55 :: c56 :: c57 :: c58 :: c59 :: c60 :: c61 :: c62 :: c63 :: c64 :: c65 :: c66 :: u67 :: u68 :: u69 :: u70 :: u71 :: u72 :: u73 :: u74 :: u75 :: u76 :: u77 :: u78 :: u79 :: u80 :: u81 :: u82 :: u83 :: u84 :: u85 :: u86 :: u87 :: u88 :: u89 :: u90 :: u91 :: u92 :: u93 :: c94 :: c95 :: c96 :: c97 :: c98 :: c99 :: c100 :: c101 :: c102 :: c103 :: c104 :: c105 :: c106 :: c107 :: c108 :: c109 :: c110 :: c111 :: c112 :: c113 :: c114 :: c115 :: c116 :: c117 :: c118 :: c119 :: c120 :: c121 :: c122 :: c123 :: c124 :: c125 :: c126 :: c127 :: c128 :: c129 :: c130 :: c131 :: c132 :: c133 :: c134 :: c135 :: c136 :: c137 :: c138 :: c139 :: c140 :: c141 :: c142 :: c143 :: c144 :: c145 :: c146 :: c147 :: c148 :: c149 :: c150 :: c151 :: c152 :: c153 :: c154 :: c155 :: c156 :: c157 :: c158 :: c159 :: c160 :: c161 :: c162 :: c163 :: c164 :: c165 :: c166 :: c167 :: c168 :: c169 :: c170 :: c171 :: c172 :: c173 :: c174 :: c175 :: c176 :: c177 :: c178 :: c179 :: c180 :: c181 :: c182 :: c183 :: c184 :: c185 :: c186 :: c187 :: c188 :: c189 :: c190 :: c191 :: c192 :: c193 :: c194 :: c195 :: c196 :: c197 :: c198 :: c199 :: c200 :: c201 :: c202 :: c203 :: c204 :: c205 :: c206 :: c207 :: c208 :: c209 :: c210 :: c211 :: c212 :: c213 :: c214 :: c215 :: c216 :: c217 :: c218 :: c219 :: c220 :: c221 :: c222 :: c223 :: c224 :: c225 :: c226 :: c227 :: c228 :: c229 :: c230 :: c231 :: c232 :: c233 :: c234 :: c235 :: c236 :: c237 :: c238 :: c239 :: c240 :: c241 :: c242 :: c243 :: c244 :: c245 :: c246 :: c247 :: c248 :: c249 :: c250 :: c251 :: c252 :: c253 :: c254 :: c255 :: c256 :: c257 :: c258 :: c259 :: c260 :: c261 :: c262 :: c263 :: c264 :: c265 :: c266 :: c267 :: c268 :: c269 :: c270 :: c271 :: []), []⟩ w') :
  (Code.loop (sumLoop 3)).wp Tryd.prog Q0 ⟨List.toArray (c0 :: c1 :: c2 :: .slice (some ⟨gb, o, none⟩) m3 c3 :: c4 :: c5 :: c6 :: c7 :: .int .i64 (64 * (k : Int)) :: .slice (some ⟨gw, 0, none⟩) 64 64 :: .int .i64 0 :: c11 :: c12 :: c13 :: c14 :: c15 :: c16 :: c17 :: c18 :: c19 :: c20 :: c21 :: c22 :: c23 :: c24 :: c25 :: c26 :: c27 :: c28 :: c29 :: c30 :: c31 :: c32 :: c33 :: c34 :: c35 :: c36 :: c37 :: c38 :: c39 :: c40 :: c41 :: c42 :: c43 :: c44 :: c45 :: c46 :: c47 :: c48 :: c49 :: c50 :: c51 :: c52 :: c53 :: c54 :: c55 :: c56 :: c57 :: c58 :: c59 :: c60 :: c61 :: c62 :: c63 :: c64 :: c65 :: c66 :: c67 :: c68 :: c69 :: c70 :: c71 :: c72 :: c73 :: c74 :: c75 :: c76 :: c77 :: c78 :: c79 :: c80 :: c81 :: c82 :: c83 :: c84 :: c85 :: c86 :: c87 :: c88 :: c89 :: c90 :: c91 :: c92 :: c93 :: c94 :: c95 :: c96 :: c97 :: c98 :: c99 :: c100 :: c101 :: c102 :: c103 :: c104 :: c105 :: c106 :: c107 :: c108 :: c109 :: c110 :: c111 :: c112 :: c113 :: c114 :: c115 :: c116 :: c117 :: c118 :: c119 :: c120 :: c121 :: c122 :: c123 :: c124 :: c125 :: c126 :: c127 :: c128 :: c129 :: c130 :: c131 :: c132 :: c133 :: c134 :: c135 :: c136 :: c137 :: c138 :: c139 :: c140 :: c141 :: c142 :: c143 :: c144 :: c145 :: c146 :: c147 :: c148 :: c149 :: c150 :: c151 :: c152 :: c153 :: c154 :: c155 :: c156 :: c157 :: c158 :: c159 :: c160 :: c161 :: c162 :: c163 :: c164 :: c165 :: c166 :: c167 :: c168 :: c169 :: c170 :: c171 :: c172 :: c173 :: c174 :: c175 :: c176 :: c177 :: c178 :: c179 :: c180 :: c181 :: c182 :: c183 :: c184 :: c185 :: c186 :: c187 :: c188 :: c189 :: c190 :: c191 :: c192 :: c193 :: c194 :: c195 :: c196 :: c197 :: c198 :: c199 :: c200 :: c201 :: c202 :: c203 :: c204 :: c205 :: c206 :: c207 :: c208 :: c209 :: c210 :: c211 :: c212 :: c213 :: c214 :: c215 :: c216 :: c217 :: c218 :: c219 :: c220 :: c221 :: c222 :: c223 :: c224 :: c225 :: c226 :: c227 :: c228 :: c229 :: c230 :: c231 :: c232 :: c233 :: c234 :: c235 :: c236 :: c237 :: c238 :: c239 :: c240 :: c241 :: c242 :: c243 :: c244 :: c245 :: c246 :: c247 :: c248 :: c249 :: c250 :: c251 :: c252 :: c253 :: c254 :: c255 :: c256 :: c257 :: c258 :: c259 :: c260 :: c261 :: c262 :: c263 :: c264 :: c265 :: c266 :: c267 :: c268 :: c269 :: c270 :: c271 :: []), []⟩ w := by
 have HM := Lib.hid hmsg
 have HW := Lib.hid hw
 have HE := Lib.hid hexit
 clear hmsg hw hexit
 conv => arg 2; arg 1; whnf
 go_loopw [10] (fun j wr => ∃ i : Nat, i ≤ 16 ∧ j = .int .i64 i ∧ Hid (Blk wr gw 104 (u32s (Sha.sched bl i ++ List.replicate (64 - i) 0)) ∧ w.grownBy wr (some gw))) (fun j _ => 16 - (intOf j).toNat)
 case atStart => exact ⟨0, by omega, rfl, Lib.hid ⟨HW.out, World.grownBy.refl w _⟩⟩
 case round =>
  obtain ⟨i, hi, rfl, HR⟩ := hrel
  by_cases hlt : i < 16
  ·go_wp2_with fail
   refine sum5_any _ _ _ _ _ _ _ _ _ _ _ _ _ _ _ _ _ _ _ _ _ _ _ _ _ _ _ _ _ _ _ _ _ _ _ _ _ _ _ _ _ _ _ _ _ _ _ _ _ _ _ _ _ _ _ _ _ _ _ _ _ _ _ _ _ _ _ _ _ _ _ _ _ _ _ _ _ _ _ _ _ _ _ _ _ _ _ _ _ _ _ _ _ _ _ _ _ _ _ _ _ _ _ _ _ _ _ _ _ _ _ _ _ _ _ _ _ _ _ _ _ _ _ _ _ _ _ _ _ _ _ _ _ _ _ _ _ _ _ _ _ _ _ _ _ _ _ _ _ _ _ _ _ _ _ _ _ _ _ _ _ _ _ _ _ _ _ _ _ _ _ _ _ _ _ _ _ _ _ _ _ _ _ _ _ _ _ _ _ _ _ _ _ _ _ _ _ _ _ _ _ _ _ _ _ _ _ _ _ _ _ _ _ _ _ _ _ _ _ _ _ _ _ _ _ _ _ _ _ _ _ _ _ _ _ _ _ _ _ _ _ _ _ _ _ _ _ _ _ _ _ _ _ _ _ _ _ _ _ _ _ _ _ _ _ _ _ gb o m3 c3 gw i k bl (Sha.sched bl i) (List.replicate (63 - i) 0) wr _ hb hm (by omega) (by omega) (Sha.sched_len bl i) (by rw [← sched_head bl i (by omega)]; simp [Sha.sched_len]; omega) hne
    (fun j hj => by have h := cell_grown HR.out.2 (HM.out (4 * i + j) (by omega)) hne; rw [← Nat.add_assoc (64 * k)] at h; exact h) (by have h := HR.out.1; rw [sched_head bl i (by omega)] at h; exact h) ?_
   intro v71 v72 v73 v74 v75 v76 v77 v78 v79 v80 v81 v82 v83 v84 v85 v86 v87 v88 v89 v90 v91 v92 v93 w2 hb2 hg2
   have HR2 : Hid (Blk w2 gw 104 (u32s (Sha.sched bl (i + 1) ++ List.replicate (64 - (i + 1)) 0)) ∧ w.grownBy w2 (some gw)) := Lib.hid ⟨by rw [← sched_read bl i hlt]; exact hb2, only_trans HR.out.2 hg2⟩
   clear hb2 hg2
   go_wp2_with fail
   go_roundw
   case rel => exact ⟨i + 1, by omega, by go_num, HR2⟩
   case measure => simp [intOf]; omega
  ·obtain rfl : i = 16 := by omega
   go_wp2_with fail
   trace_state
   refine HE.out _ _ _ _ _ _ _ _ _ _ _ _ _ _ _ _ _ _ _ _ _ _ _ _ _ _ _ _ wr HR.out.1 HR.out.2
end Go.Proofs.YtdokojlgcplefaaDoor
/- The walk of the loop of the document's own digest that adds the forty-eight words that follow. -/
namespace Go.Proofs.YtdokojlgcplefaaDoor
open Go Go.RowKit
theorem right_lit (x : Nat) (n : Int) (m : Nat) (w : World) (hx : x < 4294967296) (hn : n = m) (h1 : 1 ≤ m) (h31 : m ≤ 31) :
  Calls Tryd.prog 59 #[.int .u32 x, .int .u64 n] w fun e w' => e = .returned (.int .u32 (Sha.rl x (32 - m) : Nat)) ∧ w' = w := by
 subst hn
 exact (rroot_any x m w hx h1 h31).mono fun e w' ⟨h1, h2⟩ => ⟨h1, h2.symm⟩
theorem word_at (bl : List Nat) (t j : Nat) (h : j < t) (_ht : t ≤ 64) {w : World} {g : Nat} (hw : Blk w g 104 (u32s (Sha.sched bl t ++ List.replicate (64 - t) 0))) : w.cell? ⟨g, j, none⟩ = some (.int .u32 (((Sha.sched bl t).getD j 0 : Nat) : Int)) := by
 rw [hw.cell j, u32s_get _ _ (by simp [Sha.sched_len]; omega), Sha.getD_append_lt (by rw [Sha.sched_len]; exact h)]
set_option maxRecDepth 100000 in
set_option maxHeartbeats 2000000 in
theorem sum6_any (c0 c1 c2 c3 c4 c5 c6 c7 c8 c10 c11 c13 c14 c15 c16 c17 c18 c19 c20 c21 c22 c23 c24 c25 c26 c27 c28 c29 c30 c31 c32 c33 c34 c35 c36 c37 c38 c39 c40 c41 c42 c43 c44 c45 c46 c47 c48 c49 c50 c51 c52 c53 c54 c55 c56 c57 c58 c59 c60 c61 c62 c63 c64 c65 c66 c67 c68 c69 c70 c71 c72 c73 c74 c75 c76 c77 c78 c79 c80 c81 c82 c83 c84 c85 c86 c87 c88 c89 c90 c91 c92 c93 c94 c95 c96 c97 c98 c99 c100 c101 c102 c103 c104 c105 c106 c107 c108 c109 c110 c111 c112 c113 c114 c115 c116 c117 c118 c119 c120 c121 c122 c123 c124 c125 c126 c127 c128 c129 c130 c131 c132 c133 c134 c135 c136 c137 c138 c139 c140 c141 c142 c143 c144 c145 c146 c147 c148 c149 c150 c151 c152 c153 c154 c155 c156 c157 c158 c159 c160 c161 c162 c163 c164 c165 c166 c167 c168 c169 c170 c171 c172 c173 c174 c175 c176 c177 c178 c179 c180 c181 c182 c183 c184 c185 c186 c187 c188 c189 c190 c191 c192 c193 c194 c195 c196 c197 c198 c199 c200 c201 c202 c203 c204 c205 c206 c207 c208 c209 c210 c211 c212 c213 c214 c215 c216 c217 c218 c219 c220 c221 c222 c223 c224 c225 c226 c227 c228 c229 c230 c231 c232 c233 c234 c235 c236 c237 c238 c239 c240 c241 c242 c243 c244 c245 c246 c247 c248 c249 c250 c251 c252 c253 c254 c255 c256 c257 c258 c259 c260 c261 c262 c263 c264 c265 c266 c267 c268 c269 c270 c271 : Value) (gw : Nat) (bl : List Nat) (w : World) (Q0 : Exit → Act → World → Prop) (hb : Sha.Byte bl)
  (hw : Blk w gw 104 (u32s (Sha.sched bl 16 ++ List.replicate 48 0)))
  (hexit : ∀ (u13 u14 u94 u95 u96 u97 u98 u99 u100 u101 u102 u103 u104 u105 u106 u107 u108 u109 u110 u111 u112 u113 u114 u115 u116 u117 u118 u119 u120 u121 u122 u123 u124 u125 u126 u127 u128 u129 u130 u131 u132 u133 u134 u135 u136 u137 u138 u139 : Value) (w' : World), Blk w' gw 104 (u32s (Sha.sched bl 64)) → w.grownBy w' (some gw) → Q0 (.exit 10) ⟨List.toArray (c0 :: c1 :: c2 :: c3 :: c4 :: c5 :: c6 :: c7 :: c8 :: .slice (some ⟨gw, 0, none⟩) 64 64 :: c10 :: c11 :: .int .i64 64 :: u13 :: u14 :: c15 :: c16 :: c17 :: c18 :: c19 :: c20 :: c21 :: c22 :: c23 :: c24 :: c25 :: c26 :: c27 :: c28 :: c29 :: c30 :: c31 :: c32 :: c33 :: c34 :: c35 :: c36 :: c37 :: c38 :: c39 :: c40 :: c41 :: c42 :: c43 :: c44 :: c45 :: c46 :: c47 :: c48 :: c49 :: c50 :: c51 :: c52 :: c53 :: c54 :: c55 :: c56 :: c57 :: c58 :: c59 :: c60 :: c61 :: c62 :: c63 :: c64 :: c65 :: c66 :: c67 :: c68 :: c69 :: c70 :: c71 :: c72 :: c73 :: c74 :: c75 :: c76 :: c77 :: c78 :: c79 :: c80 :: c81 :: c82 :: c83 :: c84 :: c85 :: c86 :: c87 :: c88 :: c89 :: c90 :: c91 :: c92 :: c93 :: u94 :: u95 :: u96 :: u97 :: u98 :: u99 :: u100 :: u101 :: u102 :: u103 :: u104 :: u105 :: u106 :: u107 :: u108 :: u109 :: u110 :: u111 :: u112 :: u113 :: u114 :: u115 :: u116 :: u117 :: u118 :: u119 :: u120 :: u121 :: u122 :: u123 :: u124 :: u125 :: u126 :: u127 :: u128 :: u129 :: u130 :: u131 :: u132 :: u133 :: u134 :: u135 :: u136 :: u137 :: u138 :: u139 :: c140 :: c141 :: c142 :: c143 :: c144 :: c145 :: c146 :: c147 :: c148 :: c149 :: c150 :: c151 :: c152 :: c153 :: c154 :: c155 :: c156 :: c157 :: c158 :: c159 :: c160 :: c161 :: c162 :: c163 :: c164 :: c165 :: c166 :: c167 :: c168 :: c169 :: c170 :: c171 :: c172 :: c173 :: c174 :: c175 :: c176 :: c177 :: c178 :: c179 :: c180 :: c181 :: c182 :: c183 :: c184 :: c185 :: c186 :: c187 :: c188 :: c189 :: c190 :: c191 :: c192 :: c193 :: c194 :: c195 :: c196 :: c197 :: c198 :: c199 :: c200 :: c201 :: c202 :: c203 :: c204 :: c205 :: c206 :: c207 :: c208 :: c209 :: c210 :: c211 :: c212 :: c213 :: c214 :: c215 :: c216 :: c217 :: c218 :: c219 :: c220 :: c221 :: c222 :: c223 :: c224 :: c225 :: c226 :: c227 :: c228 :: c229 :: c230 :: c231 :: c232 :: c233 :: c234 :: c235 :: c236 :: c237 :: c238 :: c239 :: c240 :: c241 :: c242 :: c243 :: c244 :: c245 :: c246 :: c247 :: c248 :: c249 :: c250 :: c251 :: c252 :: c253 :: c254 :: c255 :: c256 :: c257 :: c258 :: c259 :: c260 :: c261 :: c262 :: c263 :: c264 :: c265 :: c266 :: c267 :: c268 :: c269 :: c270 :: c271 :: []), []⟩ w') :
  (Code.loop (sumLoop 5)).wp Tryd.prog Q0 ⟨List.toArray (c0 :: c1 :: c2 :: c3 :: c4 :: c5 :: c6 :: c7 :: c8 :: .slice (some ⟨gw, 0, none⟩) 64 64 :: c10 :: c11 :: .int .i64 16 :: c13 :: c14 :: c15 :: c16 :: c17 :: c18 :: c19 :: c20 :: c21 :: c22 :: c23 :: c24 :: c25 :: c26 :: c27 :: c28 :: c29 :: c30 :: c31 :: c32 :: c33 :: c34 :: c35 :: c36 :: c37 :: c38 :: c39 :: c40 :: c41 :: c42 :: c43 :: c44 :: c45 :: c46 :: c47 :: c48 :: c49 :: c50 :: c51 :: c52 :: c53 :: c54 :: c55 :: c56 :: c57 :: c58 :: c59 :: c60 :: c61 :: c62 :: c63 :: c64 :: c65 :: c66 :: c67 :: c68 :: c69 :: c70 :: c71 :: c72 :: c73 :: c74 :: c75 :: c76 :: c77 :: c78 :: c79 :: c80 :: c81 :: c82 :: c83 :: c84 :: c85 :: c86 :: c87 :: c88 :: c89 :: c90 :: c91 :: c92 :: c93 :: c94 :: c95 :: c96 :: c97 :: c98 :: c99 :: c100 :: c101 :: c102 :: c103 :: c104 :: c105 :: c106 :: c107 :: c108 :: c109 :: c110 :: c111 :: c112 :: c113 :: c114 :: c115 :: c116 :: c117 :: c118 :: c119 :: c120 :: c121 :: c122 :: c123 :: c124 :: c125 :: c126 :: c127 :: c128 :: c129 :: c130 :: c131 :: c132 :: c133 :: c134 :: c135 :: c136 :: c137 :: c138 :: c139 :: c140 :: c141 :: c142 :: c143 :: c144 :: c145 :: c146 :: c147 :: c148 :: c149 :: c150 :: c151 :: c152 :: c153 :: c154 :: c155 :: c156 :: c157 :: c158 :: c159 :: c160 :: c161 :: c162 :: c163 :: c164 :: c165 :: c166 :: c167 :: c168 :: c169 :: c170 :: c171 :: c172 :: c173 :: c174 :: c175 :: c176 :: c177 :: c178 :: c179 :: c180 :: c181 :: c182 :: c183 :: c184 :: c185 :: c186 :: c187 :: c188 :: c189 :: c190 :: c191 :: c192 :: c193 :: c194 :: c195 :: c196 :: c197 :: c198 :: c199 :: c200 :: c201 :: c202 :: c203 :: c204 :: c205 :: c206 :: c207 :: c208 :: c209 :: c210 :: c211 :: c212 :: c213 :: c214 :: c215 :: c216 :: c217 :: c218 :: c219 :: c220 :: c221 :: c222 :: c223 :: c224 :: c225 :: c226 :: c227 :: c228 :: c229 :: c230 :: c231 :: c232 :: c233 :: c234 :: c235 :: c236 :: c237 :: c238 :: c239 :: c240 :: c241 :: c242 :: c243 :: c244 :: c245 :: c246 :: c247 :: c248 :: c249 :: c250 :: c251 :: c252 :: c253 :: c254 :: c255 :: c256 :: c257 :: c258 :: c259 :: c260 :: c261 :: c262 :: c263 :: c264 :: c265 :: c266 :: c267 :: c268 :: c269 :: c270 :: c271 :: []), []⟩ w := by
 have HW := Lib.hid hw
 have HE := Lib.hid hexit
 clear hw hexit
 conv => arg 2; arg 1; whnf
 go_loopw [12] (fun j wr => ∃ t : Nat, 16 ≤ t ∧ t ≤ 64 ∧ j = .int .i64 t ∧ Hid (Blk wr gw 104 (u32s (Sha.sched bl t ++ List.replicate (64 - t) 0)) ∧ w.grownBy wr (some gw))) (fun j _ => 64 - (intOf j).toNat)
 case atStart => exact ⟨16, by omega, by omega, rfl, Lib.hid ⟨HW.out, World.grownBy.refl w _⟩⟩
 case round =>
  obtain ⟨j, hj0, hj, rfl, HR⟩ := hrel
  obtain ⟨wo, rfl⟩ : ∃ wo : World, wo = wr := ⟨_, rfl⟩
  by_cases hlt : j < 64
  ·have p0 := word_at bl j (j - 16) (by omega) hj HR.out.1
   have p1 := word_at bl j (j - 15) (by omega) hj HR.out.1
   have p2 := word_at bl j (j - 7) (by omega) hj HR.out.1
   have p3 := word_at bl j (j - 2) (by omega) hj HR.out.1
   have HNW := Lib.hid (Sha.nextW_late (bs := bl) (l := Sha.sched bl j) (by rw [Sha.sched_len]; exact hj0))
   have q0 := Sha.sched_lt hb j (j - 16)
   have q1 := Sha.sched_lt hb j (j - 15)
   have q2 := Sha.sched_lt hb j (j - 7)
   have q3 := Sha.sched_lt hb j (j - 2)
   have HNW2 : Hid (((((Sha.sched bl j).getD (j-16) 0 + (Sha.sched bl j).getD (j-7) 0) % 4294967296 + Sha.low ((Sha.sched bl j).getD (j-15) 0)) % 4294967296 + Sha.high ((Sha.sched bl j).getD (j-2) 0)) % 4294967296 = Sha.nextW bl (Sha.sched bl j)) := Lib.hid (by have h := HNW.out; rw [Sha.sched_len] at h; exact h)
   clear HNW
   have HSet : Hid ((u32s (Sha.sched bl j ++ List.replicate (64 - j) 0)).setIfInBounds j (.int .u32 ((Sha.nextW bl (Sha.sched bl j) : Nat) : Int)) = u32s (Sha.sched bl (j + 1) ++ List.replicate (64 - (j + 1)) 0)) := Lib.hid (by
    rw [u32s_set, show 64 - j = (64 - (j + 1)) + 1 by omega]
    have e := fill_set (Sha.sched bl j) (64 - (j + 1)) (Sha.nextW bl (Sha.sched bl j))
    rw [Sha.sched_len] at e
    rw [e]; rfl)
   generalize (Sha.sched bl j).getD (j - 16) 0 = x0 at p0 q0 HNW2
   generalize (Sha.sched bl j).getD (j - 15) 0 = x1 at p1 q1 HNW2
   generalize (Sha.sched bl j).getD (j - 7) 0 = x2 at p2 q2 HNW2
   generalize (Sha.sched bl j).getD (j - 2) 0 = x3 at p3 q3 HNW2
   have f0 : ∃ v, wo.cell? ⟨gw, j, none⟩ = some (.int .u32 v) := ⟨_, by rw [HR.out.1.cell j, u32s_get _ _ (by simp [Sha.sched_len]; omega)]⟩
   obtain ⟨fv, f0⟩ := f0
   have f1 := HR.out.1.frozen j
   have i0 : ((j : Nat) : Int) < 64 := by omega
   have i1 : (0 : Int) ≤ ((j : Nat) : Int) - 15 := by omega
   have i2 : (0 : Int) ≤ ((j : Nat) : Int) - 2 := by omega
   have i3 : ((j : Nat) : Int) - 15 < 64 := by omega
   have i4 : ((j : Nat) : Int) - 2 < 64 := by omega
   have W15 : IntKind.i64.wrap (((j : Nat) : Int) - 15) = ((j : Nat) : Int) - 15 := IntWalk.i64_in _ (by omega)
   have W2 : IntKind.i64.wrap (((j : Nat) : Int) - 2) = ((j : Nat) : Int) - 2 := IntWalk.i64_in _ (by omega)
   have T15 : (((j : Nat) : Int) - 15).toNat = j - 15 := by omega
   have T2 : (((j : Nat) : Int) - 2).toNat = j - 2 := by omega
   go_wp2
   go_quiet (fail)
   clear W15 W2 T15 T2 i1 i2 i3 i4
   have W16 : IntKind.i64.wrap (((j : Nat) : Int) - 16) = ((j : Nat) : Int) - 16 := IntWalk.i64_in _ (by omega)
   have W7 : IntKind.i64.wrap (((j : Nat) : Int) - 7) = ((j : Nat) : Int) - 7 := IntWalk.i64_in _ (by omega)
   have T16 : (((j : Nat) : Int) - 16).toNat = j - 16 := by omega
   have T7 : (((j : Nat) : Int) - 7).toNat = j - 7 := by omega
   have i1 : (0 : Int) ≤ ((j : Nat) : Int) - 16 := by omega
   have i2 : (0 : Int) ≤ ((j : Nat) : Int) - 7 := by omega
   have i5 : (16 : Int) ≤ ((j : Nat) : Int) := by omega
   have i6 : (7 : Int) ≤ ((j : Nat) : Int) := by omega
   have i3 : ((j : Nat) : Int) - 16 < 64 := by omega
   have i4 : ((j : Nat) : Int) - 7 < 64 := by omega
   go_wp2
   refine wp_region_still_tail 32 (by kernel_rfl) (by kernel_rfl) ?_
   change wpStill _ _ (wo.drewN nq).drew _ _ _
   dsimp only [List.take, List.drop]
   iterate 14 still_step
   still_call (right_lit x1 7 7 _ q1 rfl (by decide) (by decide))
   still_step
   still_call (right_lit x1 18 18 _ q1 rfl (by decide) (by decide))
   iterate 6 still_step
   still_call (right_lit x3 17 17 _ q3 rfl (by decide) (by decide))
   still_step
   still_call (right_lit x3 19 19 _ q3 rfl (by decide) (by decide))
   repeat still_step
   refine wpStill_nil ?_
   change wpList _ _ _ _ _ (wo.drewN nq).drew
   go_wp2
   have HV := Lib.hid (show (((x0 : Nat) : Int) + x2 + bits .xor .u32 (bits .xor .u32 ((Sha.rl x1 25 : Nat) : Int) ((Sha.rl x1 14 : Nat) : Int)) (((x1 : Nat) : Int) / 8) + bits .xor .u32 (bits .xor .u32 ((Sha.rl x3 15 : Nat) : Int) ((Sha.rl x3 13 : Nat) : Int)) (((x3 : Nat) : Int) / 1024)) % 4294967296 = ((Sha.nextW bl (Sha.sched bl j) : Nat) : Int) by
    rw [low_val x1 q1, high_val x3 q3, ← HNW2.out]; omega)
   go_roundw
   case rel =>
    refine ⟨j + 1, by omega, by omega, by go_num, Lib.hid ⟨?_, only_setCell (only_drewN HR.out.2 _) (.inl rfl) _⟩⟩
    rw [HV.out, ← HSet.out]
    exact (HR.out.1.drewN _).set_ j _
   case measure => simp [intOf]; omega
  ·obtain rfl : j = 64 := by omega
   go_wp2
   refine HE.out _ _ _ _ _ _ _ _ _ _ _ _ _ _ _ _ _ _ _ _ _ _ _ _ _ _ _ _ _ _ _ _ _ _ _ _ _ _ _ _ _ _ _ _ _ _ _ _ wo ?_ HR.out.2
   have h := HR.out.1
   rw [show List.replicate (64 - 64) 0 = ([] : List Nat) from rfl, List.append_nil] at h
   exact h
end Go.Proofs.YtdokojlgcplefaaDoor
