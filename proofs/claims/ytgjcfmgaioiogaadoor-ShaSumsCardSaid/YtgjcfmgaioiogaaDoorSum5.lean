/- The walk of the innermost loop of the document's own digest: a word read byte by byte. -/
import Derived.Test.YtgjcfmgaioiogaaDoorSumCode
namespace Go.Proofs.YtgjcfmgaioiogaaDoor
open Go Go.RowKit
set_option maxRecDepth 100000 in
set_option maxHeartbeats 2000000 in
theorem sum5_any (c0 c1 c2 c4 c5 c6 c7 c12 c13 c14 c15 c16 c17 c18 c19 c20 c21 c22 c23 c24 c25 c26 c27 c28 c29 c30 c31 c32 c33 c34 c35 c36 c37 c38 c39 c40 c41 c42 c43 c44 c45 c46 c47 c48 c49 c50 c51 c52 c53 c54 c55 c56 c57 c58 c59 c60 c61 c62 c63 c64 c65 c66 c67 c68 c69 c70 c71 c72 c73 c74 c75 c76 c77 c78 c79 c80 c81 c82 c83 c84 c85 c86 c87 c88 c89 c90 c91 c92 c93 c94 c95 c96 c97 c98 c99 c100 c101 c102 c103 c104 c105 c106 c107 c108 c109 c110 c111 c112 c113 c114 c115 c116 c117 c118 c119 c120 c121 c122 c123 c124 c125 c126 c127 c128 c129 c130 c131 c132 c133 c134 c135 c136 c137 c138 c139 c140 c141 c142 c143 c144 c145 c146 c147 c148 c149 c150 c151 c152 c153 c154 c155 c156 c157 c158 c159 c160 c161 c162 c163 c164 c165 c166 c167 c168 c169 c170 c171 c172 c173 c174 c175 c176 c177 c178 c179 c180 c181 c182 c183 c184 c185 c186 c187 c188 c189 c190 c191 c192 c193 c194 c195 c196 c197 c198 c199 c200 c201 c202 c203 c204 c205 c206 c207 c208 c209 c210 c211 c212 c213 c214 c215 c216 c217 c218 c219 c220 c221 c222 c223 c224 c225 c226 c227 c228 c229 c230 c231 c232 c233 c234 c235 c236 c237 c238 c239 c240 c241 c242 c243 c244 c245 c246 c247 c248 c249 c250 c251 c252 c253 c254 c255 c256 c257 c258 c259 c260 c261 c262 c263 c264 c265 c266 c267 c268 c269 c270 c271 : Value) (gb o m3 c3 gw i k : Nat) (bs pre post : List Nat) (w : World) (Q0 : Exit → Act → World → Prop) (hb : Sha.Byte bs) (hm : m3 ≤ 1099511628000) (hk : 64 * k + 4 * i + 4 ≤ m3) (hi : i < 64) (hpl : pre.length = i)
    (hlen : (pre ++ 0 :: post).length = 64) (hne : gb ≠ gw) (hmsg : ∀ j, j < 4 → w.cell? ⟨gb, o + (64 * k + 4 * i + j), none⟩ = some (.int .u8 ((bs.getD (4 * i + j) 0 : Nat) : Int))) (hw : Blk w gw 63 (u32s (pre ++ 0 :: post)))
    (hexit : ∀ (u71 u72 u73 u74 u75 u76 u77 u78 u79 u80 u81 u82 u83 u84 u85 u86 u87 u88 u89 u90 u91 u92 u93 : Value) (w' : World), Blk w' gw 63 (u32s (pre ++ Sha.word bs i :: post)) → w.grownBy w' (some gw) → Q0 (.exit 8) ⟨List.toArray (c0 :: c1 :: c2 :: .slice (some ⟨gb, o, none⟩) m3 c3 :: c4 :: c5 :: c6 :: c7 :: .int .i64 (64 * (k : Int)) :: .slice (some ⟨gw, 0, none⟩) 64 64 :: .int .i64 (i : Int) :: .int .i64 4 :: c12 :: c13 :: c14 :: c15 :: c16 :: c17 :: c18 :: c19 :: c20 :: c21 :: c22 :: c23 :: c24 :: c25 :: c26 :: c27 :: c28 :: c29 :: c30 :: c31 :: c32 :: c33 :: c34 :: c35 :: c36 :: c37 :: c38 :: c39 :: c40 :: c41 :: c42 :: c43 :: c44 :: c45 :: c46 :: c47 :: c48 :: c49 :: c50 :: c51 :: c52 :: c53 :: c54 :: c55 :: c56 :: c57 :: c58 :: c59 :: c60 :: c61 :: c62 :: c63 :: c64 :: c65 :: c66 :: c67 :: c68 :: c69 :: c70 :: u71 :: u72 :: u73 :: u74 :: u75 :: u76 :: u77 :: u78 :: u79 :: u80 :: u81 :: u82 :: u83 :: u84 :: u85 :: u86 :: u87 :: u88 :: u89 :: u90 :: u91 :: u92 :: u93 :: c94 :: c95 :: c96 :: c97 :: c98 :: c99 :: c100 :: c101 :: c102 :: c103 :: c104 :: c105 :: c106 :: c107 :: c108 :: c109 :: c110 :: c111 :: c112 :: c113 :: c114 :: c115 :: c116 :: c117 :: c118 :: c119 :: c120 :: c121 :: c122 :: c123 :: c124 :: c125 :: c126 :: c127 :: c128 :: c129 :: c130 :: c131 :: c132 :: c133 :: c134 :: c135 :: c136 :: c137 :: c138 :: c139 :: c140 :: c141 :: c142 :: c143 :: c144 :: c145 :: c146 :: c147 :: c148 :: c149 :: c150 :: c151 :: c152 :: c153 :: c154 :: c155 :: c156 :: c157 :: c158 :: c159 :: c160 :: c161 :: c162 :: c163 :: c164 :: c165 :: c166 :: c167 :: c168 :: c169 :: c170 :: c171 :: c172 :: c173 :: c174 :: c175 :: c176 :: c177 :: c178 :: c179 :: c180 :: c181 :: c182 :: c183 :: c184 :: c185 :: c186 :: c187 :: c188 :: c189 :: c190 :: c191 :: c192 :: c193 :: c194 :: c195 :: c196 :: c197 :: c198 :: c199 :: c200 :: c201 :: c202 :: c203 :: c204 :: c205 :: c206 :: c207 :: c208 :: c209 :: c210 :: c211 :: c212 :: c213 :: c214 :: c215 :: c216 :: c217 :: c218 :: c219 :: c220 :: c221 :: c222 :: c223 :: c224 :: c225 :: c226 :: c227 :: c228 :: c229 :: c230 :: c231 :: c232 :: c233 :: c234 :: c235 :: c236 :: c237 :: c238 :: c239 :: c240 :: c241 :: c242 :: c243 :: c244 :: c245 :: c246 :: c247 :: c248 :: c249 :: c250 :: c251 :: c252 :: c253 :: c254 :: c255 :: c256 :: c257 :: c258 :: c259 :: c260 :: c261 :: c262 :: c263 :: c264 :: c265 :: c266 :: c267 :: c268 :: c269 :: c270 :: c271 :: []), []⟩ w') :
    (Code.loop (sumLoop 4)).wp Tryd.prog Q0 ⟨List.toArray (c0 :: c1 :: c2 :: .slice (some ⟨gb, o, none⟩) m3 c3 :: c4 :: c5 :: c6 :: c7 :: .int .i64 (64 * (k : Int)) :: .slice (some ⟨gw, 0, none⟩) 64 64 :: .int .i64 (i : Int) :: .int .i64 0 :: c12 :: c13 :: c14 :: c15 :: c16 :: c17 :: c18 :: c19 :: c20 :: c21 :: c22 :: c23 :: c24 :: c25 :: c26 :: c27 :: c28 :: c29 :: c30 :: c31 :: c32 :: c33 :: c34 :: c35 :: c36 :: c37 :: c38 :: c39 :: c40 :: c41 :: c42 :: c43 :: c44 :: c45 :: c46 :: c47 :: c48 :: c49 :: c50 :: c51 :: c52 :: c53 :: c54 :: c55 :: c56 :: c57 :: c58 :: c59 :: c60 :: c61 :: c62 :: c63 :: c64 :: c65 :: c66 :: c67 :: c68 :: c69 :: c70 :: c71 :: c72 :: c73 :: c74 :: c75 :: c76 :: c77 :: c78 :: c79 :: c80 :: c81 :: c82 :: c83 :: c84 :: c85 :: c86 :: c87 :: c88 :: c89 :: c90 :: c91 :: c92 :: c93 :: c94 :: c95 :: c96 :: c97 :: c98 :: c99 :: c100 :: c101 :: c102 :: c103 :: c104 :: c105 :: c106 :: c107 :: c108 :: c109 :: c110 :: c111 :: c112 :: c113 :: c114 :: c115 :: c116 :: c117 :: c118 :: c119 :: c120 :: c121 :: c122 :: c123 :: c124 :: c125 :: c126 :: c127 :: c128 :: c129 :: c130 :: c131 :: c132 :: c133 :: c134 :: c135 :: c136 :: c137 :: c138 :: c139 :: c140 :: c141 :: c142 :: c143 :: c144 :: c145 :: c146 :: c147 :: c148 :: c149 :: c150 :: c151 :: c152 :: c153 :: c154 :: c155 :: c156 :: c157 :: c158 :: c159 :: c160 :: c161 :: c162 :: c163 :: c164 :: c165 :: c166 :: c167 :: c168 :: c169 :: c170 :: c171 :: c172 :: c173 :: c174 :: c175 :: c176 :: c177 :: c178 :: c179 :: c180 :: c181 :: c182 :: c183 :: c184 :: c185 :: c186 :: c187 :: c188 :: c189 :: c190 :: c191 :: c192 :: c193 :: c194 :: c195 :: c196 :: c197 :: c198 :: c199 :: c200 :: c201 :: c202 :: c203 :: c204 :: c205 :: c206 :: c207 :: c208 :: c209 :: c210 :: c211 :: c212 :: c213 :: c214 :: c215 :: c216 :: c217 :: c218 :: c219 :: c220 :: c221 :: c222 :: c223 :: c224 :: c225 :: c226 :: c227 :: c228 :: c229 :: c230 :: c231 :: c232 :: c233 :: c234 :: c235 :: c236 :: c237 :: c238 :: c239 :: c240 :: c241 :: c242 :: c243 :: c244 :: c245 :: c246 :: c247 :: c248 :: c249 :: c250 :: c251 :: c252 :: c253 :: c254 :: c255 :: c256 :: c257 :: c258 :: c259 :: c260 :: c261 :: c262 :: c263 :: c264 :: c265 :: c266 :: c267 :: c268 :: c269 :: c270 :: c271 :: []), []⟩ w := by
  have HM := Lib.hid hmsg
  have HPL := Lib.hid hpl
  have HLN := Lib.hid hlen
  have HW := Lib.hid hw
  have HE := Lib.hid hexit
  clear hmsg hpl hlen hw hexit
  conv => arg 2; arg 1; whnf
  go_loopw [11] (fun j wr => ∃ t : Nat, t ≤ 4 ∧ j = .int .i64 t ∧ Hid (Blk wr gw 63 (u32s (pre ++ Sha.part bs i t :: post)) ∧ w.grownBy wr (some gw))) (fun j _ => 4 - (intOf j).toNat)
  case atStart => exact ⟨0, by omega, rfl, Lib.hid ⟨HW.out, World.grownBy.refl w _⟩⟩
  case round =>
    obtain ⟨t, ht, rfl, HR⟩ := hrel
    by_cases hlt : t < 4
    · have c1 := cell_grown HR.out.2 (HM.out t hlt) hne
      have c2 : wr.cell? ⟨gw, i, none⟩ = some (.int .u32 ((Sha.part bs i t : Nat) : Int)) := by
        rw [HR.out.1.cell, u32s_get _ _ (by have := HLN.out; simp at this ⊢; omega)]
        have e := get_mid pre post (Sha.part bs i t)
        rw [HPL.out] at e
        rw [e]
      have f2 := HR.out.1.frozen i
      have hpw := Sha.part_wrap hb i t hlt
      have hpt := Sha.part_lt hb i t (by omega)
      have hbt := hb (4 * i + t)
      have h4 : 256 ^ t ≤ 256 ^ 4 := Nat.pow_le_pow_right (by decide) (by omega)
      have HV := Lib.hid (show (((Sha.part bs i t : Nat) : Int) * 256 + ((bs.getD (4 * i + t) 0 : Nat) : Int)) % 4294967296 = ((Sha.part bs i (t + 1) : Nat) : Int) by rw [← hpw]; omega)
      have HS := Lib.hid (show (u32s (pre ++ Sha.part bs i t :: post)).setIfInBounds i (.int .u32 ((Sha.part bs i (t + 1) : Nat) : Int)) = u32s (pre ++ Sha.part bs i (t + 1) :: post) by
        rw [u32s_set]; have e := set_mid pre post (Sha.part bs i t) (Sha.part bs i (t + 1)); rw [HPL.out] at e; rw [e])
      clear hpw hpt h4
      generalize bs.getD (4 * i + t) 0 = bt at c1 hbt HV
      generalize Sha.part bs i t = pt at *
      have W1 : IntKind.i64.wrap (4 * ((i : Nat) : Int)) = 4 * i := IntWalk.i64_in _ (by omega)
      have W2 : IntKind.i64.wrap (64 * ((k : Nat) : Int) + 4 * i) = 64 * k + 4 * i := IntWalk.i64_in _ (by omega)
      have W3 : IntKind.i64.wrap (64 * ((k : Nat) : Int) + 4 * i + t) = 64 * k + 4 * i + t := IntWalk.i64_in _ (by omega)
      have W4 : (64 * ((k : Nat) : Int) + 4 * i + t).toNat = 64 * k + 4 * i + t := by omega
      have W5 : (0 : Int) ≤ 64 * ((k : Nat) : Int) + 4 * i + t := by omega
      have W6 : 64 * ((k : Nat) : Int) + 4 * i + t < m3 := by omega
      have W7 : ((i : Nat) : Int) < 64 := by omega
      have W8 : (0 : Int) ≤ ((i : Nat) : Int) := by omega
      go_wp2
      refine wp_region_still_tail 19 (by kernel_rfl) (by kernel_rfl) ?_
      change wpStill _ _ wr.drew _ _ _
      dsimp only [List.take, List.drop]
      repeat still_step
      refine wpStill_nil ?_
      change wpList _ _ _ _ _ wr.drew
      go_wp2
      go_roundw
      case rel => exact ⟨t + 1, by omega, by go_num, Lib.hid ⟨by rw [← HS.out, ← HV.out]; exact (HR.out.1.set_ i _).drew, only_drew (only_setCell HR.out.2 (.inl rfl) _)⟩⟩
      case measure => simp [intOf]; omega
    · obtain rfl : t = 4 := by omega
      have HP := Lib.hid (Sha.part_four bs i)
      go_wp2
      refine HE.out _ _ _ _ _ _ _ _ _ _ _ _ _ _ _ _ _ _ _ _ _ _ _ wr ?_ HR.out.2
      rw [← HP.out]
      exact HR.out.1
end Go.Proofs.YtgjcfmgaioiogaaDoor
