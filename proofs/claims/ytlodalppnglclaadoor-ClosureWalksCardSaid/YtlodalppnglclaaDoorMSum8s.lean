/- The walk of the loop of the document's own digest that adds a block's words to the eight. -/
import Derived.Test.YtlodalppnglclaaDoorMRefMaths
namespace Go.Proofs.YtlodalppnglclaaDoor
open Go Go.RowKit
theorem set_split (A l : List Nat) (i : Nat) (h : i < l.length) (e : A.length = l.length) : (A.take i ++ l.drop i).set i (A.getD i 0) = A.take (i + 1) ++ l.drop (i + 1) := by
  have h1 : (A.take i).length = i := by rw [List.length_take]; omega
  have e2 : l.drop i = l[i] :: l.drop (i + 1) := List.drop_eq_getElem_cons h
  have h3 := set_mid (A.take i) (l.drop (i + 1)) l[i] (A.getD i 0)
  rw [h1] at h3
  rw [e2, h3, List.take_succ_eq_append_getElem (show i < A.length by omega), List.getD_eq_getElem?_getD, List.getElem?_eq_getElem (show i < A.length by omega), List.append_assoc]
  rfl
theorem get_split (A l : List Nat) (i : Nat) (h : i < l.length) (e : A.length = l.length) : (A.take i ++ l.drop i).getD i 0 = l.getD i 0 := by
  have h1 : (A.take i).length = i := by rw [List.length_take]; omega
  rw [List.getD_eq_getElem?_getD, List.getElem?_append_right (by omega), h1, Nat.sub_self, List.getElem?_drop, Nat.add_zero, ← List.getD_eq_getElem?_getD]
theorem len_split (A l : List Nat) (i : Nat) (h : i ≤ l.length) (e : A.length = l.length) : (A.take i ++ l.drop i).length = l.length := by
  rw [List.length_append, List.length_take, List.length_drop]; omega
def word8 (s : Sha.S8) : List Nat := [s.a, s.b, s.c, s.d, s.e, s.f, s.g, s.h]
set_option maxRecDepth 100000 in
set_option maxHeartbeats 2000000 in
theorem sum8_any (c0 c1 c2 c3 c4 c5 c6 c8 c9 c10 c11 c12 c13 c14 c15 c16 c17 c18 c19 c20 c21 c22 c23 c24 c25 c26 c27 c28 c29 c30 c31 c32 c33 c34 c35 c36 c37 c38 c39 c40 c41 c42 c43 c44 c45 c46 c47 c48 c49 c50 c51 c52 c53 c54 c55 c56 c57 c58 c59 c60 c61 c62 c63 c64 c65 c66 c67 c68 c69 c70 c71 c72 c73 c74 c75 c76 c77 c78 c79 c80 c81 c82 c83 c84 c85 c86 c87 c88 c89 c90 c91 c92 c93 c94 c95 c96 c97 c98 c99 c100 c101 c102 c103 c104 c105 c106 c107 c108 c109 c110 c111 c112 c113 c114 c115 c116 c117 c118 c119 c120 c121 c122 c123 c124 c125 c126 c127 c128 c129 c130 c131 c132 c133 c134 c135 c136 c137 c138 c139 c140 c141 c142 c143 c144 c145 c146 c147 c148 c149 c150 c151 c152 c153 c154 c155 c156 c157 c158 c159 c160 c161 c162 c163 c164 c165 c166 c167 c168 c169 c170 c171 c172 c173 c174 c175 c176 c177 c178 c179 c180 c181 c182 c183 c184 c185 c186 c187 c188 c189 c190 c191 c192 c193 c194 c195 c196 c197 c198 c199 c200 c201 c202 c203 c204 c205 c206 c207 c208 c209 c210 c211 c212 c213 c214 c215 c216 c217 c218 c219 c220 c221 c222 c223 c224 c225 c226 c227 c228 c229 c230 c231 c232 c233 c234 c235 c236 c240 c241 c242 c243 c244 c245 c246 c247 c248 c249 c250 c251 c252 c253 c254 c255 c256 c257 c258 c259 c260 c261 c262 c263 c264 c265 c266 c267 c268 c269 c270 c271 : Value) (gh gx : Nat) (hs : List Nat) (s : Sha.S8) (w : World) (Q0 : Exit → Act → World → Prop) (hl : hs.length = 8) (hw : Sha.W32 hs) (hok : s.ok) (hne : gh ≠ gx)
    (hh : Blk w gh 92 (u32s hs)) (hx : Blk w gx 92 (u32s (word8 s)))
    (hexit : ∀ (u26 u27 u240 u241 u242 u243 u244 u245 u246 u247 u248 u249 u250 u251 : Value) (w' : World), Blk w' gh 92 (u32s (Sha.addS hs s)) → w.grownBy w' (some gh) → Q0 (.exit 14) ⟨List.toArray (c0 :: c1 :: c2 :: c3 :: c4 :: c5 :: c6 :: .slice (some ⟨gh, 0, none⟩) 8 8 :: c8 :: c9 :: c10 :: c11 :: c12 :: c13 :: c14 :: c15 :: c16 :: c17 :: c18 :: c19 :: c20 :: c21 :: c22 :: c23 :: c24 :: c25 :: u26 :: u27 :: c28 :: c29 :: c30 :: c31 :: c32 :: c33 :: c34 :: c35 :: c36 :: c37 :: c38 :: c39 :: c40 :: c41 :: c42 :: c43 :: c44 :: c45 :: c46 :: c47 :: c48 :: c49 :: c50 :: c51 :: c52 :: c53 :: c54 :: c55 :: c56 :: c57 :: c58 :: c59 :: c60 :: c61 :: c62 :: c63 :: c64 :: c65 :: c66 :: c67 :: c68 :: c69 :: c70 :: c71 :: c72 :: c73 :: c74 :: c75 :: c76 :: c77 :: c78 :: c79 :: c80 :: c81 :: c82 :: c83 :: c84 :: c85 :: c86 :: c87 :: c88 :: c89 :: c90 :: c91 :: c92 :: c93 :: c94 :: c95 :: c96 :: c97 :: c98 :: c99 :: c100 :: c101 :: c102 :: c103 :: c104 :: c105 :: c106 :: c107 :: c108 :: c109 :: c110 :: c111 :: c112 :: c113 :: c114 :: c115 :: c116 :: c117 :: c118 :: c119 :: c120 :: c121 :: c122 :: c123 :: c124 :: c125 :: c126 :: c127 :: c128 :: c129 :: c130 :: c131 :: c132 :: c133 :: c134 :: c135 :: c136 :: c137 :: c138 :: c139 :: c140 :: c141 :: c142 :: c143 :: c144 :: c145 :: c146 :: c147 :: c148 :: c149 :: c150 :: c151 :: c152 :: c153 :: c154 :: c155 :: c156 :: c157 :: c158 :: c159 :: c160 :: c161 :: c162 :: c163 :: c164 :: c165 :: c166 :: c167 :: c168 :: c169 :: c170 :: c171 :: c172 :: c173 :: c174 :: c175 :: c176 :: c177 :: c178 :: c179 :: c180 :: c181 :: c182 :: c183 :: c184 :: c185 :: c186 :: c187 :: c188 :: c189 :: c190 :: c191 :: c192 :: c193 :: c194 :: c195 :: c196 :: c197 :: c198 :: c199 :: c200 :: c201 :: c202 :: c203 :: c204 :: c205 :: c206 :: c207 :: c208 :: c209 :: c210 :: c211 :: c212 :: c213 :: c214 :: c215 :: c216 :: c217 :: c218 :: c219 :: c220 :: c221 :: c222 :: c223 :: c224 :: c225 :: c226 :: c227 :: c228 :: c229 :: c230 :: c231 :: c232 :: c233 :: c234 :: c235 :: c236 :: .slice (some ⟨gx, 0, none⟩) 8 8 :: .int .i64 8 :: .int .i64 8 :: u240 :: u241 :: u242 :: u243 :: u244 :: u245 :: u246 :: u247 :: u248 :: u249 :: u250 :: u251 :: c252 :: c253 :: c254 :: c255 :: c256 :: c257 :: c258 :: c259 :: c260 :: c261 :: c262 :: c263 :: c264 :: c265 :: c266 :: c267 :: c268 :: c269 :: c270 :: c271 :: []), []⟩ w') :
    (Code.loop (sumLoop 7)).wp Tryd.prog Q0 ⟨List.toArray (c0 :: c1 :: c2 :: c3 :: c4 :: c5 :: c6 :: .slice (some ⟨gh, 0, none⟩) 8 8 :: c8 :: c9 :: c10 :: c11 :: c12 :: c13 :: c14 :: c15 :: c16 :: c17 :: c18 :: c19 :: c20 :: c21 :: c22 :: c23 :: c24 :: c25 :: c26 :: c27 :: c28 :: c29 :: c30 :: c31 :: c32 :: c33 :: c34 :: c35 :: c36 :: c37 :: c38 :: c39 :: c40 :: c41 :: c42 :: c43 :: c44 :: c45 :: c46 :: c47 :: c48 :: c49 :: c50 :: c51 :: c52 :: c53 :: c54 :: c55 :: c56 :: c57 :: c58 :: c59 :: c60 :: c61 :: c62 :: c63 :: c64 :: c65 :: c66 :: c67 :: c68 :: c69 :: c70 :: c71 :: c72 :: c73 :: c74 :: c75 :: c76 :: c77 :: c78 :: c79 :: c80 :: c81 :: c82 :: c83 :: c84 :: c85 :: c86 :: c87 :: c88 :: c89 :: c90 :: c91 :: c92 :: c93 :: c94 :: c95 :: c96 :: c97 :: c98 :: c99 :: c100 :: c101 :: c102 :: c103 :: c104 :: c105 :: c106 :: c107 :: c108 :: c109 :: c110 :: c111 :: c112 :: c113 :: c114 :: c115 :: c116 :: c117 :: c118 :: c119 :: c120 :: c121 :: c122 :: c123 :: c124 :: c125 :: c126 :: c127 :: c128 :: c129 :: c130 :: c131 :: c132 :: c133 :: c134 :: c135 :: c136 :: c137 :: c138 :: c139 :: c140 :: c141 :: c142 :: c143 :: c144 :: c145 :: c146 :: c147 :: c148 :: c149 :: c150 :: c151 :: c152 :: c153 :: c154 :: c155 :: c156 :: c157 :: c158 :: c159 :: c160 :: c161 :: c162 :: c163 :: c164 :: c165 :: c166 :: c167 :: c168 :: c169 :: c170 :: c171 :: c172 :: c173 :: c174 :: c175 :: c176 :: c177 :: c178 :: c179 :: c180 :: c181 :: c182 :: c183 :: c184 :: c185 :: c186 :: c187 :: c188 :: c189 :: c190 :: c191 :: c192 :: c193 :: c194 :: c195 :: c196 :: c197 :: c198 :: c199 :: c200 :: c201 :: c202 :: c203 :: c204 :: c205 :: c206 :: c207 :: c208 :: c209 :: c210 :: c211 :: c212 :: c213 :: c214 :: c215 :: c216 :: c217 :: c218 :: c219 :: c220 :: c221 :: c222 :: c223 :: c224 :: c225 :: c226 :: c227 :: c228 :: c229 :: c230 :: c231 :: c232 :: c233 :: c234 :: c235 :: c236 :: .slice (some ⟨gx, 0, none⟩) 8 8 :: .int .i64 8 :: .int .i64 0 :: c240 :: c241 :: c242 :: c243 :: c244 :: c245 :: c246 :: c247 :: c248 :: c249 :: c250 :: c251 :: c252 :: c253 :: c254 :: c255 :: c256 :: c257 :: c258 :: c259 :: c260 :: c261 :: c262 :: c263 :: c264 :: c265 :: c266 :: c267 :: c268 :: c269 :: c270 :: c271 :: []), []⟩ w := by
  have HH := Lib.hid hh
  have HX := Lib.hid hx
  have HE := Lib.hid hexit
  have HL := Lib.hid hl
  clear hh hx hexit hl
  conv => arg 2; arg 1; whnf
  go_loopw [239] (fun j wr => ∃ i : Nat, i ≤ 8 ∧ j = .int .i64 i ∧ Hid (Blk wr gh 92 (u32s ((Sha.addS hs s).take i ++ hs.drop i)) ∧ w.grownBy wr (some gh))) (fun j _ => 8 - (intOf j).toNat)
  case atStart => exact ⟨0, by omega, rfl, Lib.hid ⟨HH.out, World.grownBy.refl w _⟩⟩
  case round =>
    obtain ⟨i, hi, rfl, HR⟩ := hrel
    by_cases hlt : i < 8
    · have c1 : wr.cell? ⟨gx, i, none⟩ = some (.int .u32 (((word8 s).getD i 0 : Nat) : Int)) := cell_grown HR.out.2 (by rw [HX.out.cell i, u32s_get _ _ hlt]) (fun e => hne e.symm)
      have c2 : wr.cell? ⟨gh, i, none⟩ = some (.int .u32 ((hs.getD i 0 : Nat) : Int)) := by
        rw [HR.out.1.cell i, u32s_get _ _ (by rw [len_split _ _ _ (by rw [HL.out]; omega) (by rw [HL.out]; rfl), HL.out]; exact hlt), get_split _ _ _ (by rw [HL.out]; exact hlt) (by rw [HL.out]; rfl)]
      have f2 := HR.out.1.frozen i
      have HV := Lib.hid (show ((((hs.getD i 0 : Nat) : Int) + (((word8 s).getD i 0 : Nat) : Int)) % 4294967296) = (((Sha.addS hs s).getD i 0 : Nat) : Int) by
        rw [Sha.addS_get hs s i hlt]; unfold word8; omega)
      have HS := Lib.hid (show (u32s ((Sha.addS hs s).take i ++ hs.drop i)).setIfInBounds i (.int .u32 (((Sha.addS hs s).getD i 0 : Nat) : Int)) = u32s ((Sha.addS hs s).take (i + 1) ++ hs.drop (i + 1)) by
        rw [u32s_set, set_split _ _ _ (by rw [HL.out]; exact hlt) (by rw [HL.out]; rfl)])
      have b1 := hw i
      have b2 : (word8 s).getD i 0 < 4294967296 := by
        obtain ⟨ha, hb, hc, hd, he, hf, hg, hh⟩ := hok
        obtain h | h | h | h | h | h | h | h : i = 0 ∨ i = 1 ∨ i = 2 ∨ i = 3 ∨ i = 4 ∨ i = 5 ∨ i = 6 ∨ i = 7 := by omega
        all_goals (subst h; simpa [word8])
      generalize hs.getD i 0 = x1 at c2 HV b1
      generalize (word8 s).getD i 0 = x2 at c1 HV b2
      go_wp2
      go_roundw
      case rel =>
        refine ⟨i + 1, by omega, by go_num, Lib.hid ⟨?_, only_setCell HR.out.2 (.inl rfl) _⟩⟩
        rw [HV.out, ← HS.out]
        exact HR.out.1.set_ i _
      case measure => simp [intOf]; omega
    · obtain rfl : i = 8 := by omega
      have HF : Hid (Blk wr gh 92 (u32s (Sha.addS hs s))) := Lib.hid (by
        have h := HR.out.1
        rw [List.take_of_length_le (Nat.le_of_eq (Sha.addS_len hs s)), List.drop_of_length_le (Nat.le_of_eq HL.out), List.append_nil] at h
        exact h)
      go_wp2
      refine HE.out _ _ _ _ _ _ _ _ _ _ _ _ _ _ wr HF.out HR.out.2
end Go.Proofs.YtlodalppnglclaaDoor
/- The walk of the loop of the document's own digest that lays the eight words as bytes. -/
namespace Go.Proofs.YtlodalppnglclaaDoor
open Go Go.RowKit
set_option maxRecDepth 100000 in
set_option maxHeartbeats 2000000 in
theorem sum9_any (c0 c1 c2 c3 c4 c5 c6 c8 c9 c10 c11 c12 c13 c14 c15 c16 c17 c18 c19 c20 c21 c22 c23 c24 c25 c26 c27 c29 c30 c31 c32 c33 c34 c35 c36 c37 c38 c39 c40 c41 c42 c43 c44 c45 c46 c47 c48 c49 c50 c51 c52 c53 c54 c55 c56 c57 c58 c59 c60 c61 c62 c63 c64 c65 c66 c67 c68 c69 c70 c71 c72 c73 c74 c75 c76 c77 c78 c79 c80 c81 c82 c83 c84 c85 c86 c87 c88 c89 c90 c91 c92 c93 c94 c95 c96 c97 c98 c99 c100 c101 c102 c103 c104 c105 c106 c107 c108 c109 c110 c111 c112 c113 c114 c115 c116 c117 c118 c119 c120 c121 c122 c123 c124 c125 c126 c127 c128 c129 c130 c131 c132 c133 c134 c135 c136 c137 c138 c139 c140 c141 c142 c143 c144 c145 c146 c147 c148 c149 c150 c151 c152 c153 c154 c155 c156 c157 c158 c159 c160 c161 c162 c163 c164 c165 c166 c167 c168 c169 c170 c171 c172 c173 c174 c175 c176 c177 c178 c179 c180 c181 c182 c183 c184 c185 c186 c187 c188 c189 c190 c191 c192 c193 c194 c195 c196 c197 c198 c199 c200 c201 c202 c203 c204 c205 c206 c207 c208 c209 c210 c211 c212 c213 c214 c215 c216 c217 c218 c219 c220 c221 c222 c223 c224 c225 c226 c227 c228 c229 c230 c231 c232 c233 c234 c235 c236 c237 c238 c239 c240 c241 c242 c243 c244 c245 c246 c247 c248 c249 c250 c251 c252 c254 c255 c256 c257 c258 c259 c260 c261 c262 c263 c264 c265 c266 c267 c268 c269 c270 c271 : Value) (gh go : Nat) (hs : List Nat) (w : World) (Q0 : Exit → Act → World → Prop) (hl : hs.length = 8) (hw : Sha.W32 hs) (hne : gh ≠ go)
    (hh : Blk w gh 92 (u32s hs)) (ho : Blk w go 36 (u8s (List.replicate 32 0)))
    (hexit : ∀ (u29 u254 u255 u256 u257 u258 u259 u260 u261 u262 u263 u264 u265 u266 u267 u268 u269 u270 : Value) (w' : World), Blk w' go 36 (u8s (Sha.join hs)) → w.grownBy w' (some go) → Q0 (.exit 16) ⟨List.toArray (c0 :: c1 :: c2 :: c3 :: c4 :: c5 :: c6 :: .slice (some ⟨gh, 0, none⟩) 8 8 :: c8 :: c9 :: c10 :: c11 :: c12 :: c13 :: c14 :: c15 :: c16 :: c17 :: c18 :: c19 :: c20 :: c21 :: c22 :: c23 :: c24 :: c25 :: c26 :: c27 :: .pointer (some ⟨go, 0, none⟩) :: u29 :: c30 :: c31 :: c32 :: c33 :: c34 :: c35 :: c36 :: c37 :: c38 :: c39 :: c40 :: c41 :: c42 :: c43 :: c44 :: c45 :: c46 :: c47 :: c48 :: c49 :: c50 :: c51 :: c52 :: c53 :: c54 :: c55 :: c56 :: c57 :: c58 :: c59 :: c60 :: c61 :: c62 :: c63 :: c64 :: c65 :: c66 :: c67 :: c68 :: c69 :: c70 :: c71 :: c72 :: c73 :: c74 :: c75 :: c76 :: c77 :: c78 :: c79 :: c80 :: c81 :: c82 :: c83 :: c84 :: c85 :: c86 :: c87 :: c88 :: c89 :: c90 :: c91 :: c92 :: c93 :: c94 :: c95 :: c96 :: c97 :: c98 :: c99 :: c100 :: c101 :: c102 :: c103 :: c104 :: c105 :: c106 :: c107 :: c108 :: c109 :: c110 :: c111 :: c112 :: c113 :: c114 :: c115 :: c116 :: c117 :: c118 :: c119 :: c120 :: c121 :: c122 :: c123 :: c124 :: c125 :: c126 :: c127 :: c128 :: c129 :: c130 :: c131 :: c132 :: c133 :: c134 :: c135 :: c136 :: c137 :: c138 :: c139 :: c140 :: c141 :: c142 :: c143 :: c144 :: c145 :: c146 :: c147 :: c148 :: c149 :: c150 :: c151 :: c152 :: c153 :: c154 :: c155 :: c156 :: c157 :: c158 :: c159 :: c160 :: c161 :: c162 :: c163 :: c164 :: c165 :: c166 :: c167 :: c168 :: c169 :: c170 :: c171 :: c172 :: c173 :: c174 :: c175 :: c176 :: c177 :: c178 :: c179 :: c180 :: c181 :: c182 :: c183 :: c184 :: c185 :: c186 :: c187 :: c188 :: c189 :: c190 :: c191 :: c192 :: c193 :: c194 :: c195 :: c196 :: c197 :: c198 :: c199 :: c200 :: c201 :: c202 :: c203 :: c204 :: c205 :: c206 :: c207 :: c208 :: c209 :: c210 :: c211 :: c212 :: c213 :: c214 :: c215 :: c216 :: c217 :: c218 :: c219 :: c220 :: c221 :: c222 :: c223 :: c224 :: c225 :: c226 :: c227 :: c228 :: c229 :: c230 :: c231 :: c232 :: c233 :: c234 :: c235 :: c236 :: c237 :: c238 :: c239 :: c240 :: c241 :: c242 :: c243 :: c244 :: c245 :: c246 :: c247 :: c248 :: c249 :: c250 :: c251 :: c252 :: .int .i64 32 :: u254 :: u255 :: u256 :: u257 :: u258 :: u259 :: u260 :: u261 :: u262 :: u263 :: u264 :: u265 :: u266 :: u267 :: u268 :: u269 :: u270 :: c271 :: []), []⟩ w') :
    (Code.loop (sumLoop 8)).wp Tryd.prog Q0 ⟨List.toArray (c0 :: c1 :: c2 :: c3 :: c4 :: c5 :: c6 :: .slice (some ⟨gh, 0, none⟩) 8 8 :: c8 :: c9 :: c10 :: c11 :: c12 :: c13 :: c14 :: c15 :: c16 :: c17 :: c18 :: c19 :: c20 :: c21 :: c22 :: c23 :: c24 :: c25 :: c26 :: c27 :: .pointer (some ⟨go, 0, none⟩) :: c29 :: c30 :: c31 :: c32 :: c33 :: c34 :: c35 :: c36 :: c37 :: c38 :: c39 :: c40 :: c41 :: c42 :: c43 :: c44 :: c45 :: c46 :: c47 :: c48 :: c49 :: c50 :: c51 :: c52 :: c53 :: c54 :: c55 :: c56 :: c57 :: c58 :: c59 :: c60 :: c61 :: c62 :: c63 :: c64 :: c65 :: c66 :: c67 :: c68 :: c69 :: c70 :: c71 :: c72 :: c73 :: c74 :: c75 :: c76 :: c77 :: c78 :: c79 :: c80 :: c81 :: c82 :: c83 :: c84 :: c85 :: c86 :: c87 :: c88 :: c89 :: c90 :: c91 :: c92 :: c93 :: c94 :: c95 :: c96 :: c97 :: c98 :: c99 :: c100 :: c101 :: c102 :: c103 :: c104 :: c105 :: c106 :: c107 :: c108 :: c109 :: c110 :: c111 :: c112 :: c113 :: c114 :: c115 :: c116 :: c117 :: c118 :: c119 :: c120 :: c121 :: c122 :: c123 :: c124 :: c125 :: c126 :: c127 :: c128 :: c129 :: c130 :: c131 :: c132 :: c133 :: c134 :: c135 :: c136 :: c137 :: c138 :: c139 :: c140 :: c141 :: c142 :: c143 :: c144 :: c145 :: c146 :: c147 :: c148 :: c149 :: c150 :: c151 :: c152 :: c153 :: c154 :: c155 :: c156 :: c157 :: c158 :: c159 :: c160 :: c161 :: c162 :: c163 :: c164 :: c165 :: c166 :: c167 :: c168 :: c169 :: c170 :: c171 :: c172 :: c173 :: c174 :: c175 :: c176 :: c177 :: c178 :: c179 :: c180 :: c181 :: c182 :: c183 :: c184 :: c185 :: c186 :: c187 :: c188 :: c189 :: c190 :: c191 :: c192 :: c193 :: c194 :: c195 :: c196 :: c197 :: c198 :: c199 :: c200 :: c201 :: c202 :: c203 :: c204 :: c205 :: c206 :: c207 :: c208 :: c209 :: c210 :: c211 :: c212 :: c213 :: c214 :: c215 :: c216 :: c217 :: c218 :: c219 :: c220 :: c221 :: c222 :: c223 :: c224 :: c225 :: c226 :: c227 :: c228 :: c229 :: c230 :: c231 :: c232 :: c233 :: c234 :: c235 :: c236 :: c237 :: c238 :: c239 :: c240 :: c241 :: c242 :: c243 :: c244 :: c245 :: c246 :: c247 :: c248 :: c249 :: c250 :: c251 :: c252 :: .int .i64 0 :: c254 :: c255 :: c256 :: c257 :: c258 :: c259 :: c260 :: c261 :: c262 :: c263 :: c264 :: c265 :: c266 :: c267 :: c268 :: c269 :: c270 :: c271 :: []), []⟩ w := by
  have HH := Lib.hid hh
  have HO := Lib.hid ho
  have HE := Lib.hid hexit
  have HL := Lib.hid hl
  clear hh ho hexit hl
  conv => arg 2; arg 1; whnf
  go_loopw [253] (fun j wr => ∃ i : Nat, i ≤ 32 ∧ j = .int .i64 i ∧ Hid (Blk wr go 36 (u8s ((Sha.join hs).take i ++ (List.replicate 32 0).drop i)) ∧ w.grownBy wr (some go))) (fun j _ => 32 - (intOf j).toNat)
  case atStart => exact ⟨0, by omega, rfl, Lib.hid ⟨HO.out, World.grownBy.refl w _⟩⟩
  case round =>
    obtain ⟨i, hi, rfl, HR⟩ := hrel
    by_cases hlt : i < 32
    · have c1 : wr.cell? ⟨gh, i / 4, none⟩ = some (.int .u32 ((hs.getD (i / 4) 0 : Nat) : Int)) := cell_grown HR.out.2 (by rw [HH.out.cell (i / 4), u32s_get _ _ (by rw [HL.out]; omega)]) hne
      have c2 : ∃ v, wr.cell? ⟨go, i, none⟩ = some (.int .u8 v) := ⟨_, by
        rw [HR.out.1.cell i, u8s_get _ _ (by rw [len_split _ _ _ (by simp; omega) (by rw [Sha.join_len]; rfl)]; simpa using hlt)]⟩
      obtain ⟨v2, c2⟩ := c2
      have f2 := HR.out.1.frozen i
      have HJ := Lib.hid (Sha.join_get hs i hlt)
      have HS := Lib.hid (show (u8s ((Sha.join hs).take i ++ (List.replicate 32 0).drop i)).setIfInBounds i (.int .u8 (((Sha.join hs).getD i 0 : Nat) : Int)) = u8s ((Sha.join hs).take (i + 1) ++ (List.replicate 32 0).drop (i + 1)) by
        rw [u8s_set, set_split _ _ _ (by simpa using hlt) (by rw [Sha.join_len]; rfl)])
      have b1 := hw (i / 4)
      generalize hs.getD (i / 4) 0 = x1 at c1 HJ b1
      go_wp2
      have HV := Lib.hid (show ((x1 : Nat) : Int) / 2 ^ (24 - 8 * (i % 4)) % 256 = (((Sha.join hs).getD i 0 : Nat) : Int) by rw [HJ.out]; simp)
      go_roundw
      case rel =>
        refine ⟨i + 1, by omega, by go_num, Lib.hid ⟨?_, only_setCell HR.out.2 (.inl rfl) _⟩⟩
        rw [HV.out, ← HS.out]
        exact HR.out.1.set_ i _
      case measure => simp [intOf]; omega
    · obtain rfl : i = 32 := by omega
      have HF : Hid (Blk wr go 36 (u8s (Sha.join hs))) := Lib.hid (by
        have h := HR.out.1
        rw [List.take_of_length_le (Nat.le_of_eq (Sha.join_len hs)), show (List.replicate 32 0).drop 32 = ([] : List Nat) from rfl, List.append_nil] at h
        exact h)
      go_wp2
      refine HE.out _ _ _ _ _ _ _ _ _ _ _ _ _ _ _ _ _ _ wr HF.out HR.out.2
end Go.Proofs.YtlodalppnglclaaDoor
