/- The walk of the loop of the document's own digest that goes through the sixty-four rounds. -/
import Derived.Test.YtdokojlgcplefaaDoorMSum4s
import Derived.Test.YtdokojlgcplefaaDoorMShaSpreads
import Derived.Test.YtdokojlgcplefaaDoorMLawOpenHks
namespace Go.Proofs.YtdokojlgcplefaaDoor
open Go Go.RowKit
theorem right_gen (x : Nat) (n : Int) (w : World) (hx : x < 4294967296) (hn : (decide (1 ≤ n) && decide (n ≤ 31)) = true) :
  Calls Tryd.prog 59 #[.int .u32 x, .int .u64 n] w fun e w' => e = .returned (.int .u32 (Sha.rl x (32 - n.toNat) : Nat)) ∧ w' = w := by
 rw [Bool.and_eq_true, decide_eq_true_eq, decide_eq_true_eq] at hn
 exact right_lit x n n.toNat w hx (by omega) (by omega) (by omega)
set_option maxRecDepth 100000 in
set_option maxHeartbeats 2000000 in
theorem sum7_any (c0 c1 c2 c3 c4 c5 c7 c8 c10 c11 c12 c13 c14 c24 c25 c26 c27 c28 c29 c30 c31 c32 c33 c34 c35 c36 c37 c38 c39 c40 c41 c42 c43 c44 c45 c46 c47 c48 c49 c50 c51 c52 c53 c54 c55 c56 c57 c58 c59 c60 c61 c62 c63 c64 c65 c66 c67 c68 c69 c70 c71 c72 c73 c74 c75 c76 c77 c78 c79 c80 c81 c82 c83 c84 c85 c86 c87 c88 c89 c90 c91 c92 c93 c94 c95 c96 c97 c98 c99 c100 c101 c102 c103 c104 c105 c106 c107 c108 c109 c110 c111 c112 c113 c114 c115 c116 c117 c118 c119 c120 c121 c122 c123 c124 c125 c126 c127 c128 c129 c130 c131 c132 c133 c134 c135 c136 c137 c138 c139 c140 c141 c142 c143 c144 c145 c146 c147 c148 c149 c150 c151 c152 c153 c154 c155 c156 c157 c158 c159 c160 c161 c162 c163 c164 c165 c166 c167 c168 c169 c170 c171 c172 c173 c174 c175 c176 c177 c178 c179 c180 c181 c182 c183 c184 c185 c186 c187 c188 c189 c190 c191 c192 c193 c194 c195 c196 c197 c198 c199 c200 c201 c202 c203 c204 c205 c206 c207 c208 c209 c210 c211 c212 c213 c214 c215 c216 c217 c218 c219 c220 c221 c222 c223 c224 c225 c226 c227 c228 c229 c230 c231 c232 c233 c234 c235 c236 c237 c238 c239 c240 c241 c242 c243 c244 c245 c246 c247 c248 c249 c250 c251 c252 c253 c254 c255 c256 c257 c258 c259 c260 c261 c262 c263 c264 c265 c266 c267 c268 c269 c270 c271 : Value) (gt gw : Nat) (s0 : Sha.S8) (ws : List Nat) (w : World) (Q0 : Exit → Act → World → Prop) (hs0 : s0.ok) (hwl : ws.length = 64) (hws : Sha.W32 ws)
  (ht : Blk w gt 104 (u32s Sha.K)) (hw : Blk w gw 104 (u32s ws))
  (hexit : ∀ (u24 u25 u164 u165 u166 u167 u168 u169 u170 u171 u172 u173 u174 u175 u176 u177 u178 u179 u180 u181 u182 u183 u184 u185 u186 u187 u188 u189 u190 u191 u192 u193 u194 u195 u196 u197 u198 u199 u200 u201 u202 u203 u204 u205 u206 u207 u208 u209 u210 u211 u212 u213 u214 u215 u216 u217 u218 u219 u220 u221 u222 u223 u224 u225 u226 u227 u228 : Value) (n : Nat), Q0 (.exit 12) ⟨List.toArray (c0 :: c1 :: c2 :: c3 :: c4 :: c5 :: .slice (some ⟨gt, 0, none⟩) 64 64 :: c7 :: c8 :: .slice (some ⟨gw, 0, none⟩) 64 64 :: c10 :: c11 :: c12 :: c13 :: c14 :: .int .u32 ((Sha.rounds s0 ws 64).a : Nat) :: .int .u32 ((Sha.rounds s0 ws 64).b : Nat) :: .int .u32 ((Sha.rounds s0 ws 64).c : Nat) :: .int .u32 ((Sha.rounds s0 ws 64).d : Nat) :: .int .u32 ((Sha.rounds s0 ws 64).e : Nat) :: .int .u32 ((Sha.rounds s0 ws 64).f : Nat) :: .int .u32 ((Sha.rounds s0 ws 64).g : Nat) :: .int .u32 ((Sha.rounds s0 ws 64).h : Nat) :: .int .i64 64 :: u24 :: u25 :: c26 :: c27 :: c28 :: c29 :: c30 :: c31 :: c32 :: c33 :: c34 :: c35 :: c36 :: c37 :: c38 :: c39 :: c40 :: c41 :: c42 :: c43 :: c44 :: c45 :: c46 :: c47 :: c48 :: c49 :: c50 :: c51 :: c52 :: c53 :: c54 :: c55 :: c56 :: c57 :: c58 :: c59 :: c60 :: c61 :: c62 :: c63 :: c64 :: c65 :: c66 :: c67 :: c68 :: c69 :: c70 :: c71 :: c72 :: c73 :: c74 :: c75 :: c76 :: c77 :: c78 :: c79 :: c80 :: c81 :: c82 :: c83 :: c84 :: c85 :: c86 :: c87 :: c88 :: c89 :: c90 :: c91 :: c92 :: c93 :: c94 :: c95 :: c96 :: c97 :: c98 :: c99 :: c100 :: c101 :: c102 :: c103 :: c104 :: c105 :: c106 :: c107 :: c108 :: c109 :: c110 :: c111 :: c112 :: c113 :: c114 :: c115 :: c116 :: c117 :: c118 :: c119 :: c120 :: c121 :: c122 :: c123 :: c124 :: c125 :: c126 :: c127 :: c128 :: c129 :: c130 :: c131 :: c132 :: c133 :: c134 :: c135 :: c136 :: c137 :: c138 :: c139 :: c140 :: c141 :: c142 :: c143 :: c144 :: c145 :: c146 :: c147 :: c148 :: c149 :: c150 :: c151 :: c152 :: c153 :: c154 :: c155 :: c156 :: c157 :: c158 :: c159 :: c160 :: c161 :: c162 :: c163 :: u164 :: u165 :: u166 :: u167 :: u168 :: u169 :: u170 :: u171 :: u172 :: u173 :: u174 :: u175 :: u176 :: u177 :: u178 :: u179 :: u180 :: u181 :: u182 :: u183 :: u184 :: u185 :: u186 :: u187 :: u188 :: u189 :: u190 :: u191 :: u192 :: u193 :: u194 :: u195 :: u196 :: u197 :: u198 :: u199 :: u200 :: u201 :: u202 :: u203 :: u204 :: u205 :: u206 :: u207 :: u208 :: u209 :: u210 :: u211 :: u212 :: u213 :: u214 :: u215 :: u216 :: u217 :: u218 :: u219 :: u220 :: u221 :: u222 :: u223 :: u224 :: u225 :: u226 :: u227 :: u228 :: c229 :: c230 :: c231 :: c232 :: c233 :: c234 :: c235 :: c236 :: c237 :: c238 :: c239 :: c240 :: c241 :: c242 :: c243 :: c244 :: c245 :: c246 :: c247 :: c248 :: c249 :: c250 :: c251 :: c252 :: c253 :: c254 :: c255 :: c256 :: c257 :: c258 :: c259 :: c260 :: c261 :: c262 :: c263 :: c264 :: c265 :: c266 :: c267 :: c268 :: c269 :: c270 :: c271 :: []), []⟩ (w.drewN n)) :
  (Code.loop (sumLoop 6)).wp Tryd.prog Q0 ⟨List.toArray (c0 :: c1 :: c2 :: c3 :: c4 :: c5 :: .slice (some ⟨gt, 0, none⟩) 64 64 :: c7 :: c8 :: .slice (some ⟨gw, 0, none⟩) 64 64 :: c10 :: c11 :: c12 :: c13 :: c14 :: .int .u32 (s0.a : Nat) :: .int .u32 (s0.b : Nat) :: .int .u32 (s0.c : Nat) :: .int .u32 (s0.d : Nat) :: .int .u32 (s0.e : Nat) :: .int .u32 (s0.f : Nat) :: .int .u32 (s0.g : Nat) :: .int .u32 (s0.h : Nat) :: .int .i64 0 :: c24 :: c25 :: c26 :: c27 :: c28 :: c29 :: c30 :: c31 :: c32 :: c33 :: c34 :: c35 :: c36 :: c37 :: c38 :: c39 :: c40 :: c41 :: c42 :: c43 :: c44 :: c45 :: c46 :: c47 :: c48 :: c49 :: c50 :: c51 :: c52 :: c53 :: c54 :: c55 :: c56 :: c57 :: c58 :: c59 :: c60 :: c61 :: c62 :: c63 :: c64 :: c65 :: c66 :: c67 :: c68 :: c69 :: c70 :: c71 :: c72 :: c73 :: c74 :: c75 :: c76 :: c77 :: c78 :: c79 :: c80 :: c81 :: c82 :: c83 :: c84 :: c85 :: c86 :: c87 :: c88 :: c89 :: c90 :: c91 :: c92 :: c93 :: c94 :: c95 :: c96 :: c97 :: c98 :: c99 :: c100 :: c101 :: c102 :: c103 :: c104 :: c105 :: c106 :: c107 :: c108 :: c109 :: c110 :: c111 :: c112 :: c113 :: c114 :: c115 :: c116 :: c117 :: c118 :: c119 :: c120 :: c121 :: c122 :: c123 :: c124 :: c125 :: c126 :: c127 :: c128 :: c129 :: c130 :: c131 :: c132 :: c133 :: c134 :: c135 :: c136 :: c137 :: c138 :: c139 :: c140 :: c141 :: c142 :: c143 :: c144 :: c145 :: c146 :: c147 :: c148 :: c149 :: c150 :: c151 :: c152 :: c153 :: c154 :: c155 :: c156 :: c157 :: c158 :: c159 :: c160 :: c161 :: c162 :: c163 :: c164 :: c165 :: c166 :: c167 :: c168 :: c169 :: c170 :: c171 :: c172 :: c173 :: c174 :: c175 :: c176 :: c177 :: c178 :: c179 :: c180 :: c181 :: c182 :: c183 :: c184 :: c185 :: c186 :: c187 :: c188 :: c189 :: c190 :: c191 :: c192 :: c193 :: c194 :: c195 :: c196 :: c197 :: c198 :: c199 :: c200 :: c201 :: c202 :: c203 :: c204 :: c205 :: c206 :: c207 :: c208 :: c209 :: c210 :: c211 :: c212 :: c213 :: c214 :: c215 :: c216 :: c217 :: c218 :: c219 :: c220 :: c221 :: c222 :: c223 :: c224 :: c225 :: c226 :: c227 :: c228 :: c229 :: c230 :: c231 :: c232 :: c233 :: c234 :: c235 :: c236 :: c237 :: c238 :: c239 :: c240 :: c241 :: c242 :: c243 :: c244 :: c245 :: c246 :: c247 :: c248 :: c249 :: c250 :: c251 :: c252 :: c253 :: c254 :: c255 :: c256 :: c257 :: c258 :: c259 :: c260 :: c261 :: c262 :: c263 :: c264 :: c265 :: c266 :: c267 :: c268 :: c269 :: c270 :: c271 :: []), []⟩ w := by
 have HW := Lib.hid hw
 have HT := Lib.hid ht
 have HE := Lib.hid hexit
 have HL := Lib.hid hwl
 clear hw hexit ht hwl
 conv => arg 2; arg 1; whnf
 go_loopw [15, 16, 17, 18, 19, 20, 21, 22, 23] (fun a b c d e f g h i wr => ∃ (k : Nat) (s : Sha.S8), k ≤ 64 ∧ i = .int .i64 k ∧ Hid (s = Sha.rounds s0 ws k) ∧ a = .int .u32 (s.a : Nat) ∧ b = .int .u32 (s.b : Nat) ∧ c = .int .u32 (s.c : Nat) ∧ d = .int .u32 (s.d : Nat) ∧ e = .int .u32 (s.e : Nat) ∧ f = .int .u32 (s.f : Nat) ∧ g = .int .u32 (s.g : Nat) ∧ h = .int .u32 (s.h : Nat) ∧ Hid (∃ n, wr = w.drewN n)) (fun _ _ _ _ _ _ _ _ i _ => 64 - (intOf i).toNat)
 case atStart => exact ⟨0, s0, by omega, rfl, Lib.hid rfl, rfl, rfl, rfl, rfl, rfl, rfl, rfl, rfl, Lib.hid ⟨0, rfl⟩⟩
 case round =>
  obtain ⟨k, s, hk, rfl, HS, rfl, rfl, rfl, rfl, rfl, rfl, rfl, rfl, HD⟩ := hrel
  obtain ⟨wo, rfl⟩ : ∃ wo : World, wo = wr := ⟨_, rfl⟩
  have HTR := Lib.hid (show Blk wo gt 104 (u32s Sha.K) by obtain ⟨n, e⟩ := HD.out; rw [e]; exact HT.out.drewN n)
  have HWR := Lib.hid (show Blk wo gw 104 (u32s ws) by obtain ⟨n, e⟩ := HD.out; rw [e]; exact HW.out.drewN n)
  by_cases hlt : k < 64
  ·have hok : s.ok := by rw [HS.out]; exact Sha.rounds_ok _ hs0 k
   obtain ⟨a, b, c, d, e, f, g, z⟩ := s
   obtain ⟨ha, hb, hc, hd, he, hf, hg, hh⟩ := hok
   dsimp only at ha hb hc hd he hf hg hh ⊢
   have HT1 := Lib.hid (show Sha.t1 ⟨a, b, c, d, e, f, g, z⟩ (Sha.K.getD k 0) (ws.getD k 0) = (z + Sha.S1 e + Sha.ch e f g + Sha.K.getD k 0 + ws.getD k 0) % 4294967296 from rfl)
   have hk1 := HTR.out.cell k
   rw [u32s_get _ _ (by rw [Sha.K_len]; exact hlt)] at hk1
   have hk2 := HWR.out.cell k
   rw [u32s_get _ _ (by rw [HL.out]; exact hlt)] at hk2
   have b3 := Sha.K_lt k
   have b4 := hws k
   generalize hkk : Sha.K.getD k 0 = kk at hk1 b3 HT1
   generalize hkw : ws.getD k 0 = kw at hk2 b4 HT1
   have HN : Hid (Sha.rnd ⟨a, b, c, d, e, f, g, z⟩ kk kw = Sha.rounds s0 ws (k + 1)) := by
    apply Lib.hid
    show _ = Sha.rnd (Sha.rounds s0 ws k) (Sha.K.getD k 0) (ws.getD k 0)
    rw [hkk, hkw, ← HS.out]
   clear hkk hkw
   have j1 : ((k : Nat) : Int) < 64 := by omega
   have j2 : (0 : Int) ≤ ((k : Nat) : Int) := by omega
   go_wp2
   go_quiet ((go_at_call 59; refine Calls.quiet_of_same (right_gen _ _ _ ?_ ?_); exact he; decide))
   rw [show (6 : Int).toNat = 6 from rfl, show (11 : Int).toNat = 11 from rfl, show (25 : Int).toNat = 25 from rfl]
   rw [show (if IntKind.u32.signed = true then (-1 : Int) else IntKind.u32.max) = IntKind.u32.max from rfl]
   rw [S1_val e he, ch_val e f g he hf hg]
   have b1 := Sha.S1_lt e he
   have b2 := Sha.ch_lt e f g he
   generalize Sha.S1 e = s1 at b1 HT1 ⊢
   generalize Sha.ch e f g = c1 at b2 HT1 ⊢
   have ET : ((((z : Nat) : Int) + s1 + c1 + kk) % 4294967296 + kw) % 4294967296 = ((Sha.t1 ⟨a, b, c, d, e, f, g, z⟩ kk kw : Nat) : Int) := by
    rw [HT1.out]; omega
   have b5 : Sha.t1 ⟨a, b, c, d, e, f, g, z⟩ kk kw < 4294967296 := Nat.mod_lt _ (by decide)
   rw [ET]
   clear ET
   go_wp2_with (go_at_call 59; refine (right_gen _ _ _ ha (by decide)).mono ?_; rintro e w' ⟨rfl, rfl⟩)
   go_roundw
   case rel =>
    refine ⟨k + 1, _, by omega, by go_num, HN, ?_, rfl, rfl, rfl, ?_, rfl, rfl, rfl, Lib.hid (by obtain ⟨n, e⟩ := HD.out; exact ⟨n + nq, by rw [e]; simp⟩)⟩
    ·rw [S0_val a ha, maj_val a b c ha hb hc]
     show _ = Value.int .u32 (((Sha.t1 ⟨a, b, c, d, e, f, g, z⟩ kk kw + (Sha.S0 a + Sha.maj a b c) % 4294967296) % 4294967296 : Nat) : Int)
     congr 1
    ·show _ = Value.int .u32 (((d + Sha.t1 ⟨a, b, c, d, e, f, g, z⟩ kk kw) % 4294967296 : Nat) : Int)
     congr 1
   case measure => simp [intOf]; omega
  ·obtain rfl : k = 64 := by omega
   have e := HS.out
   subst e
   go_wp2
   obtain ⟨nd, rfl⟩ := HD.out
   exact HE.out _ _ _ _ _ _ _ _ _ _ _ _ _ _ _ _ _ _ _ _ _ _ _ _ _ _ _ _ _ _ _ _ _ _ _ _ _ _ _ _ _ _ _ _ _ _ _ _ _ _ _ _ _ _ _ _ _ _ _ _ _ _ _ _ _ _ _ nd
end Go.Proofs.YtdokojlgcplefaaDoor
/- The walk of the loop of the document's own digest that adds a block's words to the eight. -/
namespace Go.Proofs.YtdokojlgcplefaaDoor
open Go Go.RowKit
theorem set_split (A l : List Nat) (i : Nat) (h : i < l.length) (e : A.length = l.length) : (A.take i ++ l.drop i).set i (A.getD i 0) = A.take (i + 1) ++ l.drop (i + 1) := by
 have h1 : (A.take i).length = i := by rw [List.length_take]; omega
 have e2 : l.drop i = l[i] :: l.drop (i + 1) := List.drop_eq_getElem_cons h
 have h3 := set_mid (A.take i) (l.drop (i + 1)) l[i] (A.getD i 0)
 rw [h1] at h3
 rw [e2, h3, List.take_succ_eq_append_getElem (show i < A.length by omega), List.getD_eq_getElem?_getD, List.getElem?_eq_getElem (show i < A.length by omega), List.append_assoc]
 rfl
theorem get_split (A l : List Nat) (i : Nat) (h : i < l.length) (e : A.length = l.length) : (A.take i ++ l.drop i).getD i 0 = l.getD i 0 := by
 have h1 : (A.take i).length = i := by rw [List.length_take]; omega
 rw [List.getD_eq_getElem?_getD, List.getElem?_append_right (by omega), h1, Nat.sub_self, List.getElem?_drop, Nat.add_zero, ← List.getD_eq_getElem?_getD]
theorem len_split (A l : List Nat) (i : Nat) (h : i ≤ l.length) (e : A.length = l.length) : (A.take i ++ l.drop i).length = l.length := by
 rw [List.length_append, List.length_take, List.length_drop]; omega
def word8 (s : Sha.S8) : List Nat := [s.a, s.b, s.c, s.d, s.e, s.f, s.g, s.h]
set_option maxRecDepth 100000 in
set_option maxHeartbeats 2000000 in
theorem sum8_any (c0 c1 c2 c3 c4 c5 c6 c8 c9 c10 c11 c12 c13 c14 c15 c16 c17 c18 c19 c20 c21 c22 c23 c24 c25 c26 c27 c28 c29 c30 c31 c32 c33 c34 c35 c36 c37 c38 c39 c40 c41 c42 c43 c44 c45 c46 c47 c48 c49 c50 c51 c52 c53 c54 c55 c56 c57 c58 c59 c60 c61 c62 c63 c64 c65 c66 c67 c68 c69 c70 c71 c72 c73 c74 c75 c76 c77 c78 c79 c80 c81 c82 c83 c84 c85 c86 c87 c88 c89 c90 c91 c92 c93 c94 c95 c96 c97 c98 c99 c100 c101 c102 c103 c104 c105 c106 c107 c108 c109 c110 c111 c112 c113 c114 c115 c116 c117 c118 c119 c120 c121 c122 c123 c124 c125 c126 c127 c128 c129 c130 c131 c132 c133 c134 c135 c136 c137 c138 c139 c140 c141 c142 c143 c144 c145 c146 c147 c148 c149 c150 c151 c152 c153 c154 c155 c156 c157 c158 c159 c160 c161 c162 c163 c164 c165 c166 c167 c168 c169 c170 c171 c172 c173 c174 c175 c176 c177 c178 c179 c180 c181 c182 c183 c184 c185 c186 c187 c188 c189 c190 c191 c192 c193 c194 c195 c196 c197 c198 c199 c200 c201 c202 c203 c204 c205 c206 c207 c208 c209 c210 c211 c212 c213 c214 c215 c216 c217 c218 c219 c220 c221 c222 c223 c224 c225 c226 c227 c228 c229 c230 c231 c232 c233 c234 c235 c236 c240 c241 c242 c243 c244 c245 c246 c247 c248 c249 c250 c251 c252 c253 c254 c255 c256 c257 c258 c259 c260 c261 c262 c263 c264 c265 c266 c267 c268 c269 c270 c271 : Value) (gh gx : Nat) (hs : List Nat) (s : Sha.S8) (w : World) (Q0 : Exit → Act → World → Prop) (hl : hs.length = 8) (hw : Sha.W32 hs) (hok : s.ok) (hne : gh ≠ gx)
  (hh : Blk w gh 104 (u32s hs)) (hx : Blk w gx 104 (u32s (word8 s)))
  (hexit : ∀ (u26 u27 u240 u241 u242 u243 u244 u245 u246 u247 u248 u249 u250 u251 : Value) (w' : World), Blk w' gh 104 (u32s (Sha.addS hs s)) → w.grownBy w' (some gh) → Q0 (.exit 14) ⟨List.toArray (c0 :: c1 :: c2 :: c3 :: c4 :: c5 :: c6 :: .slice (some ⟨gh, 0, none⟩) 8 8 :: c8 :: c9 :: c10 :: c11 :: c12 :: c13 :: c14 :: c15 :: c16 :: c17 :: c18 :: c19 :: c20 :: c21 :: c22 :: c23 :: c24 :: c25 :: u26 :: u27 :: c28 :: c29 :: c30 :: c31 :: c32 :: c33 :: c34 :: c35 :: c36 :: c37 :: c38 :: c39 :: c40 :: c41 :: c42 :: c43 :: c44 :: c45 :: c46 :: c47 :: c48 :: c49 :: c50 :: c51 :: c52 :: c53 :: c54 :: c55 :: c56 :: c57 :: c58 :: c59 :: c60 :: c61 :: c62 :: c63 :: c64 :: c65 :: c66 :: c67 :: c68 :: c69 :: c70 :: c71 :: c72 :: c73 :: c74 :: c75 :: c76 :: c77 :: c78 :: c79 :: c80 :: c81 :: c82 :: c83 :: c84 :: c85 :: c86 :: c87 :: c88 :: c89 :: c90 :: c91 :: c92 :: c93 :: c94 :: c95 :: c96 :: c97 :: c98 :: c99 :: c100 :: c101 :: c102 :: c103 :: c104 :: c105 :: c106 :: c107 :: c108 :: c109 :: c110 :: c111 :: c112 :: c113 :: c114 :: c115 :: c116 :: c117 :: c118 :: c119 :: c120 :: c121 :: c122 :: c123 :: c124 :: c125 :: c126 :: c127 :: c128 :: c129 :: c130 :: c131 :: c132 :: c133 :: c134 :: c135 :: c136 :: c137 :: c138 :: c139 :: c140 :: c141 :: c142 :: c143 :: c144 :: c145 :: c146 :: c147 :: c148 :: c149 :: c150 :: c151 :: c152 :: c153 :: c154 :: c155 :: c156 :: c157 :: c158 :: c159 :: c160 :: c161 :: c162 :: c163 :: c164 :: c165 :: c166 :: c167 :: c168 :: c169 :: c170 :: c171 :: c172 :: c173 :: c174 :: c175 :: c176 :: c177 :: c178 :: c179 :: c180 :: c181 :: c182 :: c183 :: c184 :: c185 :: c186 :: c187 :: c188 :: c189 :: c190 :: c191 :: c192 :: c193 :: c194 :: c195 :: c196 :: c197 :: c198 :: c199 :: c200 :: c201 :: c202 :: c203 :: c204 :: c205 :: c206 :: c207 :: c208 :: c209 :: c210 :: c211 :: c212 :: c213 :: c214 :: c215 :: c216 :: c217 :: c218 :: c219 :: c220 :: c221 :: c222 :: c223 :: c224 :: c225 :: c226 :: c227 :: c228 :: c229 :: c230 :: c231 :: c232 :: c233 :: c234 :: c235 :: c236 :: .slice (some ⟨gx, 0, none⟩) 8 8 :: .int .i64 8 :: .int .i64 8 :: u240 :: u241 :: u242 :: u243 :: u244 :: u245 :: u246 :: u247 :: u248 :: u249 :: u250 :: u251 :: c252 :: c253 :: c254 :: c255 :: c256 :: c257 :: c258 :: c259 :: c260 :: c261 :: c262 :: c263 :: c264 :: c265 :: c266 :: c267 :: c268 :: c269 :: c270 :: c271 :: []), []⟩ w') :
  (Code.loop (sumLoop 7)).wp Tryd.prog Q0 ⟨List.toArray (c0 :: c1 :: c2 :: c3 :: c4 :: c5 :: c6 :: .slice (some ⟨gh, 0, none⟩) 8 8 :: c8 :: c9 :: c10 :: c11 :: c12 :: c13 :: c14 :: c15 :: c16 :: c17 :: c18 :: c19 :: c20 :: c21 :: c22 :: c23 :: c24 :: c25 :: c26 :: c27 :: c28 :: c29 :: c30 :: c31 :: c32 :: c33 :: c34 :: c35 :: c36 :: c37 :: c38 :: c39 :: c40 :: c41 :: c42 :: c43 :: c44 :: c45 :: c46 :: c47 :: c48 :: c49 :: c50 :: c51 :: c52 :: c53 :: c54 :: c55 :: c56 :: c57 :: c58 :: c59 :: c60 :: c61 :: c62 :: c63 :: c64 :: c65 :: c66 :: c67 :: c68 :: c69 :: c70 :: c71 :: c72 :: c73 :: c74 :: c75 :: c76 :: c77 :: c78 :: c79 :: c80 :: c81 :: c82 :: c83 :: c84 :: c85 :: c86 :: c87 :: c88 :: c89 :: c90 :: c91 :: c92 :: c93 :: c94 :: c95 :: c96 :: c97 :: c98 :: c99 :: c100 :: c101 :: c102 :: c103 :: c104 :: c105 :: c106 :: c107 :: c108 :: c109 :: c110 :: c111 :: c112 :: c113 :: c114 :: c115 :: c116 :: c117 :: c118 :: c119 :: c120 :: c121 :: c122 :: c123 :: c124 :: c125 :: c126 :: c127 :: c128 :: c129 :: c130 :: c131 :: c132 :: c133 :: c134 :: c135 :: c136 :: c137 :: c138 :: c139 :: c140 :: c141 :: c142 :: c143 :: c144 :: c145 :: c146 :: c147 :: c148 :: c149 :: c150 :: c151 :: c152 :: c153 :: c154 :: c155 :: c156 :: c157 :: c158 :: c159 :: c160 :: c161 :: c162 :: c163 :: c164 :: c165 :: c166 :: c167 :: c168 :: c169 :: c170 :: c171 :: c172 :: c173 :: c174 :: c175 :: c176 :: c177 :: c178 :: c179 :: c180 :: c181 :: c182 :: c183 :: c184 :: c185 :: c186 :: c187 :: c188 :: c189 :: c190 :: c191 :: c192 :: c193 :: c194 :: c195 :: c196 :: c197 :: c198 :: c199 :: c200 :: c201 :: c202 :: c203 :: c204 :: c205 :: c206 :: c207 :: c208 :: c209 :: c210 :: c211 :: c212 :: c213 :: c214 :: c215 :: c216 :: c217 :: c218 :: c219 :: c220 :: c221 :: c222 :: c223 :: c224 :: c225 :: c226 :: c227 :: c228 :: c229 :: c230 :: c231 :: c232 :: c233 :: c234 :: c235 :: c236 :: .slice (some ⟨gx, 0, none⟩) 8 8 :: .int .i64 8 :: .int .i64 0 :: c240 :: c241 :: c242 :: c243 :: c244 :: c245 :: c246 :: c247 :: c248 :: c249 :: c250 :: c251 :: c252 :: c253 :: c254 :: c255 :: c256 :: c257 :: c258 :: c259 :: c260 :: c261 :: c262 :: c263 :: c264 :: c265 :: c266 :: c267 :: c268 :: c269 :: c270 :: c271 :: []), []⟩ w := by
 have HH := Lib.hid hh
 have HX := Lib.hid hx
 have HE := Lib.hid hexit
 have HL := Lib.hid hl
 clear hh hx hexit hl
 conv => arg 2; arg 1; whnf
 go_loopw [239] (fun j wr => ∃ i : Nat, i ≤ 8 ∧ j = .int .i64 i ∧ Hid (Blk wr gh 104 (u32s ((Sha.addS hs s).take i ++ hs.drop i)) ∧ w.grownBy wr (some gh))) (fun j _ => 8 - (intOf j).toNat)
 case atStart => exact ⟨0, by omega, rfl, Lib.hid ⟨HH.out, World.grownBy.refl w _⟩⟩
 case round =>
  obtain ⟨i, hi, rfl, HR⟩ := hrel
  by_cases hlt : i < 8
  ·have c1 : wr.cell? ⟨gx, i, none⟩ = some (.int .u32 (((word8 s).getD i 0 : Nat) : Int)) := cell_grown HR.out.2 (by rw [HX.out.cell i, u32s_get _ _ hlt]) (fun e => hne e.symm)
   have c2 : wr.cell? ⟨gh, i, none⟩ = some (.int .u32 ((hs.getD i 0 : Nat) : Int)) := by
    rw [HR.out.1.cell i, u32s_get _ _ (by rw [len_split _ _ _ (by rw [HL.out]; omega) (by rw [HL.out]; rfl), HL.out]; exact hlt), get_split _ _ _ (by rw [HL.out]; exact hlt) (by rw [HL.out]; rfl)]
   have f2 := HR.out.1.frozen i
   have HV := Lib.hid (show ((((hs.getD i 0 : Nat) : Int) + (((word8 s).getD i 0 : Nat) : Int)) % 4294967296) = (((Sha.addS hs s).getD i 0 : Nat) : Int) by
    rw [Sha.addS_get hs s i hlt]; unfold word8; omega)
   have HS := Lib.hid (show (u32s ((Sha.addS hs s).take i ++ hs.drop i)).setIfInBounds i (.int .u32 (((Sha.addS hs s).getD i 0 : Nat) : Int)) = u32s ((Sha.addS hs s).take (i + 1) ++ hs.drop (i + 1)) by
    rw [u32s_set, set_split _ _ _ (by rw [HL.out]; exact hlt) (by rw [HL.out]; rfl)])
   have b1 := hw i
   have b2 : (word8 s).getD i 0 < 4294967296 := by
    obtain ⟨ha, hb, hc, hd, he, hf, hg, hh⟩ := hok
    obtain h | h | h | h | h | h | h | h : i = 0 ∨ i = 1 ∨ i = 2 ∨ i = 3 ∨ i = 4 ∨ i = 5 ∨ i = 6 ∨ i = 7 := by omega
    all_goals (subst h; simpa [word8])
   generalize hs.getD i 0 = x1 at c2 HV b1
   generalize (word8 s).getD i 0 = x2 at c1 HV b2
   go_wp2
   go_roundw
   case rel =>
    refine ⟨i + 1, by omega, by go_num, Lib.hid ⟨?_, only_setCell HR.out.2 (.inl rfl) _⟩⟩
    rw [HV.out, ← HS.out]
    exact HR.out.1.set_ i _
   case measure => simp [intOf]; omega
  ·obtain rfl : i = 8 := by omega
   have HF : Hid (Blk wr gh 104 (u32s (Sha.addS hs s))) := Lib.hid (by
    have h := HR.out.1
    rw [List.take_of_length_le (Nat.le_of_eq (Sha.addS_len hs s)), List.drop_of_length_le (Nat.le_of_eq HL.out), List.append_nil] at h
    exact h)
   go_wp2
   refine HE.out _ _ _ _ _ _ _ _ _ _ _ _ _ _ wr HF.out HR.out.2
end Go.Proofs.YtdokojlgcplefaaDoor
/- The walk of the loop of the document's own digest that lays the eight words as bytes. -/
namespace Go.Proofs.YtdokojlgcplefaaDoor
open Go Go.RowKit
set_option maxRecDepth 100000 in
set_option maxHeartbeats 2000000 in
theorem sum9_any (c0 c1 c2 c3 c4 c5 c6 c8 c9 c10 c11 c12 c13 c14 c15 c16 c17 c18 c19 c20 c21 c22 c23 c24 c25 c26 c27 c29 c30 c31 c32 c33 c34 c35 c36 c37 c38 c39 c40 c41 c42 c43 c44 c45 c46 c47 c48 c49 c50 c51 c52 c53 c54 c55 c56 c57 c58 c59 c60 c61 c62 c63 c64 c65 c66 c67 c68 c69 c70 c71 c72 c73 c74 c75 c76 c77 c78 c79 c80 c81 c82 c83 c84 c85 c86 c87 c88 c89 c90 c91 c92 c93 c94 c95 c96 c97 c98 c99 c100 c101 c102 c103 c104 c105 c106 c107 c108 c109 c110 c111 c112 c113 c114 c115 c116 c117 c118 c119 c120 c121 c122 c123 c124 c125 c126 c127 c128 c129 c130 c131 c132 c133 c134 c135 c136 c137 c138 c139 c140 c141 c142 c143 c144 c145 c146 c147 c148 c149 c150 c151 c152 c153 c154 c155 c156 c157 c158 c159 c160 c161 c162 c163 c164 c165 c166 c167 c168 c169 c170 c171 c172 c173 c174 c175 c176 c177 c178 c179 c180 c181 c182 c183 c184 c185 c186 c187 c188 c189 c190 c191 c192 c193 c194 c195 c196 c197 c198 c199 c200 c201 c202 c203 c204 c205 c206 c207 c208 c209 c210 c211 c212 c213 c214 c215 c216 c217 c218 c219 c220 c221 c222 c223 c224 c225 c226 c227 c228 c229 c230 c231 c232 c233 c234 c235 c236 c237 c238 c239 c240 c241 c242 c243 c244 c245 c246 c247 c248 c249 c250 c251 c252 c254 c255 c256 c257 c258 c259 c260 c261 c262 c263 c264 c265 c266 c267 c268 c269 c270 c271 : Value) (gh go : Nat) (hs : List Nat) (w : World) (Q0 : Exit → Act → World → Prop) (hl : hs.length = 8) (hw : Sha.W32 hs) (hne : gh ≠ go)
  (hh : Blk w gh 104 (u32s hs)) (ho : Blk w go 65 (u8s (List.replicate 32 0)))
  (hexit : ∀ (u29 u254 u255 u256 u257 u258 u259 u260 u261 u262 u263 u264 u265 u266 u267 u268 u269 u270 : Value) (w' : World), Blk w' go 65 (u8s (Sha.join hs)) → w.grownBy w' (some go) → Q0 (.exit 16) ⟨List.toArray (c0 :: c1 :: c2 :: c3 :: c4 :: c5 :: c6 :: .slice (some ⟨gh, 0, none⟩) 8 8 :: c8 :: c9 :: c10 :: c11 :: c12 :: c13 :: c14 :: c15 :: c16 :: c17 :: c18 :: c19 :: c20 :: c21 :: c22 :: c23 :: c24 :: c25 :: c26 :: c27 :: .pointer (some ⟨go, 0, none⟩) :: u29 :: c30 :: c31 :: c32 :: c33 :: c34 :: c35 :: c36 :: c37 :: c38 :: c39 :: c40 :: c41 :: c42 :: c43 :: c44 :: c45 :: c46 :: c47 :: c48 :: c49 :: c50 :: c51 :: c52 :: c53 :: c54 :: c55 :: c56 :: c57 :: c58 :: c59 :: c60 :: c61 :: c62 :: c63 :: c64 :: c65 :: c66 :: c67 :: c68 :: c69 :: c70 :: c71 :: c72 :: c73 :: c74 :: c75 :: c76 :: c77 :: c78 :: c79 :: c80 :: c81 :: c82 :: c83 :: c84 :: c85 :: c86 :: c87 :: c88 :: c89 :: c90 :: c91 :: c92 :: c93 :: c94 :: c95 :: c96 :: c97 :: c98 :: c99 :: c100 :: c101 :: c102 :: c103 :: c104 :: c105 :: c106 :: c107 :: c108 :: c109 :: c110 :: c111 :: c112 :: c113 :: c114 :: c115 :: c116 :: c117 :: c118 :: c119 :: c120 :: c121 :: c122 :: c123 :: c124 :: c125 :: c126 :: c127 :: c128 :: c129 :: c130 :: c131 :: c132 :: c133 :: c134 :: c135 :: c136 :: c137 :: c138 :: c139 :: c140 :: c141 :: c142 :: c143 :: c144 :: c145 :: c146 :: c147 :: c148 :: c149 :: c150 :: c151 :: c152 :: c153 :: c154 :: c155 :: c156 :: c157 :: c158 :: c159 :: c160 :: c161 :: c162 :: c163 :: c164 :: c165 :: c166 :: c167 :: c168 :: c169 :: c170 :: c171 :: c172 :: c173 :: c174 :: c175 :: c176 :: c177 :: c178 :: c179 :: c180 :: c181 :: c182 :: c183 :: c184 :: c185 :: c186 :: c187 :: c188 :: c189 :: c190 :: c191 :: c192 :: c193 :: c194 :: c195 :: c196 :: c197 :: c198 :: c199 :: c200 :: c201 :: c202 :: c203 :: c204 :: c205 :: c206 :: c207 :: c208 :: c209 :: c210 :: c211 :: c212 :: c213 :: c214 :: c215 :: c216 :: c217 :: c218 :: c219 :: c220 :: c221 :: c222 :: c223 :: c224 :: c225 :: c226 :: c227 :: c228 :: c229 :: c230 :: c231 :: c232 :: c233 :: c234 :: c235 :: c236 :: c237 :: c238 :: c239 :: c240 :: c241 :: c242 :: c243 :: c244 :: c245 :: c246 :: c247 :: c248 :: c249 :: c250 :: c251 :: c252 :: .int .i64 32 :: u254 :: u255 :: u256 :: u257 :: u258 :: u259 :: u260 :: u261 :: u262 :: u263 :: u264 :: u265 :: u266 :: u267 :: u268 :: u269 :: u270 :: c271 :: []), []⟩ w') :
  (Code.loop (sumLoop 8)).wp Tryd.prog Q0 ⟨List.toArray (c0 :: c1 :: c2 :: c3 :: c4 :: c5 :: c6 :: .slice (some ⟨gh, 0, none⟩) 8 8 :: c8 :: c9 :: c10 :: c11 :: c12 :: c13 :: c14 :: c15 :: c16 :: c17 :: c18 :: c19 :: c20 :: c21 :: c22 :: c23 :: c24 :: c25 :: c26 :: c27 :: .pointer (some ⟨go, 0, none⟩) :: c29 :: c30 :: c31 :: c32 :: c33 :: c34 :: c35 :: c36 :: c37 :: c38 :: c39 :: c40 :: c41 :: c42 :: c43 :: c44 :: c45 :: c46 :: c47 :: c48 :: c49 :: c50 :: c51 :: c52 :: c53 :: c54 :: c55 :: c56 :: c57 :: c58 :: c59 :: c60 :: c61 :: c62 :: c63 :: c64 :: c65 :: c66 :: c67 :: c68 :: c69 :: c70 :: c71 :: c72 :: c73 :: c74 :: c75 :: c76 :: c77 :: c78 :: c79 :: c80 :: c81 :: c82 :: c83 :: c84 :: c85 :: c86 :: c87 :: c88 :: c89 :: c90 :: c91 :: c92 :: c93 :: c94 :: c95 :: c96 :: c97 :: c98 :: c99 :: c100 :: c101 :: c102 :: c103 :: c104 :: c105 :: c106 :: c107 :: c108 :: c109 :: c110 :: c111 :: c112 :: c113 :: c114 :: c115 :: c116 :: c117 :: c118 :: c119 :: c120 :: c121 :: c122 :: c123 :: c124 :: c125 :: c126 :: c127 :: c128 :: c129 :: c130 :: c131 :: c132 :: c133 :: c134 :: c135 :: c136 :: c137 :: c138 :: c139 :: c140 :: c141 :: c142 :: c143 :: c144 :: c145 :: c146 :: c147 :: c148 :: c149 :: c150 :: c151 :: c152 :: c153 :: c154 :: c155 :: c156 :: c157 :: c158 :: c159 :: c160 :: c161 :: c162 :: c163 :: c164 :: c165 :: c166 :: c167 :: c168 :: c169 :: c170 :: c171 :: c172 :: c173 :: c174 :: c175 :: c176 :: c177 :: c178 :: c179 :: c180 :: c181 :: c182 :: c183 :: c184 :: c185 :: c186 :: c187 :: c188 :: c189 :: c190 :: c191 :: c192 :: c193 :: c194 :: c195 :: c196 :: c197 :: c198 :: c199 :: c200 :: c201 :: c202 :: c203 :: c204 :: c205 :: c206 :: c207 :: c208 :: c209 :: c210 :: c211 :: c212 :: c213 :: c214 :: c215 :: c216 :: c217 :: c218 :: c219 :: c220 :: c221 :: c222 :: c223 :: c224 :: c225 :: c226 :: c227 :: c228 :: c229 :: c230 :: c231 :: c232 :: c233 :: c234 :: c235 :: c236 :: c237 :: c238 :: c239 :: c240 :: c241 :: c242 :: c243 :: c244 :: c245 :: c246 :: c247 :: c248 :: c249 :: c250 :: c251 :: c252 :: .int .i64 0 :: c254 :: c255 :: c256 :: c257 :: c258 :: c259 :: c260 :: c261 :: c262 :: c263 :: c264 :: c265 :: c266 :: c267 :: c268 :: c269 :: c270 :: c271 :: []), []⟩ w := by
 have HH := Lib.hid hh
 have HO := Lib.hid ho
 have HE := Lib.hid hexit
 have HL := Lib.hid hl
 clear hh ho hexit hl
 conv => arg 2; arg 1; whnf
 go_loopw [253] (fun j wr => ∃ i : Nat, i ≤ 32 ∧ j = .int .i64 i ∧ Hid (Blk wr go 65 (u8s ((Sha.join hs).take i ++ (List.replicate 32 0).drop i)) ∧ w.grownBy wr (some go))) (fun j _ => 32 - (intOf j).toNat)
 case atStart => exact ⟨0, by omega, rfl, Lib.hid ⟨HO.out, World.grownBy.refl w _⟩⟩
 case round =>
  obtain ⟨i, hi, rfl, HR⟩ := hrel
  by_cases hlt : i < 32
  ·have c1 : wr.cell? ⟨gh, i / 4, none⟩ = some (.int .u32 ((hs.getD (i / 4) 0 : Nat) : Int)) := cell_grown HR.out.2 (by rw [HH.out.cell (i / 4), u32s_get _ _ (by rw [HL.out]; omega)]) hne
   have c2 : ∃ v, wr.cell? ⟨go, i, none⟩ = some (.int .u8 v) := ⟨_, by
    rw [HR.out.1.cell i, u8s_get _ _ (by rw [len_split _ _ _ (by simp; omega) (by rw [Sha.join_len]; rfl)]; simpa using hlt)]⟩
   obtain ⟨v2, c2⟩ := c2
   have f2 := HR.out.1.frozen i
   have HJ := Lib.hid (Sha.join_get hs i hlt)
   have HS := Lib.hid (show (u8s ((Sha.join hs).take i ++ (List.replicate 32 0).drop i)).setIfInBounds i (.int .u8 (((Sha.join hs).getD i 0 : Nat) : Int)) = u8s ((Sha.join hs).take (i + 1) ++ (List.replicate 32 0).drop (i + 1)) by
    rw [u8s_set, set_split _ _ _ (by simpa using hlt) (by rw [Sha.join_len]; rfl)])
   have b1 := hw (i / 4)
   generalize hs.getD (i / 4) 0 = x1 at c1 HJ b1
   go_wp2
   have HV := Lib.hid (show ((x1 : Nat) : Int) / 2 ^ (24 - 8 * (i % 4)) % 256 = (((Sha.join hs).getD i 0 : Nat) : Int) by rw [HJ.out]; simp)
   go_roundw
   case rel =>
    refine ⟨i + 1, by omega, by go_num, Lib.hid ⟨?_, only_setCell HR.out.2 (.inl rfl) _⟩⟩
    rw [HV.out, ← HS.out]
    exact HR.out.1.set_ i _
   case measure => simp [intOf]; omega
  ·obtain rfl : i = 32 := by omega
   have HF : Hid (Blk wr go 65 (u8s (Sha.join hs))) := Lib.hid (by
    have h := HR.out.1
    rw [List.take_of_length_le (Nat.le_of_eq (Sha.join_len hs)), show (List.replicate 32 0).drop 32 = ([] : List Nat) from rfl, List.append_nil] at h
    exact h)
   go_wp2
   refine HE.out _ _ _ _ _ _ _ _ _ _ _ _ _ _ _ _ _ _ wr HF.out HR.out.2
end Go.Proofs.YtdokojlgcplefaaDoor
