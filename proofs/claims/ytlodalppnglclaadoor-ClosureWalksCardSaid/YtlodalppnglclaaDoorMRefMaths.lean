/- The mathematics of the document's own digest (cartageref01.Sum): the padding grown byte by byte, a word read byte by byte, the words' sum in another order. -/
import Derived.Test.YtlodalppnglclaaDoorMShaMsgMaths
import Derived.Test.YtlodalppnglclaaDoorMShaEnds
import Derived.Test.YtlodalppnglclaaDoorMLawKits
import Derived.Test.YtlodalppnglclaaDoorMOb41s
import Derived.Laws.OwnMore
namespace Go.Proofs.YtlodalppnglclaaDoor
namespace Sha
/-- how many bytes of 0 there are -/
def zeros (n : Nat) : Nat := (119 - n % 64) % 64
theorem zeros_go {n j : Nat} (hj : j ≤ zeros n) : (n + 1 + j) % 64 = 56 ↔ j = zeros n := by
  unfold zeros at *; omega
/-- the message and j bytes of 0 behind 128 -/
def padTo (bs : List Nat) (j : Nat) : List Nat := bs ++ [128] ++ List.replicate j 0
theorem padTo_len (bs : List Nat) (j : Nat) : (padTo bs j).length = bs.length + 1 + j := by simp [padTo]; omega
theorem padTo_succ (bs : List Nat) (j : Nat) : padTo bs j ++ [0] = padTo bs (j + 1) := by
  simp [padTo, List.replicate_succ']
theorem len8_at {n t : Nat} (h : t < 8) : (len8 n).getD t 0 = (8 * n) / 2^(56 - 8*t) % 256 := by
  have e : 8 * (7 - t) = 56 - 8 * t := by omega
  simp [len8, List.getD, h, e]
theorem len8_succ {n t : Nat} (h : t < 8) : (len8 n).take t ++ [(8 * n) / 2^(56 - 8*t) % 256] = (len8 n).take (t + 1) := by
  have h2 : t < (len8 n).length := by rw [len8_len]; exact h
  rw [List.take_succ_eq_append_getElem h2, ← len8_at h]
  simp [List.getD, h2]
theorem padded_eq (bs : List Nat) : padded bs = padTo bs (zeros bs.length) ++ (len8 bs.length).take 8 := by
  rw [List.take_of_length_le (by rw [len8_len]; omega)]; rfl
theorem padded_len (bs : List Nat) : (padded bs).length = 64 * ((bs.length + 72) / 64) := by
  rw [padded_eq, List.length_append, padTo_len, List.length_take, len8_len]; unfold zeros; omega
theorem padded_byte {bs : List Nat} (hb : Byte bs) : Byte (padded bs) := by
  refine ((hb.app ?_).app ?_).app ?_
  · intro i; rcases i with _ | i <;> simp
  · intro i
    by_cases h : i < (119 - bs.length % 64) % 64
    · simp [List.getD, h]
    · simp [List.getD, h]
  · intro i
    by_cases h : i < 8
    · rw [len8_at h]; exact Nat.mod_lt _ (by decide)
    · have e : (len8 bs.length)[i]? = none := List.getElem?_eq_none (by rw [len8_len]; omega)
      simp [List.getD, e]
/-- word i of a block as far as j of its bytes have been read -/
def part (bs : List Nat) (i : Nat) : Nat → Nat
  | 0 => 0
  | j + 1 => (part bs i j * 256 + bs.getD (4*i + j) 0)
theorem part_four (bs : List Nat) (i : Nat) : part bs i 4 = word bs i := by
  simp only [part, word, Nat.add_zero]; omega
theorem part_lt {bs : List Nat} (hb : Byte bs) (i : Nat) : ∀ j, j ≤ 4 → part bs i j < 256 ^ j
  | 0, _ => by simp [part]
  | j + 1, h => by
    have h1 := part_lt hb i j (by omega)
    have h2 := hb (4*i + j)
    simp only [part, Nat.pow_succ]; omega
theorem part_wrap {bs : List Nat} (hb : Byte bs) (i j : Nat) (h : j < 4) : (part bs i j * 256 % 4294967296 + bs.getD (4*i + j) 0) % 4294967296 = part bs i (j + 1) := by
  have h1 := part_lt hb i (j + 1) (by omega)
  have h3 : (256 : Nat) ^ (j + 1) ≤ 256 ^ 4 := Nat.pow_le_pow_right (by decide) (by omega)
  have h4 : (256 : Nat) ^ 4 = 4294967296 := by decide
  simp only [part] at h1 ⊢
  omega
/-- the next word, its terms in the order of the document's own function -/
theorem nextW_late {bs l : List Nat} (h : 16 ≤ l.length) : (((l.getD (l.length-16) 0 + l.getD (l.length-7) 0) % 4294967296 + low (l.getD (l.length-15) 0)) % 4294967296 + high (l.getD (l.length-2) 0)) % 4294967296 = nextW bs l := by
  unfold nextW; rw [if_neg (by omega)]; omega
theorem addS_get (l : List Nat) (s : S8) (i : Nat) (hi : i < 8) : (addS l s).getD i 0 = (l.getD i 0 + [s.a, s.b, s.c, s.d, s.e, s.f, s.g, s.h].getD i 0) % 4294967296 := by
  obtain h | h | h | h | h | h | h | h : i = 0 ∨ i = 1 ∨ i = 2 ∨ i = 3 ∨ i = 4 ∨ i = 5 ∨ i = 6 ∨ i = 7 := by omega
  all_goals (subst h; rfl)
end Sha
end Go.Proofs.YtlodalppnglclaaDoor
/- What the walk of the document's own digest (cartageref01.Sum) keeps while it pads the message. -/
namespace Go.Proofs.YtlodalppnglclaaDoor
open Go Go.RowKit
abbrev res32 (w : World) : World := w.alloc (.cells (u8s (List.replicate 32 0)) 36)
theorem res32_size (w : World) : (res32 w).heap.size = w.heap.size + 1 := by simp
/-- the length that a slice shows -/
def lenVp (v : Value) : Nat := match v with | .slice _ n _ => n | _ => 0
end Go.Proofs.YtlodalppnglclaaDoor
/- The loops of the document's own digest (cartageref01.Sum), taken out of the translation by a function, and what their walks share. -/
namespace Go.Proofs.YtlodalppnglclaaDoor
open Go Go.RowKit
/-- a function's loops, in the order of the text -/
def loopsOf : Code → List Code
  | .loop c => c :: loopsOf c
  | .seq a b => loopsOf a ++ loopsOf b
  | .block _ c => loopsOf c
  | .scope c => loopsOf c
  | .cond _ a b => loopsOf a ++ loopsOf b
  | _ => []
noncomputable def sumLoop (k : Nat) : Code := ((Tryd.f38.body.map loopsOf).getD []).getD k .skip
theorem cell_grown {a w : World} {g : Nat} (h : a.grownBy w (some g)) {b o : Nat} {v : Value} (hc : a.cell? ⟨b, o, none⟩ = some v) (hne : b ≠ g) : w.cell? ⟨b, o, none⟩ = some v := by
  have hb := block_lt_of_cell hc
  have e := h.block b hb (by intro e; cases e; exact hne rfl)
  rw [← hc]
  show (match w.heap[b]? with | some (.cells c _ _) => if (none : Option Nat).isSome then none else c[o]? | _ => none) = (match a.heap[b]? with | some (.cells c _ _) => if (none : Option Nat).isSome then none else c[o]? | _ => none)
  rw [e]
theorem set_mid (pre post : List Nat) (a x : Nat) : (pre ++ a :: post).set pre.length x = pre ++ x :: post := by
  rw [List.set_append_right _ _ (Nat.le_refl _)]; simp
theorem get_mid (pre post : List Nat) (a : Nat) : (pre ++ a :: post).getD pre.length 0 = a := by
  simp [List.getD]
end Go.Proofs.YtlodalppnglclaaDoor
/- The walk of the innermost loop of the document's own digest: a word read byte by byte. -/
namespace Go.Proofs.YtlodalppnglclaaDoor
open Go Go.RowKit
set_option maxRecDepth 100000 in
set_option maxHeartbeats 2000000 in
theorem sum5_any (c0 c1 c2 c4 c5 c6 c7 c12 c13 c14 c15 c16 c17 c18 c19 c20 c21 c22 c23 c24 c25 c26 c27 c28 c29 c30 c31 c32 c33 c34 c35 c36 c37 c38 c39 c40 c41 c42 c43 c44 c45 c46 c47 c48 c49 c50 c51 c52 c53 c54 c55 c56 c57 c58 c59 c60 c61 c62 c63 c64 c65 c66 c67 c68 c69 c70 c71 c72 c73 c74 c75 c76 c77 c78 c79 c80 c81 c82 c83 c84 c85 c86 c87 c88 c89 c90 c91 c92 c93 c94 c95 c96 c97 c98 c99 c100 c101 c102 c103 c104 c105 c106 c107 c108 c109 c110 c111 c112 c113 c114 c115 c116 c117 c118 c119 c120 c121 c122 c123 c124 c125 c126 c127 c128 c129 c130 c131 c132 c133 c134 c135 c136 c137 c138 c139 c140 c141 c142 c143 c144 c145 c146 c147 c148 c149 c150 c151 c152 c153 c154 c155 c156 c157 c158 c159 c160 c161 c162 c163 c164 c165 c166 c167 c168 c169 c170 c171 c172 c173 c174 c175 c176 c177 c178 c179 c180 c181 c182 c183 c184 c185 c186 c187 c188 c189 c190 c191 c192 c193 c194 c195 c196 c197 c198 c199 c200 c201 c202 c203 c204 c205 c206 c207 c208 c209 c210 c211 c212 c213 c214 c215 c216 c217 c218 c219 c220 c221 c222 c223 c224 c225 c226 c227 c228 c229 c230 c231 c232 c233 c234 c235 c236 c237 c238 c239 c240 c241 c242 c243 c244 c245 c246 c247 c248 c249 c250 c251 c252 c253 c254 c255 c256 c257 c258 c259 c260 c261 c262 c263 c264 c265 c266 c267 c268 c269 c270 c271 : Value) (gb o m3 c3 gw i k : Nat) (bs pre post : List Nat) (w : World) (Q0 : Exit → Act → World → Prop) (hb : Sha.Byte bs) (hm : m3 ≤ 1099511628000) (hk : 64 * k + 4 * i + 4 ≤ m3) (hi : i < 64) (hpl : pre.length = i)
    (hlen : (pre ++ 0 :: post).length = 64) (hne : gb ≠ gw) (hmsg : ∀ j, j < 4 → w.cell? ⟨gb, o + (64 * k + 4 * i + j), none⟩ = some (.int .u8 ((bs.getD (4 * i + j) 0 : Nat) : Int))) (hw : Blk w gw 92 (u32s (pre ++ 0 :: post)))
    (hexit : ∀ (u71 u72 u73 u74 u75 u76 u77 u78 u79 u80 u81 u82 u83 u84 u85 u86 u87 u88 u89 u90 u91 u92 u93 : Value) (w' : World), Blk w' gw 92 (u32s (pre ++ Sha.word bs i :: post)) → w.grownBy w' (some gw) → Q0 (.exit 8) ⟨List.toArray (c0 :: c1 :: c2 :: .slice (some ⟨gb, o, none⟩) m3 c3 :: c4 :: c5 :: c6 :: c7 :: .int .i64 (64 * (k : Int)) :: .slice (some ⟨gw, 0, none⟩) 64 64 :: .int .i64 (i : Int) :: .int .i64 4 :: c12 :: c13 :: c14 :: c15 :: c16 :: c17 :: c18 :: c19 :: c20 :: c21 :: c22 :: c23 :: c24 :: c25 :: c26 :: c27 :: c28 :: c29 :: c30 :: c31 :: c32 :: c33 :: c34 :: c35 :: c36 :: c37 :: c38 :: c39 :: c40 :: c41 :: c42 :: c43 :: c44 :: c45 :: c46 :: c47 :: c48 :: c49 :: c50 :: c51 :: c52 :: c53 :: c54 :: c55 :: c56 :: c57 :: c58 :: c59 :: c60 :: c61 :: c62 :: c63 :: c64 :: c65 :: c66 :: c67 :: c68 :: c69 :: c70 :: u71 :: u72 :: u73 :: u74 :: u75 :: u76 :: u77 :: u78 :: u79 :: u80 :: u81 :: u82 :: u83 :: u84 :: u85 :: u86 :: u87 :: u88 :: u89 :: u90 :: u91 :: u92 :: u93 :: c94 :: c95 :: c96 :: c97 :: c98 :: c99 :: c100 :: c101 :: c102 :: c103 :: c104 :: c105 :: c106 :: c107 :: c108 :: c109 :: c110 :: c111 :: c112 :: c113 :: c114 :: c115 :: c116 :: c117 :: c118 :: c119 :: c120 :: c121 :: c122 :: c123 :: c124 :: c125 :: c126 :: c127 :: c128 :: c129 :: c130 :: c131 :: c132 :: c133 :: c134 :: c135 :: c136 :: c137 :: c138 :: c139 :: c140 :: c141 :: c142 :: c143 :: c144 :: c145 :: c146 :: c147 :: c148 :: c149 :: c150 :: c151 :: c152 :: c153 :: c154 :: c155 :: c156 :: c157 :: c158 :: c159 :: c160 :: c161 :: c162 :: c163 :: c164 :: c165 :: c166 :: c167 :: c168 :: c169 :: c170 :: c171 :: c172 :: c173 :: c174 :: c175 :: c176 :: c177 :: c178 :: c179 :: c180 :: c181 :: c182 :: c183 :: c184 :: c185 :: c186 :: c187 :: c188 :: c189 :: c190 :: c191 :: c192 :: c193 :: c194 :: c195 :: c196 :: c197 :: c198 :: c199 :: c200 :: c201 :: c202 :: c203 :: c204 :: c205 :: c206 :: c207 :: c208 :: c209 :: c210 :: c211 :: c212 :: c213 :: c214 :: c215 :: c216 :: c217 :: c218 :: c219 :: c220 :: c221 :: c222 :: c223 :: c224 :: c225 :: c226 :: c227 :: c228 :: c229 :: c230 :: c231 :: c232 :: c233 :: c234 :: c235 :: c236 :: c237 :: c238 :: c239 :: c240 :: c241 :: c242 :: c243 :: c244 :: c245 :: c246 :: c247 :: c248 :: c249 :: c250 :: c251 :: c252 :: c253 :: c254 :: c255 :: c256 :: c257 :: c258 :: c259 :: c260 :: c261 :: c262 :: c263 :: c264 :: c265 :: c266 :: c267 :: c268 :: c269 :: c270 :: c271 :: []), []⟩ w') :
    (Code.loop (sumLoop 4)).wp Tryd.prog Q0 ⟨List.toArray (c0 :: c1 :: c2 :: .slice (some ⟨gb, o, none⟩) m3 c3 :: c4 :: c5 :: c6 :: c7 :: .int .i64 (64 * (k : Int)) :: .slice (some ⟨gw, 0, none⟩) 64 64 :: .int .i64 (i : Int) :: .int .i64 0 :: c12 :: c13 :: c14 :: c15 :: c16 :: c17 :: c18 :: c19 :: c20 :: c21 :: c22 :: c23 :: c24 :: c25 :: c26 :: c27 :: c28 :: c29 :: c30 :: c31 :: c32 :: c33 :: c34 :: c35 :: c36 :: c37 :: c38 :: c39 :: c40 :: c41 :: c42 :: c43 :: c44 :: c45 :: c46 :: c47 :: c48 :: c49 :: c50 :: c51 :: c52 :: c53 :: c54 :: c55 :: c56 :: c57 :: c58 :: c59 :: c60 :: c61 :: c62 :: c63 :: c64 :: c65 :: c66 :: c67 :: c68 :: c69 :: c70 :: c71 :: c72 :: c73 :: c74 :: c75 :: c76 :: c77 :: c78 :: c79 :: c80 :: c81 :: c82 :: c83 :: c84 :: c85 :: c86 :: c87 :: c88 :: c89 :: c90 :: c91 :: c92 :: c93 :: c94 :: c95 :: c96 :: c97 :: c98 :: c99 :: c100 :: c101 :: c102 :: c103 :: c104 :: c105 :: c106 :: c107 :: c108 :: c109 :: c110 :: c111 :: c112 :: c113 :: c114 :: c115 :: c116 :: c117 :: c118 :: c119 :: c120 :: c121 :: c122 :: c123 :: c124 :: c125 :: c126 :: c127 :: c128 :: c129 :: c130 :: c131 :: c132 :: c133 :: c134 :: c135 :: c136 :: c137 :: c138 :: c139 :: c140 :: c141 :: c142 :: c143 :: c144 :: c145 :: c146 :: c147 :: c148 :: c149 :: c150 :: c151 :: c152 :: c153 :: c154 :: c155 :: c156 :: c157 :: c158 :: c159 :: c160 :: c161 :: c162 :: c163 :: c164 :: c165 :: c166 :: c167 :: c168 :: c169 :: c170 :: c171 :: c172 :: c173 :: c174 :: c175 :: c176 :: c177 :: c178 :: c179 :: c180 :: c181 :: c182 :: c183 :: c184 :: c185 :: c186 :: c187 :: c188 :: c189 :: c190 :: c191 :: c192 :: c193 :: c194 :: c195 :: c196 :: c197 :: c198 :: c199 :: c200 :: c201 :: c202 :: c203 :: c204 :: c205 :: c206 :: c207 :: c208 :: c209 :: c210 :: c211 :: c212 :: c213 :: c214 :: c215 :: c216 :: c217 :: c218 :: c219 :: c220 :: c221 :: c222 :: c223 :: c224 :: c225 :: c226 :: c227 :: c228 :: c229 :: c230 :: c231 :: c232 :: c233 :: c234 :: c235 :: c236 :: c237 :: c238 :: c239 :: c240 :: c241 :: c242 :: c243 :: c244 :: c245 :: c246 :: c247 :: c248 :: c249 :: c250 :: c251 :: c252 :: c253 :: c254 :: c255 :: c256 :: c257 :: c258 :: c259 :: c260 :: c261 :: c262 :: c263 :: c264 :: c265 :: c266 :: c267 :: c268 :: c269 :: c270 :: c271 :: []), []⟩ w := by
  have HM := Lib.hid hmsg
  have HPL := Lib.hid hpl
  have HLN := Lib.hid hlen
  have HW := Lib.hid hw
  have HE := Lib.hid hexit
  clear hmsg hpl hlen hw hexit
  conv => arg 2; arg 1; whnf
  go_loopw [11] (fun j wr => ∃ t : Nat, t ≤ 4 ∧ j = .int .i64 t ∧ Hid (Blk wr gw 92 (u32s (pre ++ Sha.part bs i t :: post)) ∧ w.grownBy wr (some gw))) (fun j _ => 4 - (intOf j).toNat)
  case atStart => exact ⟨0, by omega, rfl, Lib.hid ⟨HW.out, World.grownBy.refl w _⟩⟩
  case round =>
    obtain ⟨t, ht, rfl, HR⟩ := hrel
    by_cases hlt : t < 4
    · have c1 := cell_grown HR.out.2 (HM.out t hlt) hne
      have c2 : wr.cell? ⟨gw, i, none⟩ = some (.int .u32 ((Sha.part bs i t : Nat) : Int)) := by
        rw [HR.out.1.cell, u32s_get _ _ (by have := HLN.out; simp at this ⊢; omega)]
        have e := get_mid pre post (Sha.part bs i t)
        rw [HPL.out] at e
        rw [e]
      have f2 := HR.out.1.frozen i
      have hpw := Sha.part_wrap hb i t hlt
      have hpt := Sha.part_lt hb i t (by omega)
      have hbt := hb (4 * i + t)
      have h4 : 256 ^ t ≤ 256 ^ 4 := Nat.pow_le_pow_right (by decide) (by omega)
      have HV := Lib.hid (show (((Sha.part bs i t : Nat) : Int) * 256 + ((bs.getD (4 * i + t) 0 : Nat) : Int)) % 4294967296 = ((Sha.part bs i (t + 1) : Nat) : Int) by rw [← hpw]; omega)
      have HS := Lib.hid (show (u32s (pre ++ Sha.part bs i t :: post)).setIfInBounds i (.int .u32 ((Sha.part bs i (t + 1) : Nat) : Int)) = u32s (pre ++ Sha.part bs i (t + 1) :: post) by
        rw [u32s_set]; have e := set_mid pre post (Sha.part bs i t) (Sha.part bs i (t + 1)); rw [HPL.out] at e; rw [e])
      clear hpw hpt h4
      generalize bs.getD (4 * i + t) 0 = bt at c1 hbt HV
      generalize Sha.part bs i t = pt at *
      have W1 : IntKind.i64.wrap (4 * ((i : Nat) : Int)) = 4 * i := IntWalk.i64_in _ (by omega)
      have W2 : IntKind.i64.wrap (64 * ((k : Nat) : Int) + 4 * i) = 64 * k + 4 * i := IntWalk.i64_in _ (by omega)
      have W3 : IntKind.i64.wrap (64 * ((k : Nat) : Int) + 4 * i + t) = 64 * k + 4 * i + t := IntWalk.i64_in _ (by omega)
      have W4 : (64 * ((k : Nat) : Int) + 4 * i + t).toNat = 64 * k + 4 * i + t := by omega
      have W5 : (0 : Int) ≤ 64 * ((k : Nat) : Int) + 4 * i + t := by omega
      have W6 : 64 * ((k : Nat) : Int) + 4 * i + t < m3 := by omega
      have W7 : ((i : Nat) : Int) < 64 := by omega
      have W8 : (0 : Int) ≤ ((i : Nat) : Int) := by omega
      go_wp2
      refine wp_region_still_tail 19 (by kernel_rfl) (by kernel_rfl) ?_
      change wpStill _ _ wr.drew _ _ _
      dsimp only [List.take, List.drop]
      repeat still_step
      refine wpStill_nil ?_
      change wpList _ _ _ _ _ wr.drew
      go_wp2
      go_roundw
      case rel => exact ⟨t + 1, by omega, by go_num, Lib.hid ⟨by rw [← HS.out, ← HV.out]; exact (HR.out.1.set_ i _).drew, only_drew (only_setCell HR.out.2 (.inl rfl) _)⟩⟩
      case measure => simp [intOf]; omega
    · obtain rfl : t = 4 := by omega
      have HP := Lib.hid (Sha.part_four bs i)
      go_wp2
      refine HE.out _ _ _ _ _ _ _ _ _ _ _ _ _ _ _ _ _ _ _ _ _ _ _ wr ?_ HR.out.2
      rw [← HP.out]
      exact HR.out.1
end Go.Proofs.YtlodalppnglclaaDoor
/- The walk of the loop of the document's own digest that reads the sixteen words of a block. -/
namespace Go.Proofs.YtlodalppnglclaaDoor
open Go Go.RowKit
theorem sched_read (bl : List Nat) (i : Nat) (h : i < 16) : Sha.sched bl i ++ Sha.word bl i :: List.replicate (63 - i) 0 = Sha.sched bl (i + 1) ++ List.replicate (64 - (i + 1)) 0 := by
  have e : Sha.nextW bl (Sha.sched bl i) = Sha.word bl i := by unfold Sha.nextW; rw [Sha.sched_len, if_pos h]
  show _ = Sha.sched bl i ++ [Sha.nextW bl (Sha.sched bl i)] ++ _
  rw [e, show 64 - (i + 1) = 63 - i by omega]; simp
theorem sched_head (bl : List Nat) (i : Nat) (h : i < 64) : Sha.sched bl i ++ List.replicate (64 - i) 0 = Sha.sched bl i ++ 0 :: List.replicate (63 - i) 0 := by
  rw [show 64 - i = (63 - i) + 1 by omega, List.replicate_succ]
set_option maxRecDepth 100000 in
set_option maxHeartbeats 2000000 in
theorem sum4_any (c0 c1 c2 c4 c5 c6 c7 c11 c12 c13 c14 c15 c16 c17 c18 c19 c20 c21 c22 c23 c24 c25 c26 c27 c28 c29 c30 c31 c32 c33 c34 c35 c36 c37 c38 c39 c40 c41 c42 c43 c44 c45 c46 c47 c48 c49 c50 c51 c52 c53 c54 c55 c56 c57 c58 c59 c60 c61 c62 c63 c64 c65 c66 c67 c68 c69 c70 c71 c72 c73 c74 c75 c76 c77 c78 c79 c80 c81 c82 c83 c84 c85 c86 c87 c88 c89 c90 c91 c92 c93 c94 c95 c96 c97 c98 c99 c100 c101 c102 c103 c104 c105 c106 c107 c108 c109 c110 c111 c112 c113 c114 c115 c116 c117 c118 c119 c120 c121 c122 c123 c124 c125 c126 c127 c128 c129 c130 c131 c132 c133 c134 c135 c136 c137 c138 c139 c140 c141 c142 c143 c144 c145 c146 c147 c148 c149 c150 c151 c152 c153 c154 c155 c156 c157 c158 c159 c160 c161 c162 c163 c164 c165 c166 c167 c168 c169 c170 c171 c172 c173 c174 c175 c176 c177 c178 c179 c180 c181 c182 c183 c184 c185 c186 c187 c188 c189 c190 c191 c192 c193 c194 c195 c196 c197 c198 c199 c200 c201 c202 c203 c204 c205 c206 c207 c208 c209 c210 c211 c212 c213 c214 c215 c216 c217 c218 c219 c220 c221 c222 c223 c224 c225 c226 c227 c228 c229 c230 c231 c232 c233 c234 c235 c236 c237 c238 c239 c240 c241 c242 c243 c244 c245 c246 c247 c248 c249 c250 c251 c252 c253 c254 c255 c256 c257 c258 c259 c260 c261 c262 c263 c264 c265 c266 c267 c268 c269 c270 c271 : Value) (gb o m3 c3 gw k : Nat) (bl : List Nat) (w : World) (Q0 : Exit → Act → World → Prop) (hb : Sha.Byte bl) (hm : m3 ≤ 1099511628000) (hk : 64 * k + 64 ≤ m3)
    (hne : gb ≠ gw) (hmsg : ∀ x, x < 64 → w.cell? ⟨gb, o + (64 * k + x), none⟩ = some (.int .u8 ((bl.getD x 0 : Nat) : Int))) (hw : Blk w gw 92 (u32s (List.replicate 64 0)))
    (hexit : ∀ (u11 u67 u68 u69 u70 u71 u72 u73 u74 u75 u76 u77 u78 u79 u80 u81 u82 u83 u84 u85 u86 u87 u88 u89 u90 u91 u92 u93 : Value) (w' : World), Blk w' gw 92 (u32s (Sha.sched bl 16 ++ List.replicate 48 0)) → w.grownBy w' (some gw) → Q0 (.exit 6) ⟨List.toArray (c0 :: c1 :: c2 :: .slice (some ⟨gb, o, none⟩) m3 c3 :: c4 :: c5 :: c6 :: c7 :: .int .i64 (64 * (k : Int)) :: .slice (some ⟨gw, 0, none⟩) 64 64 :: .int .i64 16 :: u11 :: c12 :: c13 :: c14 :: c15 :: c16 :: c17 :: c18 :: c19 :: c20 :: c21 :: c22 :: c23 :: c24 :: c25 :: c26 :: c27 :: c28 :: c29 :: c30 :: c31 :: c32 :: c33 :: c34 :: c35 :: c36 :: c37 :: c38 :: c39 :: c40 :: c41 :: c42 :: c43 :: c44 :: c45 :: c46 :: c47 :: c48 :: c49 :: c50 :: c51 :: c52 :: c53 :: c54 :: c55 :: c56 :: c57 :: c58 :: c59 :: c60 :: c61 :: c62 :: c63 :: c64 :: c65 :: c66 :: u67 :: u68 :: u69 :: u70 :: u71 :: u72 :: u73 :: u74 :: u75 :: u76 :: u77 :: u78 :: u79 :: u80 :: u81 :: u82 :: u83 :: u84 :: u85 :: u86 :: u87 :: u88 :: u89 :: u90 :: u91 :: u92 :: u93 :: c94 :: c95 :: c96 :: c97 :: c98 :: c99 :: c100 :: c101 :: c102 :: c103 :: c104 :: c105 :: c106 :: c107 :: c108 :: c109 :: c110 :: c111 :: c112 :: c113 :: c114 :: c115 :: c116 :: c117 :: c118 :: c119 :: c120 :: c121 :: c122 :: c123 :: c124 :: c125 :: c126 :: c127 :: c128 :: c129 :: c130 :: c131 :: c132 :: c133 :: c134 :: c135 :: c136 :: c137 :: c138 :: c139 :: c140 :: c141 :: c142 :: c143 :: c144 :: c145 :: c146 :: c147 :: c148 :: c149 :: c150 :: c151 :: c152 :: c153 :: c154 :: c155 :: c156 :: c157 :: c158 :: c159 :: c160 :: c161 :: c162 :: c163 :: c164 :: c165 :: c166 :: c167 :: c168 :: c169 :: c170 :: c171 :: c172 :: c173 :: c174 :: c175 :: c176 :: c177 :: c178 :: c179 :: c180 :: c181 :: c182 :: c183 :: c184 :: c185 :: c186 :: c187 :: c188 :: c189 :: c190 :: c191 :: c192 :: c193 :: c194 :: c195 :: c196 :: c197 :: c198 :: c199 :: c200 :: c201 :: c202 :: c203 :: c204 :: c205 :: c206 :: c207 :: c208 :: c209 :: c210 :: c211 :: c212 :: c213 :: c214 :: c215 :: c216 :: c217 :: c218 :: c219 :: c220 :: c221 :: c222 :: c223 :: c224 :: c225 :: c226 :: c227 :: c228 :: c229 :: c230 :: c231 :: c232 :: c233 :: c234 :: c235 :: c236 :: c237 :: c238 :: c239 :: c240 :: c241 :: c242 :: c243 :: c244 :: c245 :: c246 :: c247 :: c248 :: c249 :: c250 :: c251 :: c252 :: c253 :: c254 :: c255 :: c256 :: c257 :: c258 :: c259 :: c260 :: c261 :: c262 :: c263 :: c264 :: c265 :: c266 :: c267 :: c268 :: c269 :: c270 :: c271 :: []), []⟩ w') :
    (Code.loop (sumLoop 3)).wp Tryd.prog Q0 ⟨List.toArray (c0 :: c1 :: c2 :: .slice (some ⟨gb, o, none⟩) m3 c3 :: c4 :: c5 :: c6 :: c7 :: .int .i64 (64 * (k : Int)) :: .slice (some ⟨gw, 0, none⟩) 64 64 :: .int .i64 0 :: c11 :: c12 :: c13 :: c14 :: c15 :: c16 :: c17 :: c18 :: c19 :: c20 :: c21 :: c22 :: c23 :: c24 :: c25 :: c26 :: c27 :: c28 :: c29 :: c30 :: c31 :: c32 :: c33 :: c34 :: c35 :: c36 :: c37 :: c38 :: c39 :: c40 :: c41 :: c42 :: c43 :: c44 :: c45 :: c46 :: c47 :: c48 :: c49 :: c50 :: c51 :: c52 :: c53 :: c54 :: c55 :: c56 :: c57 :: c58 :: c59 :: c60 :: c61 :: c62 :: c63 :: c64 :: c65 :: c66 :: c67 :: c68 :: c69 :: c70 :: c71 :: c72 :: c73 :: c74 :: c75 :: c76 :: c77 :: c78 :: c79 :: c80 :: c81 :: c82 :: c83 :: c84 :: c85 :: c86 :: c87 :: c88 :: c89 :: c90 :: c91 :: c92 :: c93 :: c94 :: c95 :: c96 :: c97 :: c98 :: c99 :: c100 :: c101 :: c102 :: c103 :: c104 :: c105 :: c106 :: c107 :: c108 :: c109 :: c110 :: c111 :: c112 :: c113 :: c114 :: c115 :: c116 :: c117 :: c118 :: c119 :: c120 :: c121 :: c122 :: c123 :: c124 :: c125 :: c126 :: c127 :: c128 :: c129 :: c130 :: c131 :: c132 :: c133 :: c134 :: c135 :: c136 :: c137 :: c138 :: c139 :: c140 :: c141 :: c142 :: c143 :: c144 :: c145 :: c146 :: c147 :: c148 :: c149 :: c150 :: c151 :: c152 :: c153 :: c154 :: c155 :: c156 :: c157 :: c158 :: c159 :: c160 :: c161 :: c162 :: c163 :: c164 :: c165 :: c166 :: c167 :: c168 :: c169 :: c170 :: c171 :: c172 :: c173 :: c174 :: c175 :: c176 :: c177 :: c178 :: c179 :: c180 :: c181 :: c182 :: c183 :: c184 :: c185 :: c186 :: c187 :: c188 :: c189 :: c190 :: c191 :: c192 :: c193 :: c194 :: c195 :: c196 :: c197 :: c198 :: c199 :: c200 :: c201 :: c202 :: c203 :: c204 :: c205 :: c206 :: c207 :: c208 :: c209 :: c210 :: c211 :: c212 :: c213 :: c214 :: c215 :: c216 :: c217 :: c218 :: c219 :: c220 :: c221 :: c222 :: c223 :: c224 :: c225 :: c226 :: c227 :: c228 :: c229 :: c230 :: c231 :: c232 :: c233 :: c234 :: c235 :: c236 :: c237 :: c238 :: c239 :: c240 :: c241 :: c242 :: c243 :: c244 :: c245 :: c246 :: c247 :: c248 :: c249 :: c250 :: c251 :: c252 :: c253 :: c254 :: c255 :: c256 :: c257 :: c258 :: c259 :: c260 :: c261 :: c262 :: c263 :: c264 :: c265 :: c266 :: c267 :: c268 :: c269 :: c270 :: c271 :: []), []⟩ w := by
  have HM := Lib.hid hmsg
  have HW := Lib.hid hw
  have HE := Lib.hid hexit
  clear hmsg hw hexit
  conv => arg 2; arg 1; whnf
  go_loopw [10] (fun j wr => ∃ i : Nat, i ≤ 16 ∧ j = .int .i64 i ∧ Hid (Blk wr gw 92 (u32s (Sha.sched bl i ++ List.replicate (64 - i) 0)) ∧ w.grownBy wr (some gw))) (fun j _ => 16 - (intOf j).toNat)
  case atStart => exact ⟨0, by omega, rfl, Lib.hid ⟨HW.out, World.grownBy.refl w _⟩⟩
  case round =>
    obtain ⟨i, hi, rfl, HR⟩ := hrel
    by_cases hlt : i < 16
    · go_wp2_with fail
      refine sum5_any _ _ _ _ _ _ _ _ _ _ _ _ _ _ _ _ _ _ _ _ _ _ _ _ _ _ _ _ _ _ _ _ _ _ _ _ _ _ _ _ _ _ _ _ _ _ _ _ _ _ _ _ _ _ _ _ _ _ _ _ _ _ _ _ _ _ _ _ _ _ _ _ _ _ _ _ _ _ _ _ _ _ _ _ _ _ _ _ _ _ _ _ _ _ _ _ _ _ _ _ _ _ _ _ _ _ _ _ _ _ _ _ _ _ _ _ _ _ _ _ _ _ _ _ _ _ _ _ _ _ _ _ _ _ _ _ _ _ _ _ _ _ _ _ _ _ _ _ _ _ _ _ _ _ _ _ _ _ _ _ _ _ _ _ _ _ _ _ _ _ _ _ _ _ _ _ _ _ _ _ _ _ _ _ _ _ _ _ _ _ _ _ _ _ _ _ _ _ _ _ _ _ _ _ _ _ _ _ _ _ _ _ _ _ _ _ _ _ _ _ _ _ _ _ _ _ _ _ _ _ _ _ _ _ _ _ _ _ _ _ _ _ _ _ _ _ _ _ _ _ _ _ _ _ _ _ _ _ _ _ _ _ _ _ _ _ _ gb o m3 c3 gw i k bl (Sha.sched bl i) (List.replicate (63 - i) 0) wr _ hb hm (by omega) (by omega) (Sha.sched_len bl i) (by rw [← sched_head bl i (by omega)]; simp [Sha.sched_len]; omega) hne
        (fun j hj => by have h := cell_grown HR.out.2 (HM.out (4 * i + j) (by omega)) hne; rw [← Nat.add_assoc (64 * k)] at h; exact h) (by have h := HR.out.1; rw [sched_head bl i (by omega)] at h; exact h) ?_
      intro v71 v72 v73 v74 v75 v76 v77 v78 v79 v80 v81 v82 v83 v84 v85 v86 v87 v88 v89 v90 v91 v92 v93 w2 hb2 hg2
      have HR2 : Hid (Blk w2 gw 92 (u32s (Sha.sched bl (i + 1) ++ List.replicate (64 - (i + 1)) 0)) ∧ w.grownBy w2 (some gw)) := Lib.hid ⟨by rw [← sched_read bl i hlt]; exact hb2, only_trans HR.out.2 hg2⟩
      clear hb2 hg2
      go_wp2_with fail
      go_roundw
      case rel => exact ⟨i + 1, by omega, by go_num, HR2⟩
      case measure => simp [intOf]; omega
    · obtain rfl : i = 16 := by omega
      go_wp2_with fail
      trace_state
      refine HE.out _ _ _ _ _ _ _ _ _ _ _ _ _ _ _ _ _ _ _ _ _ _ _ _ _ _ _ _ wr HR.out.1 HR.out.2
end Go.Proofs.YtlodalppnglclaaDoor
