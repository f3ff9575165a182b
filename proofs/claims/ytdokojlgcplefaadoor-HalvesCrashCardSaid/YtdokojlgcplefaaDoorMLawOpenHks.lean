/- Arguments of laws, opened: slices of acts (two numbers, texts, bools). -/
import Derived.Test.YtdokojlgcplefaaDoorMDisk10s
import Derived.Test.YtdokojlgcplefaaDoorMLawOpen3s
import Derived.Test.YtdokojlgcplefaaDoorMHv8s
import Derived.Test.YtdokojlgcplefaaDoorMLawKits
import Derived.Laws.AppendOwn
import Derived.Deep.MidRow
import Derived.Test.YtdokojlgcplefaaDoorMShaSpreads
import Derived.Test.YtdokojlgcplefaaDoorMShaJoins
import Derived.Test.YtdokojlgcplefaaDoorMShaEnds
import Derived.Laws.OwnMore
namespace Go.Proofs.YtdokojlgcplefaaDoor
open Go Go.RowKit Go.WideShapes Go.ChangeShapes Go.Deep
structure ActH where
 kind : Int
 n : Int
 A : Option Addr
 c : Nat
 vs : List Value
 L : List (List Nat)
 K : Option Addr
 kc : Nat
 ts : List Bool
def ActH.cells (x : ActH) : List Value := [.int .i64 x.kind, .int .i64 x.n, .slice x.A x.L.length x.c, .slice x.K x.ts.length x.kc]
structure ActH.Ok (w : World) (x : ActH) : Prop where
 rd : RdLL w (.slice x.A x.L.length x.c) x.vs x.L
 byte : ∀ l ∈ x.L, Sha.Byte l
 ts : RdT w x.K x.ts
 nwf : (Lit.int .i64 x.n).wf = true
 kwf : (Lit.int .i64 x.kind).wf = true
 lm : x.L.length ≤ maxLen
 km : x.ts.length ≤ maxLen
structure HRow (w : World) (b o : Nat) (xs : List ActH) : Prop where
 row : ∀ i x, xs[i]? = some x → w.rangeAt b (o + 4 * i) x.cells
 ok : ∀ x ∈ xs, x.Ok w
 lt : b < w.heap.size
theorem HRow.below {w w' : World} {B b o : Nat} {xs : List ActH} (h : HRow w b o xs) (hb : Below B w w') (hB : w.heap.size ≤ B) : HRow w' b o xs where
 row := fun i x hx => rangeAt_block (h.row i x hx) (hb.block b (Nat.lt_of_lt_of_le h.lt hB))
 ok := fun x hx => ⟨(h.ok x hx).rd.below hb hB, (h.ok x hx).byte, rdT_below (h.ok x hx).ts hb hB, (h.ok x hx).nwf, (h.ok x hx).kwf, (h.ok x hx).lm, (h.ok x hx).km⟩
 lt := Nat.lt_of_lt_of_le h.lt hb.size
section
variable {H : Type} {enc : TypeId × Value → H} {P : Program} {W : World} {held : Bool} {ts t tI tS tE tK q qb : TypeId} {f0 f1 f2 f3 : Field}
theorem open_actsH (hs : P.underlying ts = some (.slice t)) (ht : P.underlying t = some (.struct #[f0, f1, f2, f3])) (g0 : f0.type = tI ∧ f0.offset = 0) (g1 : f1.type = tI ∧ f1.offset = 1) (g2 : f2.type = tS ∧ f2.offset = 2) (g3 : f3.type = tK ∧ f3.offset = 3)
  (hI : P.underlying tI = some (.int .i64)) (hS : P.underlying tS = some (.slice tE)) (hE : P.underlying tE = some (.slice q)) (hq : P.underlying q = some (.int .u8)) (hK : P.underlying tK = some (.slice qb)) (hqb : P.underlying qb = some .bool)
  (cI : P.cellsOf tI = 1) (cS : P.cellsOf tS = 1) (cK : P.cellsOf tK = 1) (cE : P.cellsOf tE = 1) (cq : P.cellsOf q = 1) (cqb : P.cellsOf qb = 1) (ct : P.cellsOf t = 4) {r : Reach} {b0 : Nat} {v : Value} {d : DataW H} {ps : List MemPlace} (h0 : 0 < W.heap.size)
  (hval : Value.okWide P W r b0 ts v) (hd : DataW.Trod enc P W 0 (fun _ => true) held ts v d ps) : ∃ (A : Option Addr) (b o cap : Nat) (xs : List ActH), v = .slice A xs.length cap ∧ (0 < xs.length → A = some ⟨b, o, none⟩) ∧ HRow W b o xs := by
 obtain ⟨fuel, hf⟩ := hd
 rw [slice_cells hs hval] at hf
 rcases DataW.trod_slice hs hf with ⟨hc, _⟩ | ⟨a, len, cap, elems, rest, m, _, hc, _, hba, hlc, hcm, hlen, hel, _⟩
 ·obtain rfl : v = .slice none 0 0 := by simpa using hc
  exact ⟨none, 0, 0, 0, [], rfl, fun h => absurd h (by simp), ⟨fun i x hx => by simp at hx, fun f hf => (by cases hf), h0⟩⟩
 ·obtain rfl : v = .slice (some a) len cap := by simpa using hc
  rw [ct] at hel
  have hx : ∀ i, i < len → ∃ x : ActH, W.cell? (a.add (i * 4)) = some (.int .i64 x.kind) ∧ W.cell? ((a.add (i * 4)).add 1) = some (.int .i64 x.n) ∧ W.cell? ((a.add (i * 4)).add 2) = some (.slice x.A x.L.length x.c) ∧ W.cell? ((a.add (i * 4)).add 3) = some (.slice x.K x.ts.length x.kc) ∧ x.Ok W := fun i hi => by
   have h := hel i hi
   rw [List.getElem?_eq_getElem (by omega)] at h
   simp only [Option.bind_eq_some_iff] at h
   obtain ⟨cs, hcs, hy⟩ := h
   obtain ⟨y0, y1, y2, y3, m', _, hcl, e0, e1, e2, e3⟩ := Joins.trod_struct4 ht hy
   rw [ct] at hcl
   rw [g0.1, g0.2, cI] at e0
   rw [g1.1, g1.2, cI] at e1
   rw [g2.1, g2.2, cS] at e2
   rw [g3.1, g3.2, cK] at e3
   match cs, hcl with
   | [c0, c1, c2, c3], _ =>
    have e0' : DataW.trod enc P W 0 (fun _ => true) held m' tI [c0] = some y0 := e0
    have e1' : DataW.trod enc P W 0 (fun _ => true) held m' tI [c1] = some y1 := e1
    have e2' : DataW.trod enc P W 0 (fun _ => true) held m' tS [c2] = some y2 := e2
    have e3' : DataW.trod enc P W 0 (fun _ => true) held m' tK [c3] = some y3 := e3
    obtain ⟨z0, ez0, _, hw0⟩ := DataW.trod_int hI e0'
    obtain ⟨z1, ez1, _, hw1⟩ := DataW.trod_int hI e1'
    obtain ⟨us, pss, hr, hpl, hrd, hbx, hum, _⟩ := open_partsT hS hE hq cE cq e2'
    obtain ⟨K, bsK, kc, rfl, hrt, hkm⟩ := rdT_of_bools hK hqb cqb e3'
    injection ez0 with ez0 _
    injection ez1 with ez1 _
    subst ez0 ez1
    obtain ⟨A, c, rfl, hcc, hAA⟩ := hr
    have hRL : RdLL W (.slice A pss.length c) us pss := ⟨A, c, rfl, by omega, hpl.symm, fun h => hAA (by omega), hrd⟩
    unfold World.cells? at hcs
    split at hcs
    ·obtain ⟨u0, k1, k2⟩ := mapM_cellsA _ _ hcs 0 (by simp)
     obtain ⟨u1, k3, k4⟩ := mapM_cellsA _ _ hcs 1 (by simp)
     obtain ⟨u2, k5, k6⟩ := mapM_cellsA _ _ hcs 2 (by simp)
     obtain ⟨u3, k7, k8⟩ := mapM_cellsA _ _ hcs 3 (by simp)
     obtain rfl := Option.some.inj k1
     obtain rfl := Option.some.inj k3
     obtain rfl := Option.some.inj k5
     obtain rfl := Option.some.inj k7
     have n0 : (a.add (i * 4)).add ((List.range 4).getD 0 0) = a.add (i * 4) := by simp [Addr.add]
     rw [n0] at k2
     exact ⟨⟨z0, z1, A, c, us, pss, K, kc, bsK⟩, k2, k4, by show W.cell? _ = some (.slice A pss.length c); rw [hpl]; exact k6, k8, ⟨hRL, hbx, hrt, hw1, hw0, by show pss.length ≤ maxLen; omega, hkm⟩⟩
    ·cases hcs
  let g : Nat → ActH := fun i => if h : i < len then Classical.choose (hx i h) else ⟨0, 0, none, 0, [], [], none, 0, []⟩
  have hg : ∀ i, i < len → W.cell? (a.add (i * 4)) = some (.int .i64 (g i).kind) ∧ W.cell? ((a.add (i * 4)).add 1) = some (.int .i64 (g i).n) ∧ W.cell? ((a.add (i * 4)).add 2) = some (.slice (g i).A (g i).L.length (g i).c) ∧ W.cell? ((a.add (i * 4)).add 3) = some (.slice (g i).K (g i).ts.length (g i).kc) ∧ (g i).Ok W := fun i hi => by
   have : g i = Classical.choose (hx i hi) := by simp only [g, hi, dif_pos]
   rw [this]; exact Classical.choose_spec (hx i hi)
  have hlen2 : ((List.range len).map g).length = len := by simp
  rcases Nat.eq_zero_or_pos len with rfl | hpos
  ·exact ⟨some a, 0, 0, cap, [], rfl, fun h => absurd h (by simp), ⟨fun i x hx => by simp at hx, fun f hf => (by cases hf), h0⟩⟩
  obtain ⟨b, o, s⟩ := a
  have hc0 := (hg 0 hpos).1
  rw [show (⟨b, o, s⟩ : Addr).add (0 * 4) = ⟨b, o, s⟩ from by simp [Addr.add]] at hc0
  obtain rfl := spot_free hc0
  refine ⟨some ⟨b, o, none⟩, b, o, cap, (List.range len).map g, by rw [hlen2], fun _ => rfl, ⟨fun i x hx => ?_, fun f hf => ?_, block_lt_of_cell hc0⟩⟩
  ·have hi : i < len := by have := (List.getElem?_eq_some_iff.1 hx).1; simpa using this
   have e : x = g i := by simp [hi] at hx; exact hx.symm
   subst e
   have k := hg i hi
   simp only [Addr.add_mid] at k
   intro j u hj
   have hj4 : j < 4 := by have := (List.getElem?_eq_some_iff.1 hj).1; simpa [ActH.cells] using this
   rw [Nat.mul_comm 4 i]
   rcases j with _ | _ | _ | _ | j
   ·obtain rfl := Option.some.inj hj; exact k.1
   ·obtain rfl := Option.some.inj hj; exact k.2.1
   ·obtain rfl := Option.some.inj hj; exact k.2.2.1
   ·obtain rfl := Option.some.inj hj; exact k.2.2.2.1
   ·omega
  ·obtain ⟨i, hi, rfl⟩ := List.mem_map.1 hf
   have hi := List.mem_range.1 hi
   exact (hg i hi).2.2.2.2
end
end Go.Proofs.YtdokojlgcplefaaDoor
/- The walks of cartagenum.Bytes and Kept: a copy with marked room behind, and whether list and room stand as they stood. -/
namespace Go.Proofs.YtdokojlgcplefaaDoor
open Go Go.RowKit
end Go.Proofs.YtdokojlgcplefaaDoor
/- cartageref01.right is a turn to the left by what is left of 32. -/
namespace Go.Proofs.YtdokojlgcplefaaDoor
open Go Go.RowKit
theorem rroot_any (x n : Nat) (w : World) (hx : x < 4294967296) (h1 : 1 ≤ n) (h31 : n ≤ 31) :
  Calls Tryd.prog 59 #[.int .u32 x, .int .u64 (n : Int)] w fun e w' => e = .returned (.int .u32 (Sha.rl x (32 - n) : Nat)) ∧ w = w' := by
 go_enter Tryd.func59, Tryd.ntmps59
 go_wp2
 go_ret
 refine ⟨?_, rfl⟩
 congr 2
 have h2 : x / 2^n ≤ x := Nat.div_le_self _ _
 have e := u32_or (x / 2^n) (x * 2^(32-n) % 4294967296) (by omega) (by omega)
 unfold Sha.rl
 rw [show 32 - (32 - n) = n by omega, Nat.or_comm, ← e]
 simp
set_option maxRecDepth 100000 in
theorem reftable_any (w : World) :
  Calls Tryd.prog 58 #[] w fun e w' => e = .returned (.slice (some ⟨w.heap.size, 0, none⟩) 64 64) ∧ Blk w' w.heap.size 104 (u32s Sha.K) ∧ Below w.heap.size w w' := by
 go_enter Tryd.func58, Tryd.ntmps58
 go_wp2_with fail
 go_ret
 exact ⟨rfl, Blk.new w _ _, (Below.refl _ _).alloc (Nat.le_refl _) _⟩
end Go.Proofs.YtdokojlgcplefaaDoor
/- The mathematics of the document's own digest (cartageref01.Sum): the padding grown byte by byte, a word read byte by byte, the words' sum in another order. -/
namespace Go.Proofs.YtdokojlgcplefaaDoor
namespace Sha
def zeros (n : Nat) : Nat := (119 - n % 64) % 64
theorem zeros_go {n j : Nat} (hj : j ≤ zeros n) : (n + 1 + j) % 64 = 56 ↔ j = zeros n := by
 unfold zeros at *; omega
def padTo (bs : List Nat) (j : Nat) : List Nat := bs ++ [128] ++ List.replicate j 0
theorem padTo_len (bs : List Nat) (j : Nat) : (padTo bs j).length = bs.length + 1 + j := by simp [padTo]; omega
theorem padTo_succ (bs : List Nat) (j : Nat) : padTo bs j ++ [0] = padTo bs (j + 1) := by
 simp [padTo, List.replicate_succ']
theorem len8_at {n t : Nat} (h : t < 8) : (len8 n).getD t 0 = (8 * n) / 2^(56 - 8*t) % 256 := by
 have e : 8 * (7 - t) = 56 - 8 * t := by omega
 simp [len8, List.getD, h, e]
theorem len8_succ {n t : Nat} (h : t < 8) : (len8 n).take t ++ [(8 * n) / 2^(56 - 8*t) % 256] = (len8 n).take (t + 1) := by
 have h2 : t < (len8 n).length := by rw [len8_len]; exact h
 rw [List.take_succ_eq_append_getElem h2, ← len8_at h]
 simp [List.getD, h2]
theorem padded_eq (bs : List Nat) : padded bs = padTo bs (zeros bs.length) ++ (len8 bs.length).take 8 := by
 rw [List.take_of_length_le (by rw [len8_len]; omega)]; rfl
theorem padded_len (bs : List Nat) : (padded bs).length = 64 * ((bs.length + 72) / 64) := by
 rw [padded_eq, List.length_append, padTo_len, List.length_take, len8_len]; unfold zeros; omega
theorem padded_byte {bs : List Nat} (hb : Byte bs) : Byte (padded bs) := by
 refine ((hb.app ?_).app ?_).app ?_
 ·intro i; rcases i with _ | i <;> simp
 ·intro i
  by_cases h : i < (119 - bs.length % 64) % 64
  ·simp [List.getD, h]
  ·simp [List.getD, h]
 ·intro i
  by_cases h : i < 8
  ·rw [len8_at h]; exact Nat.mod_lt _ (by decide)
  ·have e : (len8 bs.length)[i]? = none := List.getElem?_eq_none (by rw [len8_len]; omega)
   simp [List.getD, e]
def part (bs : List Nat) (i : Nat) : Nat → Nat
 | 0 => 0
 | j + 1 => (part bs i j * 256 + bs.getD (4*i + j) 0)
theorem part_four (bs : List Nat) (i : Nat) : part bs i 4 = word bs i := by
 simp only [part, word, Nat.add_zero]; omega
theorem part_lt {bs : List Nat} (hb : Byte bs) (i : Nat) : ∀ j, j ≤ 4 → part bs i j < 256 ^ j
 | 0, _ => by simp [part]
 | j + 1, h => by
  have h1 := part_lt hb i j (by omega)
  have h2 := hb (4*i + j)
  simp only [part, Nat.pow_succ]; omega
theorem part_wrap {bs : List Nat} (hb : Byte bs) (i j : Nat) (h : j < 4) : (part bs i j * 256 % 4294967296 + bs.getD (4*i + j) 0) % 4294967296 = part bs i (j + 1) := by
 have h1 := part_lt hb i (j + 1) (by omega)
 have h3 : (256 : Nat) ^ (j + 1) ≤ 256 ^ 4 := Nat.pow_le_pow_right (by decide) (by omega)
 have h4 : (256 : Nat) ^ 4 = 4294967296 := by decide
 simp only [part] at h1 ⊢
 omega
theorem nextW_late {bs l : List Nat} (h : 16 ≤ l.length) : (((l.getD (l.length-16) 0 + l.getD (l.length-7) 0) % 4294967296 + low (l.getD (l.length-15) 0)) % 4294967296 + high (l.getD (l.length-2) 0)) % 4294967296 = nextW bs l := by
 unfold nextW; rw [if_neg (by omega)]; omega
theorem addS_get (l : List Nat) (s : S8) (i : Nat) (hi : i < 8) : (addS l s).getD i 0 = (l.getD i 0 + [s.a, s.b, s.c, s.d, s.e, s.f, s.g, s.h].getD i 0) % 4294967296 := by
 obtain h | h | h | h | h | h | h | h : i = 0 ∨ i = 1 ∨ i = 2 ∨ i = 3 ∨ i = 4 ∨ i = 5 ∨ i = 6 ∨ i = 7 := by omega
 all_goals (subst h; rfl)
end Sha
end Go.Proofs.YtdokojlgcplefaaDoor
/- What the walk of the document's own digest (cartageref01.Sum) keeps while it pads the message. -/
namespace Go.Proofs.YtdokojlgcplefaaDoor
open Go Go.RowKit
abbrev res32 (w : World) : World := w.alloc (.cells (u8s (List.replicate 32 0)) 65)
theorem res32_size (w : World) : (res32 w).heap.size = w.heap.size + 1 := by simp
def lenVp (v : Value) : Nat := match v with | .slice _ n _ => n | _ => 0
end Go.Proofs.YtdokojlgcplefaaDoor
/- The loops of the document's own digest (cartageref01.Sum), taken out of the translation by a function, and what their walks share. -/
namespace Go.Proofs.YtdokojlgcplefaaDoor
open Go Go.RowKit
def loopsOf : Code → List Code
 | .loop c => c :: loopsOf c
 | .seq a b => loopsOf a ++ loopsOf b
 | .block _ c => loopsOf c
 | .scope c => loopsOf c
 | .cond _ a b => loopsOf a ++ loopsOf b
 | _ => []
noncomputable def sumLoop (k : Nat) : Code := ((Tryd.f46.body.map loopsOf).getD []).getD k .skip
theorem cell_grown {a w : World} {g : Nat} (h : a.grownBy w (some g)) {b o : Nat} {v : Value} (hc : a.cell? ⟨b, o, none⟩ = some v) (hne : b ≠ g) : w.cell? ⟨b, o, none⟩ = some v := by
 have hb := block_lt_of_cell hc
 have e := h.block b hb (by intro e; cases e; exact hne rfl)
 rw [← hc]
 show (match w.heap[b]? with | some (.cells c _ _) => if (none : Option Nat).isSome then none else c[o]? | _ => none) = (match a.heap[b]? with | some (.cells c _ _) => if (none : Option Nat).isSome then none else c[o]? | _ => none)
 rw [e]
theorem set_mid (pre post : List Nat) (a x : Nat) : (pre ++ a :: post).set pre.length x = pre ++ x :: post := by
 rw [List.set_append_right _ _ (Nat.le_refl _)]; simp
theorem get_mid (pre post : List Nat) (a : Nat) : (pre ++ a :: post).getD pre.length 0 = a := by
 simp [List.getD]
end Go.Proofs.YtdokojlgcplefaaDoor
/- The walk of the innermost loop of the document's own digest: a word read byte by byte. -/
namespace Go.Proofs.YtdokojlgcplefaaDoor
open Go Go.RowKit
set_option maxRecDepth 100000 in
set_option maxHeartbeats 2000000 in
theorem sum5_any (c0 c1 c2 c4 c5 c6 c7 c12 c13 c14 c15 c16 c17 c18 c19 c20 c21 c22 c23 c24 c25 c26 c27 c28 c29 c30 c31 c32 c33 c34 c35 c36 c37 c38 c39 c40 c41 c42 c43 c44 c45 c46 c47 c48 c49 c50 c51 c52 c53 c54 c55 c56 c57 c58 c59 c60 c61 c62 c63 c64 c65 c66 c67 c68 c69 c70 c71 c72 c73 c74 c75 c76 c77 c78 c79 c80 c81 c82 c83 c84 c85 c86 c87 c88 c89 c90 c91 c92 c93 c94 c95 c96 c97 c98 c99 c100 c101 c102 c103 c104 c105 c106 c107 c108 c109 c110 c111 c112 c113 c114 c115 c116 c117 c118 c119 c120 c121 c122 c123 c124 c125 c126 c127 c128 c129 c130 c131 c132 c133 c134 c135 c136 c137 c138 c139 c140 c141 c142 c143 c144 c145 c146 c147 c148 c149 c150 c151 c152 c153 c154 c155 c156 c157 c158 c159 c160 c161 c162 c163 c164 c165 c166 c167 c168 c169 c170 c171 c172 c173 c174 c175 c176 c177 c178 c179 c180 c181 c182 c183 c184 c185 c186 c187 c188 c189 c190 c191 c192 c193 c194 c195 c196 c197 c198 c199 c200 c201 c202 c203 c204 c205 c206 c207 c208 c209 c210 c211 c212 c213 c214 c215 c216 c217 c218 c219 c220 c221 c222 c223 c224 c225 c226 c227 c228 c229 c230 c231 c232 c233 c234 c235 c236 c237 c238 c239 c240 c241 c242 c243 c244 c245 c246 c247 c248 c249 c250 c251 c252 c253 c254 c255 c256 c257 c258 c259 c260 c261 c262 c263 c264 c265 c266 c267 c268 c269 c270 c271 : Value) (gb o m3 c3 gw i k : Nat) (bs pre post : List Nat) (w : World) (Q0 : Exit → Act → World → Prop) (hb : Sha.Byte bs) (hm : m3 ≤ 1099511628000) (hk : 64 * k + 4 * i + 4 ≤ m3) (hi : i < 64) (hpl : pre.length = i)
  (hlen : (pre ++ 0 :: post).length = 64) (hne : gb ≠ gw) (hmsg : ∀ j, j < 4 → w.cell? ⟨gb, o + (64 * k + 4 * i + j), none⟩ = some (.int .u8 ((bs.getD (4 * i + j) 0 : Nat) : Int))) (hw : Blk w gw 104 (u32s (pre ++ 0 :: post)))
  (hexit : ∀ (u71 u72 u73 u74 u75 u76 u77 u78 u79 u80 u81 u82 u83 u84 u85 u86 u87 u88 u89 u90 u91 u92 u93 : Value) (w' : World), Blk w' gw 104 (u32s (pre ++ Sha.word bs i :: post)) → w.grownBy w' (some gw) → Q0 (.exit 8) ⟨List.toArray (c0 :: c1 :: c2 :: .slice (some ⟨gb, o, none⟩) m3 c3 :: c4 :: c5 :: c6 :: c7 :: .int .i64 (64 * (k : Int)) :: .slice (some ⟨gw, 0, none⟩) 64 64 :: .int .i64 (i : Int) :: .int .i64 4 :: c12 :: c13 :: c14 :: c15 :: c16 :: c17 :: c18 :: c19 :: c20 :: c21 :: c22 :: c23 :: c24 :: c25 :: c26 :: c27 :: c28 :: c29 :: c30 :: c31 :: c32 :: c33 :: c34 :: c35 :: c36 :: c37 :: c38 :: c39 :: c40 :: c41 :: c42 :: c43 :: c44 :: c45 :: c46 :: c47 :: c48 :: c49 :: c50 :: c51 :: c52 :: c53 :: c54 :: c55 :: c56 :: c57 :: c58 :: c59 :: c60 :: c61 :: c62 :: c63 :: c64 :: c65 :: c66 :: c67 :: c68 :: c69 :: c70 :: u71 :: u72 :: u73 :: u74 :: u75 :: u76 :: u77 :: u78 :: u79 :: u80 :: u81 :: u82 :: u83 :: u84 :: u85 :: u86 :: u87 :: u88 :: u89 :: u90 :: u91 :: u92 :: u93 :: c94 :: c95 :: c96 :: c97 :: c98 :: c99 :: c100 :: c101 :: c102 :: c103 :: c104 :: c105 :: c106 :: c107 :: c108 :: c109 :: c110 :: c111 :: c112 :: c113 :: c114 :: c115 :: c116 :: c117 :: c118 :: c119 :: c120 :: c121 :: c122 :: c123 :: c124 :: c125 :: c126 :: c127 :: c128 :: c129 :: c130 :: c131 :: c132 :: c133 :: c134 :: c135 :: c136 :: c137 :: c138 :: c139 :: c140 :: c141 :: c142 :: c143 :: c144 :: c145 :: c146 :: c147 :: c148 :: c149 :: c150 :: c151 :: c152 :: c153 :: c154 :: c155 :: c156 :: c157 :: c158 :: c159 :: c160 :: c161 :: c162 :: c163 :: c164 :: c165 :: c166 :: c167 :: c168 :: c169 :: c170 :: c171 :: c172 :: c173 :: c174 :: c175 :: c176 :: c177 :: c178 :: c179 :: c180 :: c181 :: c182 :: c183 :: c184 :: c185 :: c186 :: c187 :: c188 :: c189 :: c190 :: c191 :: c192 :: c193 :: c194 :: c195 :: c196 :: c197 :: c198 :: c199 :: c200 :: c201 :: c202 :: c203 :: c204 :: c205 :: c206 :: c207 :: c208 :: c209 :: c210 :: c211 :: c212 :: c213 :: c214 :: c215 :: c216 :: c217 :: c218 :: c219 :: c220 :: c221 :: c222 :: c223 :: c224 :: c225 :: c226 :: c227 :: c228 :: c229 :: c230 :: c231 :: c232 :: c233 :: c234 :: c235 :: c236 :: c237 :: c238 :: c239 :: c240 :: c241 :: c242 :: c243 :: c244 :: c245 :: c246 :: c247 :: c248 :: c249 :: c250 :: c251 :: c252 :: c253 :: c254 :: c255 :: c256 :: c257 :: c258 :: c259 :: c260 :: c261 :: c262 :: c263 :: c264 :: c265 :: c266 :: c267 :: c268 :: c269 :: c270 :: c271 :: []), []⟩ w') :
  (Code.loop (sumLoop 4)).wp Tryd.prog Q0 ⟨List.toArray (c0 :: c1 :: c2 :: .slice (some ⟨gb, o, none⟩) m3 c3 :: c4 :: c5 :: c6 :: c7 :: .int .i64 (64 * (k : Int)) :: .slice (some ⟨gw, 0, none⟩) 64 64 :: .int .i64 (i : Int) :: .int .i64 0 :: c12 :: c13 :: c14 :: c15 :: c16 :: c17 :: c18 :: c19 :: c20 :: c21 :: c22 :: c23 :: c24 :: c25 :: c26 :: c27 :: c28 :: c29 :: c30 :: c31 :: c32 :: c33 :: c34 :: c35 :: c36 :: c37 :: c38 :: c39 :: c40 :: c41 :: c42 :: c43 :: c44 :: c45 :: c46 :: c47 :: c48 :: c49 :: c50 :: c51 :: c52 :: c53 :: c54 :: c55 :: c56 :: c57 :: c58 :: c59 :: c60 :: c61 :: c62 :: c63 :: c64 :: c65 :: c66 :: c67 :: c68 :: c69 :: c70 :: c71 :: c72 :: c73 :: c74 :: c75 :: c76 :: c77 :: c78 :: c79 :: c80 :: c81 :: c82 :: c83 :: c84 :: c85 :: c86 :: c87 :: c88 :: c89 :: c90 :: c91 :: c92 :: c93 :: c94 :: c95 :: c96 :: c97 :: c98 :: c99 :: c100 :: c101 :: c102 :: c103 :: c104 :: c105 :: c106 :: c107 :: c108 :: c109 :: c110 :: c111 :: c112 :: c113 :: c114 :: c115 :: c116 :: c117 :: c118 :: c119 :: c120 :: c121 :: c122 :: c123 :: c124 :: c125 :: c126 :: c127 :: c128 :: c129 :: c130 :: c131 :: c132 :: c133 :: c134 :: c135 :: c136 :: c137 :: c138 :: c139 :: c140 :: c141 :: c142 :: c143 :: c144 :: c145 :: c146 :: c147 :: c148 :: c149 :: c150 :: c151 :: c152 :: c153 :: c154 :: c155 :: c156 :: c157 :: c158 :: c159 :: c160 :: c161 :: c162 :: c163 :: c164 :: c165 :: c166 :: c167 :: c168 :: c169 :: c170 :: c171 :: c172 :: c173 :: c174 :: c175 :: c176 :: c177 :: c178 :: c179 :: c180 :: c181 :: c182 :: c183 :: c184 :: c185 :: c186 :: c187 :: c188 :: c189 :: c190 :: c191 :: c192 :: c193 :: c194 :: c195 :: c196 :: c197 :: c198 :: c199 :: c200 :: c201 :: c202 :: c203 :: c204 :: c205 :: c206 :: c207 :: c208 :: c209 :: c210 :: c211 :: c212 :: c213 :: c214 :: c215 :: c216 :: c217 :: c218 :: c219 :: c220 :: c221 :: c222 :: c223 :: c224 :: c225 :: c226 :: c227 :: c228 :: c229 :: c230 :: c231 :: c232 :: c233 :: c234 :: c235 :: c236 :: c237 :: c238 :: c239 :: c240 :: c241 :: c242 :: c243 :: c244 :: c245 :: c246 :: c247 :: c248 :: c249 :: c250 :: c251 :: c252 :: c253 :: c254 :: c255 :: c256 :: c257 :: c258 :: c259 :: c260 :: c261 :: c262 :: c263 :: c264 :: c265 :: c266 :: c267 :: c268 :: c269 :: c270 :: c271 :: []), []⟩ w := by
 have HM := Lib.hid hmsg
 have HPL := Lib.hid hpl
 have HLN := Lib.hid hlen
 have HW := Lib.hid hw
 have HE := Lib.hid hexit
 clear hmsg hpl hlen hw hexit
 conv => arg 2; arg 1; whnf
 go_loopw [11] (fun j wr => ∃ t : Nat, t ≤ 4 ∧ j = .int .i64 t ∧ Hid (Blk wr gw 104 (u32s (pre ++ Sha.part bs i t :: post)) ∧ w.grownBy wr (some gw))) (fun j _ => 4 - (intOf j).toNat)
 case atStart => exact ⟨0, by omega, rfl, Lib.hid ⟨HW.out, World.grownBy.refl w _⟩⟩
 case round =>
  obtain ⟨t, ht, rfl, HR⟩ := hrel
  by_cases hlt : t < 4
  ·have c1 := cell_grown HR.out.2 (HM.out t hlt) hne
   have c2 : wr.cell? ⟨gw, i, none⟩ = some (.int .u32 ((Sha.part bs i t : Nat) : Int)) := by
    rw [HR.out.1.cell, u32s_get _ _ (by have := HLN.out; simp at this ⊢; omega)]
    have e := get_mid pre post (Sha.part bs i t)
    rw [HPL.out] at e
    rw [e]
   have f2 := HR.out.1.frozen i
   have hpw := Sha.part_wrap hb i t hlt
   have hpt := Sha.part_lt hb i t (by omega)
   have hbt := hb (4 * i + t)
   have h4 : 256 ^ t ≤ 256 ^ 4 := Nat.pow_le_pow_right (by decide) (by omega)
   have HV := Lib.hid (show (((Sha.part bs i t : Nat) : Int) * 256 + ((bs.getD (4 * i + t) 0 : Nat) : Int)) % 4294967296 = ((Sha.part bs i (t + 1) : Nat) : Int) by rw [← hpw]; omega)
   have HS := Lib.hid (show (u32s (pre ++ Sha.part bs i t :: post)).setIfInBounds i (.int .u32 ((Sha.part bs i (t + 1) : Nat) : Int)) = u32s (pre ++ Sha.part bs i (t + 1) :: post) by
    rw [u32s_set]; have e := set_mid pre post (Sha.part bs i t) (Sha.part bs i (t + 1)); rw [HPL.out] at e; rw [e])
   clear hpw hpt h4
   generalize bs.getD (4 * i + t) 0 = bt at c1 hbt HV
   generalize Sha.part bs i t = pt at *
   have W1 : IntKind.i64.wrap (4 * ((i : Nat) : Int)) = 4 * i := IntWalk.i64_in _ (by omega)
   have W2 : IntKind.i64.wrap (64 * ((k : Nat) : Int) + 4 * i) = 64 * k + 4 * i := IntWalk.i64_in _ (by omega)
   have W3 : IntKind.i64.wrap (64 * ((k : Nat) : Int) + 4 * i + t) = 64 * k + 4 * i + t := IntWalk.i64_in _ (by omega)
   have W4 : (64 * ((k : Nat) : Int) + 4 * i + t).toNat = 64 * k + 4 * i + t := by omega
   have W5 : (0 : Int) ≤ 64 * ((k : Nat) : Int) + 4 * i + t := by omega
   have W6 : 64 * ((k : Nat) : Int) + 4 * i + t < m3 := by omega
   have W7 : ((i : Nat) : Int) < 64 := by omega
   have W8 : (0 : Int) ≤ ((i : Nat) : Int) := by omega
   go_wp2
   refine wp_region_still_tail 19 (by kernel_rfl) (by kernel_rfl) ?_
   change wpStill _ _ wr.drew _ _ _
   dsimp only [List.take, List.drop]
   repeat still_step
   refine wpStill_nil ?_
   change wpList _ _ _ _ _ wr.drew
   go_wp2
   go_roundw
   case rel => exact ⟨t + 1, by omega, by go_num, Lib.hid ⟨by rw [← HS.out, ← HV.out]; exact (HR.out.1.set_ i _).drew, only_drew (only_setCell HR.out.2 (.inl rfl) _)⟩⟩
   case measure => simp [intOf]; omega
  ·obtain rfl : t = 4 := by omega
   have HP := Lib.hid (Sha.part_four bs i)
   go_wp2
   refine HE.out _ _ _ _ _ _ _ _ _ _ _ _ _ _ _ _ _ _ _ _ _ _ _ wr ?_ HR.out.2
   rw [← HP.out]
   exact HR.out.1
end Go.Proofs.YtdokojlgcplefaaDoor
