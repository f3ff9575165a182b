/- Words for memory that all layers' walks use: a block that is known whole, rows of bytes and of 32-bit words, an array that is sliced. -/
import Derived.Test.YtagplmlhpocbjaaDoorProg
import Derived.WalkKit
import Derived.Lib.Hide
import Derived.Laws.BytesArg
import Derived.Deep.MidRow
import Derived.Deep.Draws
import Derived.Deep.QuietTactic
import Derived.BigQuiet
import Derived.StillTailTactics
namespace Go.Proofs.YtagplmlhpocbjaaDoor
open Go Go.RowKit
def Blk (w : World) (g : Nat) (t : TypeId) (cs : Array Value) : Prop := w.heap[g]? = some (.cells cs t (0, 0))
section
variable {w w' : World} {g : Nat} {t : TypeId} {cs : Array Value}
theorem Blk.lt (h : Blk w g t cs) : g < w.heap.size := (Array.getElem?_eq_some_iff.1 h).1
theorem Blk.cell (h : Blk w g t cs) (i : Nat) : w.cell? ⟨g, i, none⟩ = cs[i]? := by
  show (match w.heap[g]? with | some (.cells c _ _) => if (none : Option Nat).isSome then none else c[i]? | _ => none) = _
  rw [show w.heap[g]? = _ from h]; rfl
theorem Blk.frozen (h : Blk w g t cs) (i : Nat) : w.frozen? ⟨g, i, none⟩ = false := frozen_of_row w g i cs t h
theorem Blk.stands (h : Blk w g t cs) (e : w'.heap[g]? = w.heap[g]?) : Blk w' g t cs := e.trans h
theorem Blk.new (w : World) (t : TypeId) (cs : Array Value) : Blk (w.alloc (.cells cs t)) w.heap.size t cs := heap_alloc_new w (.cells cs t)
theorem Blk.drew (h : Blk w g t cs) : Blk w.drew g t cs := h.stands rfl
theorem Blk.drewN (h : Blk w g t cs) (n : Nat) : Blk (w.drewN n) g t cs := h.stands rfl
theorem Blk.alloc (h : Blk w g t cs) (o : Obj) : Blk (w.alloc o) g t cs := h.stands (Below.heap_alloc w o g h.lt)
theorem Blk.set_ (h : Blk w g t cs) (i : Nat) (u : Value) : Blk (w.setCell ⟨g, i, none⟩ u) g t (cs.setIfInBounds i u) := heap_setCell_same w g i cs t u h
theorem Blk.far (h : Blk w g t cs) {p : Addr} (hp : g ≠ p.block) (u : Value) : Blk (w.setCell p u) g t cs := h.stands (Below.heap_setCell w p u g hp)
theorem Blk.below {B : Nat} (h : Blk w g t cs) (hb : Below B w w') (hg : g < B) : Blk w' g t cs := h.stands (hb.block g hg)
theorem Blk.grown {row : Option Nat} (h : Blk w g t cs) (hb : w.grownBy w' row) (hg : some g ≠ row) : Blk w' g t cs := h.stands (hb.block g h.lt hg)
end
theorem Blk.row {w : World} {g : Nat} {t : TypeId} {cs : Array Value} (h : Blk w g t cs) (cs' : Array Value) : Blk (w.setRow g cs') g t cs' := setRow_heap w g cs cs' t (0, 0) h
theorem Blk.farRow {w : World} {g g' : Nat} {t : TypeId} {cs : Array Value} (h : Blk w g t cs) (hp : g ≠ g') (cs' : Array Value) : Blk (w.setRow g' cs') g t cs := h.stands (setRow_other w g' g cs' hp)
theorem below_row {B : Nat} {w w' : World} (h : Below B w w') {g : Nat} (hg : B ≤ g) (cs : Array Value) : Below B w (w'.setRow g cs) :=
  h.trans ⟨rfl, rfl, rfl, by simp, fun k hk => setRow_other w' g k cs (by omega)⟩
theorem below_drewN {B : Nat} {a w : World} (h : Below B a w) (n : Nat) : Below B a (w.drewN n) := ⟨h.os, h.tape, h.output, h.size, h.block⟩
/-! only one block of the old ones has turned -/
theorem only_step {a w w' : World} {row : Option Nat} (h : a.grownBy w row) (e1 : w'.os = w.os) (e2 : w'.tape = w.tape) (e3 : w'.output = w.output) (e4 : w.heap.size ≤ w'.heap.size)
    (e5 : ∀ i, i < a.heap.size → some i ≠ row → w'.heap[i]? = w.heap[i]?) : a.grownBy w' row where
  os := e1.trans h.os
  tape := e2.trans h.tape
  output := e3.trans h.output
  size := Nat.le_trans h.size e4
  block := fun i hi hne => (e5 i hi hne).trans (h.block i hi hne)
theorem only_drewN {a w : World} {row : Option Nat} (h : a.grownBy w row) (n : Nat) : a.grownBy (w.drewN n) row := only_step h rfl rfl rfl (Nat.le_refl _) fun _ _ _ => rfl
theorem only_drew {a w : World} {row : Option Nat} (h : a.grownBy w row) : a.grownBy w.drew row := only_step h rfl rfl rfl (Nat.le_refl _) fun _ _ _ => rfl
theorem only_alloc {a w : World} {row : Option Nat} (h : a.grownBy w row) (o : Obj) : a.grownBy (w.alloc o) row :=
  only_step h rfl rfl rfl (by simp) fun i hi _ => Below.heap_alloc w o i (Nat.lt_of_lt_of_le hi h.size)
theorem only_ne {a : World} {g x i : Nat} (hx : x = g ∨ a.heap.size ≤ x) (hi : i < a.heap.size) (hne : some i ≠ some g) : i ≠ x := by
  rintro rfl
  exact hx.elim (fun e => hne (by rw [e])) (fun e => by omega)
theorem only_setCell {a w : World} {g : Nat} (h : a.grownBy w (some g)) {p : Addr} (hp : p.block = g ∨ a.heap.size ≤ p.block) (u : Value) : a.grownBy (w.setCell p u) (some g) :=
  only_step h rfl rfl rfl (by simp [World.setCell]) fun i hi hne => Below.heap_setCell w p u i (only_ne hp hi hne)
theorem only_setRow {a w : World} {g : Nat} (h : a.grownBy w (some g)) {g' : Nat} (hp : g' = g ∨ a.heap.size ≤ g') (cs : Array Value) : a.grownBy (w.setRow g' cs) (some g) :=
  only_step h rfl rfl rfl (by simp) fun i hi hne => setRow_other w g' i cs (only_ne hp hi hne)
theorem only_of_below {a w : World} (h : Below a.heap.size a w) (row : Option Nat) : a.grownBy w row where
  os := h.os
  tape := h.tape
  output := h.output
  size := h.size
  block := fun i hi _ => h.block i hi
theorem only_trans {a b c : World} {row : Option Nat} (h : a.grownBy b row) (k : b.grownBy c row) : a.grownBy c row :=
  only_step h k.os k.tape k.output k.size fun i hi hne => k.block i (Nat.lt_of_lt_of_le hi h.size) hne
/-- a block that the call itself made may turn -/
theorem below_of_only {a b c : World} {g : Nat} (h : Below a.heap.size a b) (k : b.grownBy c (some g)) (hg : a.heap.size ≤ g) : Below a.heap.size a c :=
  ⟨k.os.trans h.os, k.tape.trans h.tape, k.output.trans h.output, Nat.le_trans h.size k.size, fun i hi => (k.block i (Nat.lt_of_lt_of_le hi h.size) (fun e => by injection e; omega)).trans (h.block i hi)⟩
/-! rows of numbers -/
def u32s (l : List Nat) : Array Value := (l.map fun (n : Nat) => Value.int .u32 (n : Int)).toArray
def u8s (l : List Nat) : Array Value := (l.map fun (n : Nat) => Value.int .u8 (n : Int)).toArray
theorem u8s_get (l : List Nat) (i : Nat) (h : i < l.length) : (u8s l)[i]? = some (Value.int .u8 ((l.getD i 0 : Nat) : Int)) := by
  simp [u8s, List.getD, h]
theorem u32s_get (l : List Nat) (i : Nat) (h : i < l.length) : (u32s l)[i]? = some (Value.int .u32 ((l.getD i 0 : Nat) : Int)) := by
  simp [u32s, List.getD, h]
theorem u8s_size (l : List Nat) : (u8s l).size = l.length := by simp [u8s]
theorem u32s_size (l : List Nat) : (u32s l).size = l.length := by simp [u32s]
theorem u32s_one (l : List Nat) : (u32s l).all (·.oneCell') = true := by simp [u32s, Value.oneCell']
theorem u8s_one (l : List Nat) : (u8s l).all (·.oneCell') = true := by simp [u8s, Value.oneCell']
theorem u8s_set (l : List Nat) (i x : Nat) : (u8s l).setIfInBounds i (Value.int .u8 (x : Int)) = u8s (l.set i x) := by
  apply Array.ext'; simp [u8s, List.map_set]
theorem u32s_set (l : List Nat) (i x : Nat) : (u32s l).setIfInBounds i (Value.int .u32 (x : Int)) = u32s (l.set i x) := by
  apply Array.ext'; simp [u32s, List.map_set]
/-- the first k of a row of n are filled, the next one comes -/
theorem fill_set (l : List Nat) (m x : Nat) : (l ++ List.replicate (m + 1) 0).set l.length x = (l ++ [x]) ++ List.replicate m 0 := by
  rw [List.set_append_right _ _ (Nat.le_refl _)]; simp [List.replicate_succ]
theorem run_sliceArr {P : Program} {t e : TypeId} {n s : Nat} (ht : P.underlying t = some (.array n e)) (hi : (P.info? e).map (·.size) = some s) (a : Addr) (l h : Nat) (h1 : l ≤ h) (h2 : h ≤ n)
    {lo hi' : Int} (el : lo = l) (eh : hi' = h) (w : World) :
    (Instr.sliceAt t (.pointer (some a)) (some (.int .i64 lo)) (some (.int .i64 hi')) none).run P w = .ok (.slice (some (if n = l then a else a.add (l * s))) (h - l) (n - l)) w := by
  subst el eh
  cases hq : P.info? e with
  | none => simp [hq] at hi
  | some i =>
    have hs : i.size = s := by simpa [hq] using hi
    have hl : ((l : Nat) : Int) ≤ h := by omega
    have hn : ((h : Nat) : Int) ≤ n := by omega
    simp [Instr.sliceAt, Instr.sureAddr, run_underlying ht, Instr.sliceBounds, run_sliceBound, sizeOf, typeInfo, hq, hs, hl, hn]
theorem run_sliceArrLo {P : Program} {t e : TypeId} {n s : Nat} (ht : P.underlying t = some (.array n e)) (hi : (P.info? e).map (·.size) = some s) (a : Addr) (l : Nat) (h1 : l ≤ n)
    {lo : Int} (el : lo = l) (w : World) :
    (Instr.sliceAt t (.pointer (some a)) (some (.int .i64 lo)) none none).run P w = .ok (.slice (some (if n = l then a else a.add (l * s))) (n - l) (n - l)) w := by
  subst el
  cases hq : P.info? e with
  | none => simp [hq] at hi
  | some i =>
    have hs : i.size = s := by simpa [hq] using hi
    have hn : ((l : Nat) : Int) ≤ n := by omega
    simp [Instr.sliceAt, Instr.sureAddr, run_underlying ht, Instr.sliceBounds, run_sliceBound, sizeOf, typeInfo, hq, hs, hn]
theorem run_sliceLo {P : Program} {t e : TypeId} (ht : P.underlying t = some (.slice e)) (hi : (P.info? e).map (·.size) = some 1) (A : Option Addr) (len cap l : Nat) (h1 : l ≤ len)
    {lo : Int} (el : lo = l) (w : World) :
    (Instr.sliceAt t (.slice A len cap) (some (.int .i64 lo)) none none).run P w = .ok (.slice (if cap = l then A else A.map (·.add l)) (len - l) (cap - l)) w := by
  subst el
  cases hq : P.info? e with
  | none => simp [hq] at hi
  | some i =>
    have hs : i.size = 1 := by simpa [hq] using hi
    have hn : ((l : Nat) : Int) ≤ len := by omega
    simp [Instr.sliceAt, Instr.slice, run_underlying ht, Instr.sliceBounds, run_sliceBound, sizeOf, typeInfo, hq, hs, hn]
theorem run_indexArr {P : Program} {t e : TypeId} {n : Nat} {k : IntKind} (ht : P.underlying t = some (.array n e)) (he : P.underlying e = some (.int k)) (hi : (P.info? e).map (·.size) = some 1) (cs : Array Value) (i : Nat) (v : Value) (h : i < n) (hv : cs[i]? = some v) (kk : IntKind)
    {ii : Int} (ei : ii = i) (w : World) : (Instr.index t (.agg cs) (.int kk ii)).run P w = .ok v w := by
  subst ei
  cases hq : P.info? e with
  | none => simp [hq] at hi
  | some d =>
    have hs : d.size = 1 := by simpa [hq] using hi
    simp [Instr.index, asIntOf, run_underlying ht, h, sizeOf, typeInfo, hq, hs, part, isAgg, run_underlying he, hv]
theorem madeOne (z : Value) (n : Nat) : madeCells #[z] n = (List.replicate n z).toArray := by
  rw [← toList_madeCells_one]
theorem run_makeOne {P : Program} {t e : TypeId} {z : Value} {by_ : Nat} (ht : P.underlying t = some (.slice e)) (hi : (P.info? e).map (fun i => (i.zero, i.size, i.bytes)) = some (some z, 1, by_)) (hz1 : z.cells = #[z]) (n : Nat) (hn : by_ * n ≤ 281474976710656) (h63 : n ≤ 9223372036854775807)
    {x : Int} (ex : x = n) (w : World) : (Instr.makeSlice t (.int .i64 x) (.int .i64 x)).run P w = .ok (.slice (some ⟨w.heap.size, 0, none⟩) n n) (w.alloc (.cells (List.replicate n z).toArray e)) := by
  subst ex
  obtain ⟨i0, h0, hz, hs, hb⟩ := info_parts hi
  have hbytes : (i0.bytes : Int) * (n : Int) ≤ 281474976710656 := by
    rw [hb]
    have h : ((by_ * n : Nat) : Int) ≤ 281474976710656 := by omega
    rwa [Int.natCast_mul] at h
  have h := run_make (P := P) w t e i0 z ht h0 hz .i64 .i64 n n (by omega) (Int.le_refl _) hbytes (by omega)
  rw [Int.toNat_natCast, hs, Nat.mul_one, hz1, madeOne] at h
  exact h
/-! bits of unsigned words -/
theorem ofInt_u (B a : Nat) (ha : a < 2 ^ B) : (BitVec.ofInt B (a : Int)).toNat = a := by
  rw [BitVec.ofInt_natCast, BitVec.toNat_ofNat]; exact Nat.mod_eq_of_lt ha
theorem u32_or (a b : Nat) (ha : a < 4294967296) (hb : b < 4294967296) : bits .or .u32 (a : Int) (b : Int) = ((a ||| b : Nat) : Int) := by
  have hx : a ||| b < 2 ^ 32 := Nat.or_lt_two_pow (by omega) (by omega)
  show IntKind.u32.wrap ((BitVec.ofInt 32 (a : Int) ||| BitVec.ofInt 32 (b : Int)).toNat : Int) = _
  rw [BitVec.toNat_or, ofInt_u 32 a (by omega), ofInt_u 32 b (by omega)]
  show ((a ||| b : Nat) : Int) % 4294967296 = _
  omega
theorem u32_xor (a b : Nat) (ha : a < 4294967296) (hb : b < 4294967296) : bits .xor .u32 (a : Int) (b : Int) = ((a ^^^ b : Nat) : Int) := by
  have hx : a ^^^ b < 2 ^ 32 := Nat.xor_lt_two_pow (by omega) (by omega)
  show IntKind.u32.wrap ((BitVec.ofInt 32 (a : Int) ^^^ BitVec.ofInt 32 (b : Int)).toNat : Int) = _
  rw [BitVec.toNat_xor, ofInt_u 32 a (by omega), ofInt_u 32 b (by omega)]
  show ((a ^^^ b : Nat) : Int) % 4294967296 = _
  omega
theorem u32_and (a b : Nat) (ha : a < 4294967296) (hb : b < 4294967296) : bits .and .u32 (a : Int) (b : Int) = ((a &&& b : Nat) : Int) := by
  have hx : a &&& b < 2 ^ 32 := Nat.and_lt_two_pow _ (by omega)
  show IntKind.u32.wrap ((BitVec.ofInt 32 (a : Int) &&& BitVec.ofInt 32 (b : Int)).toNat : Int) = _
  rw [BitVec.toNat_and, ofInt_u 32 a (by omega), ofInt_u 32 b (by omega)]
  show ((a &&& b : Nat) : Int) % 4294967296 = _
  omega
theorem u64_or (a b : Nat) (ha : a < 18446744073709551616) (hb : b < 18446744073709551616) : bits .or .u64 (a : Int) (b : Int) = ((a ||| b : Nat) : Int) := by
  have hx : a ||| b < 2 ^ 64 := Nat.or_lt_two_pow (by omega) (by omega)
  show IntKind.u64.wrap ((BitVec.ofInt 64 (a : Int) ||| BitVec.ofInt 64 (b : Int)).toNat : Int) = _
  rw [BitVec.toNat_or, ofInt_u 64 a (by omega), ofInt_u 64 b (by omega)]
  show ((a ||| b : Nat) : Int) % 18446744073709551616 = _
  omega
theorem u64_and (a b : Nat) (ha : a < 18446744073709551616) (hb : b < 18446744073709551616) : bits .and .u64 (a : Int) (b : Int) = ((a &&& b : Nat) : Int) := by
  have hx : a &&& b < 2 ^ 64 := Nat.and_lt_two_pow _ (by omega)
  show IntKind.u64.wrap ((BitVec.ofInt 64 (a : Int) &&& BitVec.ofInt 64 (b : Int)).toNat : Int) = _
  rw [BitVec.toNat_and, ofInt_u 64 a (by omega), ofInt_u 64 b (by omega)]
  show ((a &&& b : Nat) : Int) % 18446744073709551616 = _
  omega
theorem u64_low (a : Nat) (ha : a < 18446744073709551616) : bits .and .u64 (a : Int) 4294967295 = ((a % 4294967296 : Nat) : Int) := by
  have h := u64_and a 4294967295 ha (by omega)
  rw [show (4294967295 : Nat) = 2 ^ 32 - 1 from rfl, Nat.and_two_pow_sub_one_eq_mod] at h
  exact h
theorem wrap_u64 (x : Int) : IntKind.u64.wrap x = x % 18446744073709551616 := rfl
theorem wrap_u32 (x : Int) : IntKind.u32.wrap x = x % 4294967296 := rfl
theorem u8_and (a b : Nat) (ha : a < 256) (hb : b < 256) : bits .and .u8 (a : Int) (b : Int) = ((a &&& b : Nat) : Int) := by
  have hx : a &&& b < 2 ^ 8 := Nat.and_lt_two_pow _ (by omega)
  show IntKind.u8.wrap ((BitVec.ofInt 8 (a : Int) &&& BitVec.ofInt 8 (b : Int)).toNat : Int) = _
  rw [BitVec.toNat_and, ofInt_u 8 a (by omega), ofInt_u 8 b (by omega)]
  show ((a &&& b : Nat) : Int) % 256 = _
  omega
theorem u8_or (a b : Nat) (ha : a < 256) (hb : b < 256) : bits .or .u8 (a : Int) (b : Int) = ((a ||| b : Nat) : Int) := by
  have hx : a ||| b < 2 ^ 8 := Nat.or_lt_two_pow (by omega) (by omega)
  show IntKind.u8.wrap ((BitVec.ofInt 8 (a : Int) ||| BitVec.ofInt 8 (b : Int)).toNat : Int) = _
  rw [BitVec.toNat_or, ofInt_u 8 a (by omega), ofInt_u 8 b (by omega)]
  show ((a ||| b : Nat) : Int) % 256 = _
  omega
/-! texts as lists of numbers -/
def textOf (l : List Nat) : ByteArray := ⟨(l.map UInt8.ofNat).toArray⟩
theorem run_text {P : Program} (w : World) (src dst e : TypeId) (hs : P.underlying src = some (.slice e)) (he : P.underlying e = some (.int .u8)) (hd : P.underlying dst = some .string) (b off len cap : Nat) (xs : List Nat) (hlen : xs.length = len)
    (hcell : ∀ i, i < len → w.cell? ⟨b, off + i, none⟩ = some (.int .u8 ((xs.getD i 0 : Nat) : Int))) : (convert src dst (.slice (some ⟨b, off, none⟩) len cap)).run P w = .ok (.string (textOf xs)) w := by
  have h := run_convert_bytes_arg w src e hs he b off len cap (xs.map Int.ofNat) (by simpa using hlen) (fun i hi => by rw [hcell i hi]; simp [List.getD, hlen, hi]) dst hd
  rw [h]
  simp [strOfNums, textOf, Function.comp_def]
end Go.Proofs.YtagplmlhpocbjaaDoor
