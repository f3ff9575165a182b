/- Words for memory that all layers' walks use: a block that is known whole, rows of bytes and of 32-bit words, an array that is sliced. -/
import Derived.Test.YtdokojlgcplefaaDoorProg
import Derived.WalkKit
import Derived.Lib.Hide
import Derived.Laws.BytesArg
import Derived.Deep.MidRow
import Derived.Deep.Draws
import Derived.Deep.QuietTactic
import Derived.BigQuiet
import Derived.StillTailTactics
namespace Go.Proofs.YtdokojlgcplefaaDoor
open Go Go.RowKit
def Blk (w : World) (g : Nat) (t : TypeId) (cs : Array Value) : Prop := w.heap[g]? = some (.cells cs t (0, 0))
section
variable {w w' : World} {g : Nat} {t : TypeId} {cs : Array Value}
theorem Blk.lt (h : Blk w g t cs) : g < w.heap.size := (Array.getElem?_eq_some_iff.1 h).1
theorem Blk.cell (h : Blk w g t cs) (i : Nat) : w.cell? ⟨g, i, none⟩ = cs[i]? := by
 show (match w.heap[g]? with | some (.cells c _ _) => if (none : Option Nat).isSome then none else c[i]? | _ => none) = _
 rw [show w.heap[g]? = _ from h]; rfl
theorem Blk.frozen (h : Blk w g t cs) (i : Nat) : w.frozen? ⟨g, i, none⟩ = false := frozen_of_row w g i cs t h
theorem Blk.stands (h : Blk w g t cs) (e : w'.heap[g]? = w.heap[g]?) : Blk w' g t cs := e.trans h
theorem Blk.new (w : World) (t : TypeId) (cs : Array Value) : Blk (w.alloc (.cells cs t)) w.heap.size t cs := heap_alloc_new w (.cells cs t)
theorem Blk.drew (h : Blk w g t cs) : Blk w.drew g t cs := h.stands rfl
theorem Blk.drewN (h : Blk w g t cs) (n : Nat) : Blk (w.drewN n) g t cs := h.stands rfl
theorem Blk.alloc (h : Blk w g t cs) (o : Obj) : Blk (w.alloc o) g t cs := h.stands (Below.heap_alloc w o g h.lt)
theorem Blk.set_ (h : Blk w g t cs) (i : Nat) (u : Value) : Blk (w.setCell ⟨g, i, none⟩ u) g t (cs.setIfInBounds i u) := heap_setCell_same w g i cs t u h
theorem Blk.far (h : Blk w g t cs) {p : Addr} (hp : g ≠ p.block) (u : Value) : Blk (w.setCell p u) g t cs := h.stands (Below.heap_setCell w p u g hp)
theorem Blk.below {B : Nat} (h : Blk w g t cs) (hb : Below B w w') (hg : g < B) : Blk w' g t cs := h.stands (hb.block g hg)
theorem Blk.grown {row : Option Nat} (h : Blk w g t cs) (hb : w.grownBy w' row) (hg : some g ≠ row) : Blk w' g t cs := h.stands (hb.block g h.lt hg)
end
theorem Blk.row {w : World} {g : Nat} {t : TypeId} {cs : Array Value} (h : Blk w g t cs) (cs' : Array Value) : Blk (w.setRow g cs') g t cs' := setRow_heap w g cs cs' t (0, 0) h
theorem Blk.farRow {w : World} {g g' : Nat} {t : TypeId} {cs : Array Value} (h : Blk w g t cs) (hp : g ≠ g') (cs' : Array Value) : Blk (w.setRow g' cs') g t cs := h.stands (setRow_other w g' g cs' hp)
theorem below_row {B : Nat} {w w' : World} (h : Below B w w') {g : Nat} (hg : B ≤ g) (cs : Array Value) : Below B w (w'.setRow g cs) :=
 h.trans ⟨rfl, rfl, rfl, by simp, fun k hk => setRow_other w' g k cs (by omega)⟩
theorem below_drewN {B : Nat} {a w : World} (h : Below B a w) (n : Nat) : Below B a (w.drewN n) := ⟨h.os, h.tape, h.output, h.size, h.block⟩
theorem only_step {a w w' : World} {row : Option Nat} (h : a.grownBy w row) (e1 : w'.os = w.os) (e2 : w'.tape = w.tape) (e3 : w'.output = w.output) (e4 : w.heap.size ≤ w'.heap.size)
  (e5 : ∀ i, i < a.heap.size → some i ≠ row → w'.heap[i]? = w.heap[i]?) : a.grownBy w' row where
 os := e1.trans h.os
 tape := e2.trans h.tape
 output := e3.trans h.output
 size := Nat.le_trans h.size e4
 block := fun i hi hne => (e5 i hi hne).trans (h.block i hi hne)
theorem only_drewN {a w : World} {row : Option Nat} (h : a.grownBy w row) (n : Nat) : a.grownBy (w.drewN n) row := only_step h rfl rfl rfl (Nat.le_refl _) fun _ _ _ => rfl
theorem only_drew {a w : World} {row : Option Nat} (h : a.grownBy w row) : a.grownBy w.drew row := only_step h rfl rfl rfl (Nat.le_refl _) fun _ _ _ => rfl
theorem only_alloc {a w : World} {row : Option Nat} (h : a.grownBy w row) (o : Obj) : a.grownBy (w.alloc o) row :=
 only_step h rfl rfl rfl (by simp) fun i hi _ => Below.heap_alloc w o i (Nat.lt_of_lt_of_le hi h.size)
theorem only_ne {a : World} {g x i : Nat} (hx : x = g ∨ a.heap.size ≤ x) (hi : i < a.heap.size) (hne : some i ≠ some g) : i ≠ x := by
 rintro rfl
 exact hx.elim (fun e => hne (by rw [e])) (fun e => by omega)
theorem only_setCell {a w : World} {g : Nat} (h : a.grownBy w (some g)) {p : Addr} (hp : p.block = g ∨ a.heap.size ≤ p.block) (u : Value) : a.grownBy (w.setCell p u) (some g) :=
 only_step h rfl rfl rfl (by simp [World.setCell]) fun i hi hne => Below.heap_setCell w p u i (only_ne hp hi hne)
theorem only_setRow {a w : World} {g : Nat} (h : a.grownBy w (some g)) {g' : Nat} (hp : g' = g ∨ a.heap.size ≤ g') (cs : Array Value) : a.grownBy (w.setRow g' cs) (some g) :=
 only_step h rfl rfl rfl (by simp) fun i hi hne => setRow_other w g' i cs (only_ne hp hi hne)
theorem only_of_below {a w : World} (h : Below a.heap.size a w) (row : Option Nat) : a.grownBy w row where
 os := h.os
 tape := h.tape
 output := h.output
 size := h.size
 block := fun i hi _ => h.block i hi
theorem only_trans {a b c : World} {row : Option Nat} (h : a.grownBy b row) (k : b.grownBy c row) : a.grownBy c row :=
 only_step h k.os k.tape k.output k.size fun i hi hne => k.block i (Nat.lt_of_lt_of_le hi h.size) hne
theorem below_of_only {a b c : World} {g : Nat} (h : Below a.heap.size a b) (k : b.grownBy c (some g)) (hg : a.heap.size ≤ g) : Below a.heap.size a c :=
 ⟨k.os.trans h.os, k.tape.trans h.tape, k.output.trans h.output, Nat.le_trans h.size k.size, fun i hi => (k.block i (Nat.lt_of_lt_of_le hi h.size) (fun e => by injection e; omega)).trans (h.block i hi)⟩
def u32s (l : List Nat) : Array Value := (l.map fun (n : Nat) => Value.int .u32 (n : Int)).toArray
def u8s (l : List Nat) : Array Value := (l.map fun (n : Nat) => Value.int .u8 (n : Int)).toArray
theorem u8s_get (l : List Nat) (i : Nat) (h : i < l.length) : (u8s l)[i]? = some (Value.int .u8 ((l.getD i 0 : Nat) : Int)) := by
 simp [u8s, List.getD, h]
theorem u32s_get (l : List Nat) (i : Nat) (h : i < l.length) : (u32s l)[i]? = some (Value.int .u32 ((l.getD i 0 : Nat) : Int)) := by
 simp [u32s, List.getD, h]
theorem u8s_size (l : List Nat) : (u8s l).size = l.length := by simp [u8s]
theorem u32s_size (l : List Nat) : (u32s l).size = l.length := by simp [u32s]
theorem u32s_one (l : List Nat) : (u32s l).all (·.oneCell') = true := by simp [u32s, Value.oneCell']
theorem u8s_one (l : List Nat) : (u8s l).all (·.oneCell') = true := by simp [u8s, Value.oneCell']
theorem u8s_set (l : List Nat) (i x : Nat) : (u8s l).setIfInBounds i (Value.int .u8 (x : Int)) = u8s (l.set i x) := by
 apply Array.ext'; simp [u8s, List.map_set]
theorem u32s_set (l : List Nat) (i x : Nat) : (u32s l).setIfInBounds i (Value.int .u32 (x : Int)) = u32s (l.set i x) := by
 apply Array.ext'; simp [u32s, List.map_set]
theorem fill_set (l : List Nat) (m x : Nat) : (l ++ List.replicate (m + 1) 0).set l.length x = (l ++ [x]) ++ List.replicate m 0 := by
 rw [List.set_append_right _ _ (Nat.le_refl _)]; simp [List.replicate_succ]
theorem run_sliceArr {P : Program} {t e : TypeId} {n s : Nat} (ht : P.underlying t = some (.array n e)) (hi : (P.info? e).map (·.size) = some s) (a : Addr) (l h : Nat) (h1 : l ≤ h) (h2 : h ≤ n)
  {lo hi' : Int} (el : lo = l) (eh : hi' = h) (w : World) :
  (Instr.sliceAt t (.pointer (some a)) (some (.int .i64 lo)) (some (.int .i64 hi')) none).run P w = .ok (.slice (some (if n = l then a else a.add (l * s))) (h - l) (n - l)) w := by
 subst el eh
 cases hq : P.info? e with
 | none => simp [hq] at hi
 | some i =>
  have hs : i.size = s := by simpa [hq] using hi
  have hl : ((l : Nat) : Int) ≤ h := by omega
  have hn : ((h : Nat) : Int) ≤ n := by omega
  simp [Instr.sliceAt, Instr.sureAddr, run_underlying ht, Instr.sliceBounds, run_sliceBound, sizeOf, typeInfo, hq, hs, hl, hn]
theorem run_sliceArrLo {P : Program} {t e : TypeId} {n s : Nat} (ht : P.underlying t = some (.array n e)) (hi : (P.info? e).map (·.size) = some s) (a : Addr) (l : Nat) (h1 : l ≤ n)
  {lo : Int} (el : lo = l) (w : World) :
  (Instr.sliceAt t (.pointer (some a)) (some (.int .i64 lo)) none none).run P w = .ok (.slice (some (if n = l then a else a.add (l * s))) (n - l) (n - l)) w := by
 subst el
 cases hq : P.info? e with
 | none => simp [hq] at hi
 | some i =>
  have hs : i.size = s := by simpa [hq] using hi
  have hn : ((l : Nat) : Int) ≤ n := by omega
  simp [Instr.sliceAt, Instr.sureAddr, run_underlying ht, Instr.sliceBounds, run_sliceBound, sizeOf, typeInfo, hq, hs, hn]
theorem run_sliceLo {P : Program} {t e : TypeId} (ht : P.underlying t = some (.slice e)) (hi : (P.info? e).map (·.size) = some 1) (A : Option Addr) (len cap l : Nat) (h1 : l ≤ len)
  {lo : Int} (el : lo = l) (w : World) :
  (Instr.sliceAt t (.slice A len cap) (some (.int .i64 lo)) none none).run P w = .ok (.slice (if cap = l then A else A.map (·.add l)) (len - l) (cap - l)) w := by
 subst el
 cases hq : P.info? e with
 | none => simp [hq] at hi
 | some i =>
  have hs : i.size = 1 := by simpa [hq] using hi
  have hn : ((l : Nat) : Int) ≤ len := by omega
  simp [Instr.sliceAt, Instr.slice, run_underlying ht, Instr.sliceBounds, run_sliceBound, sizeOf, typeInfo, hq, hs, hn]
theorem madeOne (z : Value) (n : Nat) : madeCells #[z] n = (List.replicate n z).toArray := by
 rw [← toList_madeCells_one]
theorem run_makeOne {P : Program} {t e : TypeId} {z : Value} {by_ : Nat} (ht : P.underlying t = some (.slice e)) (hi : (P.info? e).map (fun i => (i.zero, i.size, i.bytes)) = some (some z, 1, by_)) (hz1 : z.cells = #[z]) (n : Nat) (hn : by_ * n ≤ 281474976710656) (h63 : n ≤ 9223372036854775807)
  {x : Int} (ex : x = n) (w : World) : (Instr.makeSlice t (.int .i64 x) (.int .i64 x)).run P w = .ok (.slice (some ⟨w.heap.size, 0, none⟩) n n) (w.alloc (.cells (List.replicate n z).toArray e)) := by
 subst ex
 obtain ⟨i0, h0, hz, hs, hb⟩ := info_parts hi
 have hbytes : (i0.bytes : Int) * (n : Int) ≤ 281474976710656 := by
  rw [hb]
  have h : ((by_ * n : Nat) : Int) ≤ 281474976710656 := by omega
  rwa [Int.natCast_mul] at h
 have h := run_make (P := P) w t e i0 z ht h0 hz .i64 .i64 n n (by omega) (Int.le_refl _) hbytes (by omega)
 rw [Int.toNat_natCast, hs, Nat.mul_one, hz1, madeOne] at h
 exact h
theorem ofInt_u (B a : Nat) (ha : a < 2 ^ B) : (BitVec.ofInt B (a : Int)).toNat = a := by
 rw [BitVec.ofInt_natCast, BitVec.toNat_ofNat]; exact Nat.mod_eq_of_lt ha
theorem u32_or (a b : Nat) (ha : a < 4294967296) (hb : b < 4294967296) : bits .or .u32 (a : Int) (b : Int) = ((a ||| b : Nat) : Int) := by
 have hx : a ||| b < 2 ^ 32 := Nat.or_lt_two_pow (by omega) (by omega)
 show IntKind.u32.wrap ((BitVec.ofInt 32 (a : Int) ||| BitVec.ofInt 32 (b : Int)).toNat : Int) = _
 rw [BitVec.toNat_or, ofInt_u 32 a (by omega), ofInt_u 32 b (by omega)]
 show ((a ||| b : Nat) : Int) % 4294967296 = _
 omega
theorem u32_xor (a b : Nat) (ha : a < 4294967296) (hb : b < 4294967296) : bits .xor .u32 (a : Int) (b : Int) = ((a ^^^ b : Nat) : Int) := by
 have hx : a ^^^ b < 2 ^ 32 := Nat.xor_lt_two_pow (by omega) (by omega)
 show IntKind.u32.wrap ((BitVec.ofInt 32 (a : Int) ^^^ BitVec.ofInt 32 (b : Int)).toNat : Int) = _
 rw [BitVec.toNat_xor, ofInt_u 32 a (by omega), ofInt_u 32 b (by omega)]
 show ((a ^^^ b : Nat) : Int) % 4294967296 = _
 omega
theorem u32_and (a b : Nat) (ha : a < 4294967296) (hb : b < 4294967296) : bits .and .u32 (a : Int) (b : Int) = ((a &&& b : Nat) : Int) := by
 have hx : a &&& b < 2 ^ 32 := Nat.and_lt_two_pow _ (by omega)
 show IntKind.u32.wrap ((BitVec.ofInt 32 (a : Int) &&& BitVec.ofInt 32 (b : Int)).toNat : Int) = _
 rw [BitVec.toNat_and, ofInt_u 32 a (by omega), ofInt_u 32 b (by omega)]
 show ((a &&& b : Nat) : Int) % 4294967296 = _
 omega
theorem u64_or (a b : Nat) (ha : a < 18446744073709551616) (hb : b < 18446744073709551616) : bits .or .u64 (a : Int) (b : Int) = ((a ||| b : Nat) : Int) := by
 have hx : a ||| b < 2 ^ 64 := Nat.or_lt_two_pow (by omega) (by omega)
 show IntKind.u64.wrap ((BitVec.ofInt 64 (a : Int) ||| BitVec.ofInt 64 (b : Int)).toNat : Int) = _
 rw [BitVec.toNat_or, ofInt_u 64 a (by omega), ofInt_u 64 b (by omega)]
 show ((a ||| b : Nat) : Int) % 18446744073709551616 = _
 omega
theorem wrap_u64 (x : Int) : IntKind.u64.wrap x = x % 18446744073709551616 := rfl
def textOf (l : List Nat) : ByteArray := ⟨(l.map UInt8.ofNat).toArray⟩
theorem run_text {P : Program} (w : World) (src dst e : TypeId) (hs : P.underlying src = some (.slice e)) (he : P.underlying e = some (.int .u8)) (hd : P.underlying dst = some .string) (b off len cap : Nat) (xs : List Nat) (hlen : xs.length = len)
  (hcell : ∀ i, i < len → w.cell? ⟨b, off + i, none⟩ = some (.int .u8 ((xs.getD i 0 : Nat) : Int))) : (convert src dst (.slice (some ⟨b, off, none⟩) len cap)).run P w = .ok (.string (textOf xs)) w := by
 have h := run_convert_bytes_arg w src e hs he b off len cap (xs.map Int.ofNat) (by simpa using hlen) (fun i hi => by rw [hcell i hi]; simp [List.getD, hlen, hi]) dst hd
 rw [h]
 simp [strOfNums, textOf, Function.comp_def]
end Go.Proofs.YtdokojlgcplefaaDoor
/- Plain mathematics of SHA-256 over natural numbers: the words of a block, the rounds, the digest of a list of bytes. Nothing of the program. -/
namespace Go.Proofs.YtdokojlgcplefaaDoor
namespace Sha
def M : Nat := 4294967296
def rl (x s : Nat) : Nat := (x * 2^s % 4294967296) ||| (x / 2^(32-s))
def K : List Nat := [
 0x428a2f98, 0x71374491, 0xb5c0fbcf, 0xe9b5dba5, 0x3956c25b, 0x59f111f1, 0x923f82a4, 0xab1c5ed5,
 0xd807aa98, 0x12835b01, 0x243185be, 0x550c7dc3, 0x72be5d74, 0x80deb1fe, 0x9bdc06a7, 0xc19bf174,
 0xe49b69c1, 0xefbe4786, 0x0fc19dc6, 0x240ca1cc, 0x2de92c6f, 0x4a7484aa, 0x5cb0a9dc, 0x76f988da,
 0x983e5152, 0xa831c66d, 0xb00327c8, 0xbf597fc7, 0xc6e00bf3, 0xd5a79147, 0x06ca6351, 0x14292967,
 0x27b70a85, 0x2e1b2138, 0x4d2c6dfc, 0x53380d13, 0x650a7354, 0x766a0abb, 0x81c2c92e, 0x92722c85,
 0xa2bfe8a1, 0xa81a664b, 0xc24b8b70, 0xc76c51a3, 0xd192e819, 0xd6990624, 0xf40e3585, 0x106aa070,
 0x19a4c116, 0x1e376c08, 0x2748774c, 0x34b0bcb5, 0x391c0cb3, 0x4ed8aa4a, 0x5b9cca4f, 0x682e6ff3,
 0x748f82ee, 0x78a5636f, 0x84c87814, 0x8cc70208, 0x90befffa, 0xa4506ceb, 0xbef9a3f7, 0xc67178f2]
def H0 : List Nat := [0x6a09e667, 0xbb67ae85, 0x3c6ef372, 0xa54ff53a, 0x510e527f, 0x9b05688c, 0x1f83d9ab, 0x5be0cd19]
def word (bs : List Nat) (i : Nat) : Nat := bs.getD (4*i) 0 * 16777216 + bs.getD (4*i+1) 0 * 65536 + bs.getD (4*i+2) 0 * 256 + bs.getD (4*i+3) 0
def low (p : Nat) : Nat := rl p 25 ^^^ rl p 14 ^^^ (p / 8)
def high (q : Nat) : Nat := rl q 15 ^^^ rl q 13 ^^^ (q / 1024)
def nextW (bs l : List Nat) : Nat :=
 if l.length < 16 then word bs l.length
 else (l.getD (l.length-16) 0 + low (l.getD (l.length-15) 0) + l.getD (l.length-7) 0 + high (l.getD (l.length-2) 0)) % 4294967296
def sched (bs : List Nat) : Nat → List Nat
 | 0 => []
 | k + 1 => sched bs k ++ [nextW bs (sched bs k)]
structure S8 where
 a : Nat
 b : Nat
 c : Nat
 d : Nat
 e : Nat
 f : Nat
 g : Nat
 h : Nat
def S1 (e : Nat) : Nat := rl e 26 ^^^ rl e 21 ^^^ rl e 7
def S0 (a : Nat) : Nat := rl a 30 ^^^ rl a 19 ^^^ rl a 10
def ch (e f g : Nat) : Nat := (e &&& f) ^^^ ((4294967295 - e) &&& g)
def maj (a b c : Nat) : Nat := (a &&& b) ^^^ (a &&& c) ^^^ (b &&& c)
def t1 (s : S8) (k w : Nat) : Nat := (s.h + S1 s.e + ch s.e s.f s.g + k + w) % 4294967296
def t2 (s : S8) : Nat := (S0 s.a + maj s.a s.b s.c) % 4294967296
def rnd (s : S8) (k w : Nat) : S8 := ⟨(t1 s k w + t2 s) % 4294967296, s.a, s.b, s.c, (s.d + t1 s k w) % 4294967296, s.e, s.f, s.g⟩
def ofL (l : List Nat) : S8 := ⟨l.getD 0 0, l.getD 1 0, l.getD 2 0, l.getD 3 0, l.getD 4 0, l.getD 5 0, l.getD 6 0, l.getD 7 0⟩
def rounds (s : S8) (w : List Nat) : Nat → S8
 | 0 => s
 | i + 1 => rnd (rounds s w i) (K.getD i 0) (w.getD i 0)
def addS (l : List Nat) (s : S8) : List Nat :=
  [(l.getD 0 0 + s.a) % 4294967296, (l.getD 1 0 + s.b) % 4294967296, (l.getD 2 0 + s.c) % 4294967296, (l.getD 3 0 + s.d) % 4294967296,
   (l.getD 4 0 + s.e) % 4294967296, (l.getD 5 0 + s.f) % 4294967296, (l.getD 6 0 + s.g) % 4294967296, (l.getD 7 0 + s.h) % 4294967296]
def mix (l w : List Nat) : List Nat := addS l (rounds (ofL l) w 64)
def block (l bs : List Nat) : List Nat := mix l (sched bs 64)
def blocks (bs : List Nat) : Nat → List Nat
 | 0 => H0
 | n + 1 => block (blocks bs n) ((bs.drop (64*n)).take 64)
def join (l : List Nat) : List Nat := (List.range 32).map fun i => l.getD (i/4) 0 / 2^(24 - 8*(i%4)) % 256
def len8 (n : Nat) : List Nat := (List.range 8).map fun i => (8 * n) / 2^(8*(7-i)) % 256
def padded (bs : List Nat) : List Nat := bs ++ [128] ++ List.replicate ((119 - bs.length % 64) % 64) 0 ++ len8 bs.length
def sum (bs : List Nat) : List Nat := join (blocks (padded bs) ((padded bs).length / 64))
theorem rl_lt (x s : Nat) (h : x < 4294967296) : rl x s < 4294967296 := by
 unfold rl
 have h1 : x / 2^(32-s) ≤ x := Nat.div_le_self _ _
 exact Nat.or_lt_two_pow (n := 32) (by omega) (by omega)
theorem xor_lt {a b : Nat} (ha : a < 4294967296) (hb : b < 4294967296) : a ^^^ b < 4294967296 := Nat.xor_lt_two_pow (n := 32) ha hb
theorem and_lt {a b : Nat} (ha : a < 4294967296) : a &&& b < 4294967296 := Nat.lt_of_le_of_lt Nat.and_le_left ha
theorem low_lt (p : Nat) (h : p < 4294967296) : low p < 4294967296 := by
 unfold low; exact xor_lt (xor_lt (rl_lt _ _ h) (rl_lt _ _ h)) (by omega)
theorem high_lt (p : Nat) (h : p < 4294967296) : high p < 4294967296 := by
 unfold high; exact xor_lt (xor_lt (rl_lt _ _ h) (rl_lt _ _ h)) (by omega)
theorem S1_lt (e : Nat) (h : e < 4294967296) : S1 e < 4294967296 := xor_lt (xor_lt (rl_lt _ _ h) (rl_lt _ _ h)) (rl_lt _ _ h)
theorem ch_lt (e f g : Nat) (h : e < 4294967296) : ch e f g < 4294967296 := xor_lt (and_lt h) (and_lt (by omega))
def Byte (bs : List Nat) : Prop := ∀ i, bs.getD i 0 < 256
def W32 (l : List Nat) : Prop := ∀ i, l.getD i 0 < 4294967296
theorem W32.nil : W32 [] := fun i => by simp
theorem getD_append_lt {l r : List Nat} {i : Nat} (h : i < l.length) : (l ++ r).getD i 0 = l.getD i 0 := by
 simp [List.getD, List.getElem?_append_left h]
theorem getD_append_ge {l r : List Nat} {i : Nat} (h : l.length ≤ i) : (l ++ r).getD i 0 = r.getD (i - l.length) 0 := by
 simp [List.getD, List.getElem?_append_right h]
theorem W32.snoc {l : List Nat} {x : Nat} (h : W32 l) (hx : x < 4294967296) : W32 (l ++ [x]) := fun i => by
 by_cases hi : i < l.length
 ·rw [getD_append_lt hi]; exact h i
 ·rw [getD_append_ge (by omega)]
  rcases Nat.eq_zero_or_pos (i - l.length) with e | e
  ·rw [e]; simpa using hx
  ·obtain ⟨j, hj⟩ : ∃ j, i - l.length = j + 1 := ⟨i - l.length - 1, by omega⟩
   rw [hj]; simp
theorem word_lt {bs : List Nat} (hb : Byte bs) (i : Nat) : word bs i < 4294967296 := by
 have h0 := hb (4*i); have h1 := hb (4*i+1); have h2 := hb (4*i+2); have h3 := hb (4*i+3)
 unfold word; omega
theorem nextW_lt {bs : List Nat} (hb : Byte bs) (l : List Nat) : nextW bs l < 4294967296 := by
 unfold nextW; split
 ·exact word_lt hb _
 ·exact Nat.mod_lt _ (by decide)
theorem sched_len (bs : List Nat) : ∀ k, (sched bs k).length = k
 | 0 => rfl
 | k + 1 => by simp [sched, sched_len bs k]
theorem sched_lt {bs : List Nat} (hb : Byte bs) : ∀ k, W32 (sched bs k)
 | 0 => W32.nil
 | k + 1 => (sched_lt hb k).snoc (nextW_lt hb _)
def S8.ok (s : S8) : Prop := s.a < 4294967296 ∧ s.b < 4294967296 ∧ s.c < 4294967296 ∧ s.d < 4294967296 ∧ s.e < 4294967296 ∧ s.f < 4294967296 ∧ s.g < 4294967296 ∧ s.h < 4294967296
theorem ofL_ok {l : List Nat} (h : W32 l) : (ofL l).ok := ⟨h 0, h 1, h 2, h 3, h 4, h 5, h 6, h 7⟩
theorem rnd_ok {s : S8} (k w : Nat) (h : s.ok) : (rnd s k w).ok := by
 obtain ⟨ha, hb, hc, hd, he, hf, hg, hh⟩ := h
 exact ⟨Nat.mod_lt _ (by decide), ha, hb, hc, Nat.mod_lt _ (by decide), he, hf, hg⟩
theorem rounds_ok {s : S8} (w : List Nat) (h : s.ok) : ∀ i, (rounds s w i).ok
 | 0 => h
 | i + 1 => rnd_ok _ _ (rounds_ok w h i)
theorem addS_lt (l : List Nat) (s : S8) : W32 (addS l s) := fun i => by
 unfold addS
 rcases i with _ | _ | _ | _ | _ | _ | _ | _ | i <;> first | (simp; done) | exact Nat.mod_lt _ (by decide)
theorem addS_len (l : List Nat) (s : S8) : (addS l s).length = 8 := rfl
theorem mix_lt (l w : List Nat) : W32 (mix l w) := addS_lt _ _
theorem blocks_len (bs : List Nat) : ∀ n, (blocks bs n).length = 8
 | 0 => rfl
 | _ + 1 => rfl
theorem blocks_lt (bs : List Nat) : ∀ n, W32 (blocks bs n)
 | 0 => fun i => by
   rcases i with _ | _ | _ | _ | _ | _ | _ | _ | i <;> first | (simp [blocks, H0]; done) | decide
 | _ + 1 => addS_lt _ _
theorem K_lt : W32 K := by
 have h : ∀ i, i < 64 → K.getD i 0 < 4294967296 := by decide
 intro i
 by_cases hi : i < 64
 ·exact h i hi
 ·have e : K[i]? = none := List.getElem?_eq_none (by show 64 ≤ i; omega)
  simp [List.getD, e]
theorem K_len : K.length = 64 := rfl
theorem join_len (l : List Nat) : (join l).length = 32 := by simp [join]
theorem join_get (l : List Nat) (i : Nat) (h : i < 32) : (join l).getD i 0 = l.getD (i/4) 0 / 2^(24 - 8*(i%4)) % 256 := by
 simp [join, List.getD, h]
theorem join_byte (l : List Nat) : Byte (join l) := fun i => by
 by_cases h : i < 32
 ·rw [join_get l i h]; exact Nat.mod_lt _ (by decide)
 ·have e : (join l)[i]? = none := List.getElem?_eq_none (by rw [join_len]; omega)
  simp [List.getD, e]
def fig (n : Nat) : Nat := if n < 10 then 48 + n else 87 + n
def hex (bs : List Nat) : List Nat := (List.range (2 * bs.length)).map fun i => if i % 2 = 0 then fig (bs.getD (i/2) 0 / 16) else fig (bs.getD (i/2) 0 % 16)
theorem hex_len (bs : List Nat) : (hex bs).length = 2 * bs.length := by simp [hex]
end Sha
end Go.Proofs.YtdokojlgcplefaaDoor
