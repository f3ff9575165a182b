/- Words for memory that all layers' walks use: a block that is known whole, rows of bytes and of 32-bit words, an array that is sliced. -/
import Derived.Test.YtjkneidoochfjaaGreatDoorProg
import Derived.WalkKit
import Derived.Lib.Hide
import Derived.Laws.BytesArg
import Derived.Deep.MidRow
import Derived.Deep.Draws
import Derived.Deep.QuietTactic
import Derived.BigQuiet
import Derived.StillTailTactics
import Derived.Test.YtjkneidoochfjaaGreatDoorChecked
import Derived.LaidEql
import Derived.LaidLaws
import Derived.Stop.Asserts
import Derived.Stop.LaidErr
import Derived.RowKitTokens
import Derived.Below
import Derived.ChangeSame
import Derived.ReadAgain
import Derived.ChangeOld
import Derived.RowKit
import Derived.OpenShut
import Derived.Test.YtjkneidoochfjaaGreatDoorCards
import Derived.Test.YtjkneidoochfjaaGreatDoorTie
import Derived.ProofKit
import Derived.ChangeMaps5
import Derived.Deep.DeepHandedRow
import Derived.Deep.DeepLaidRun
namespace Go.Proofs.YtjkneidoochfjaaGreatDoor
open Go Go.RowKit
def Blk (w : World) (g : Nat) (t : TypeId) (cs : Array Value) : Prop := w.heap[g]? = some (.cells cs t (0, 0))
section
variable {w w' : World} {g : Nat} {t : TypeId} {cs : Array Value}
theorem Blk.lt (h : Blk w g t cs) : g < w.heap.size := (Array.getElem?_eq_some_iff.1 h).1
theorem Blk.cell (h : Blk w g t cs) (i : Nat) : w.cell? ⟨g, i, none⟩ = cs[i]? := by
  show (match w.heap[g]? with | some (.cells c _ _) => if (none : Option Nat).isSome then none else c[i]? | _ => none) = _
  rw [show w.heap[g]? = _ from h]; rfl
theorem Blk.frozen (h : Blk w g t cs) (i : Nat) : w.frozen? ⟨g, i, none⟩ = false := frozen_of_row w g i cs t h
theorem Blk.stands (h : Blk w g t cs) (e : w'.heap[g]? = w.heap[g]?) : Blk w' g t cs := e.trans h
theorem Blk.new (w : World) (t : TypeId) (cs : Array Value) : Blk (w.alloc (.cells cs t)) w.heap.size t cs := heap_alloc_new w (.cells cs t)
theorem Blk.drew (h : Blk w g t cs) : Blk w.drew g t cs := h.stands rfl
theorem Blk.drewN (h : Blk w g t cs) (n : Nat) : Blk (w.drewN n) g t cs := h.stands rfl
theorem Blk.alloc (h : Blk w g t cs) (o : Obj) : Blk (w.alloc o) g t cs := h.stands (Below.heap_alloc w o g h.lt)
theorem Blk.set_ (h : Blk w g t cs) (i : Nat) (u : Value) : Blk (w.setCell ⟨g, i, none⟩ u) g t (cs.setIfInBounds i u) := heap_setCell_same w g i cs t u h
theorem Blk.far (h : Blk w g t cs) {p : Addr} (hp : g ≠ p.block) (u : Value) : Blk (w.setCell p u) g t cs := h.stands (Below.heap_setCell w p u g hp)
theorem Blk.below {B : Nat} (h : Blk w g t cs) (hb : Below B w w') (hg : g < B) : Blk w' g t cs := h.stands (hb.block g hg)
theorem Blk.grown {row : Option Nat} (h : Blk w g t cs) (hb : w.grownBy w' row) (hg : some g ≠ row) : Blk w' g t cs := h.stands (hb.block g h.lt hg)
end
theorem Blk.row {w : World} {g : Nat} {t : TypeId} {cs : Array Value} (h : Blk w g t cs) (cs' : Array Value) : Blk (w.setRow g cs') g t cs' := setRow_heap w g cs cs' t (0, 0) h
theorem Blk.farRow {w : World} {g g' : Nat} {t : TypeId} {cs : Array Value} (h : Blk w g t cs) (hp : g ≠ g') (cs' : Array Value) : Blk (w.setRow g' cs') g t cs := h.stands (setRow_other w g' g cs' hp)
theorem below_row {B : Nat} {w w' : World} (h : Below B w w') {g : Nat} (hg : B ≤ g) (cs : Array Value) : Below B w (w'.setRow g cs) :=
  h.trans ⟨rfl, rfl, rfl, by simp, fun k hk => setRow_other w' g k cs (by omega)⟩
theorem below_drewN {B : Nat} {a w : World} (h : Below B a w) (n : Nat) : Below B a (w.drewN n) := ⟨h.os, h.tape, h.output, h.size, h.block⟩
/-! only one block of the old ones has turned -/
theorem only_step {a w w' : World} {row : Option Nat} (h : a.grownBy w row) (e1 : w'.os = w.os) (e2 : w'.tape = w.tape) (e3 : w'.output = w.output) (e4 : w.heap.size ≤ w'.heap.size)
    (e5 : ∀ i, i < a.heap.size → some i ≠ row → w'.heap[i]? = w.heap[i]?) : a.grownBy w' row where
  os := e1.trans h.os
  tape := e2.trans h.tape
  output := e3.trans h.output
  size := Nat.le_trans h.size e4
  block := fun i hi hne => (e5 i hi hne).trans (h.block i hi hne)
theorem only_drewN {a w : World} {row : Option Nat} (h : a.grownBy w row) (n : Nat) : a.grownBy (w.drewN n) row := only_step h rfl rfl rfl (Nat.le_refl _) fun _ _ _ => rfl
theorem only_ne {a : World} {g x i : Nat} (hx : x = g ∨ a.heap.size ≤ x) (hi : i < a.heap.size) (hne : some i ≠ some g) : i ≠ x := by
  rintro rfl
  exact hx.elim (fun e => hne (by rw [e])) (fun e => by omega)
theorem only_setCell {a w : World} {g : Nat} (h : a.grownBy w (some g)) {p : Addr} (hp : p.block = g ∨ a.heap.size ≤ p.block) (u : Value) : a.grownBy (w.setCell p u) (some g) :=
  only_step h rfl rfl rfl (by simp [World.setCell]) fun i hi hne => Below.heap_setCell w p u i (only_ne hp hi hne)
theorem only_setRow {a w : World} {g : Nat} (h : a.grownBy w (some g)) {g' : Nat} (hp : g' = g ∨ a.heap.size ≤ g') (cs : Array Value) : a.grownBy (w.setRow g' cs) (some g) :=
  only_step h rfl rfl rfl (by simp) fun i hi hne => setRow_other w g' i cs (only_ne hp hi hne)
theorem only_of_below {a w : World} (h : Below a.heap.size a w) (row : Option Nat) : a.grownBy w row where
  os := h.os
  tape := h.tape
  output := h.output
  size := h.size
  block := fun i hi _ => h.block i hi
theorem only_trans {a b c : World} {row : Option Nat} (h : a.grownBy b row) (k : b.grownBy c row) : a.grownBy c row :=
  only_step h k.os k.tape k.output k.size fun i hi hne => k.block i (Nat.lt_of_lt_of_le hi h.size) hne
/-- a block that the call itself made may turn -/
theorem below_of_only {a b c : World} {g : Nat} (h : Below a.heap.size a b) (k : b.grownBy c (some g)) (hg : a.heap.size ≤ g) : Below a.heap.size a c :=
  ⟨k.os.trans h.os, k.tape.trans h.tape, k.output.trans h.output, Nat.le_trans h.size k.size, fun i hi => (k.block i (Nat.lt_of_lt_of_le hi h.size) (fun e => by injection e; omega)).trans (h.block i hi)⟩
/-! rows of numbers -/
def u8s (l : List Nat) : Array Value := (l.map fun (n : Nat) => Value.int .u8 (n : Int)).toArray
theorem u8s_get (l : List Nat) (i : Nat) (h : i < l.length) : (u8s l)[i]? = some (Value.int .u8 ((l.getD i 0 : Nat) : Int)) := by
  simp [u8s, List.getD, h]
theorem u8s_size (l : List Nat) : (u8s l).size = l.length := by simp [u8s]
theorem u8s_one (l : List Nat) : (u8s l).all (·.oneCell') = true := by simp [u8s, Value.oneCell']
theorem u8s_set (l : List Nat) (i x : Nat) : (u8s l).setIfInBounds i (Value.int .u8 (x : Int)) = u8s (l.set i x) := by
  apply Array.ext'; simp [u8s, List.map_set]
theorem run_indexArr {P : Program} {t e : TypeId} {n : Nat} {k : IntKind} (ht : P.underlying t = some (.array n e)) (he : P.underlying e = some (.int k)) (hi : (P.info? e).map (·.size) = some 1) (cs : Array Value) (i : Nat) (v : Value) (h : i < n) (hv : cs[i]? = some v) (kk : IntKind)
    {ii : Int} (ei : ii = i) (w : World) : (Instr.index t (.agg cs) (.int kk ii)).run P w = .ok v w := by
  subst ei
  cases hq : P.info? e with
  | none => simp [hq] at hi
  | some d =>
    have hs : d.size = 1 := by simpa [hq] using hi
    simp [Instr.index, asIntOf, run_underlying ht, h, sizeOf, typeInfo, hq, hs, part, isAgg, run_underlying he, hv]
theorem madeOne (z : Value) (n : Nat) : madeCells #[z] n = (List.replicate n z).toArray := by
  rw [← toList_madeCells_one]
/-! bits of unsigned words -/
theorem ofInt_u (B a : Nat) (ha : a < 2 ^ B) : (BitVec.ofInt B (a : Int)).toNat = a := by
  rw [BitVec.ofInt_natCast, BitVec.toNat_ofNat]; exact Nat.mod_eq_of_lt ha
theorem u64_or (a b : Nat) (ha : a < 18446744073709551616) (hb : b < 18446744073709551616) : bits .or .u64 (a : Int) (b : Int) = ((a ||| b : Nat) : Int) := by
  have hx : a ||| b < 2 ^ 64 := Nat.or_lt_two_pow (by omega) (by omega)
  show IntKind.u64.wrap ((BitVec.ofInt 64 (a : Int) ||| BitVec.ofInt 64 (b : Int)).toNat : Int) = _
  rw [BitVec.toNat_or, ofInt_u 64 a (by omega), ofInt_u 64 b (by omega)]
  show ((a ||| b : Nat) : Int) % 18446744073709551616 = _
  omega
theorem wrap_u64 (x : Int) : IntKind.u64.wrap x = x % 18446744073709551616 := rfl
/-! texts as lists of numbers -/
def textOf (l : List Nat) : ByteArray := ⟨(l.map UInt8.ofNat).toArray⟩
theorem run_text {P : Program} (w : World) (src dst e : TypeId) (hs : P.underlying src = some (.slice e)) (he : P.underlying e = some (.int .u8)) (hd : P.underlying dst = some .string) (b off len cap : Nat) (xs : List Nat) (hlen : xs.length = len)
    (hcell : ∀ i, i < len → w.cell? ⟨b, off + i, none⟩ = some (.int .u8 ((xs.getD i 0 : Nat) : Int))) : (convert src dst (.slice (some ⟨b, off, none⟩) len cap)).run P w = .ok (.string (textOf xs)) w := by
  have h := run_convert_bytes_arg w src e hs he b off len cap (xs.map Int.ofNat) (by simpa using hlen) (fun i hi => by rw [hcell i hi]; simp [List.getD, hlen, hi]) dst hd
  rw [h]
  simp [strOfNums, textOf, Function.comp_def]
end Go.Proofs.YtjkneidoochfjaaGreatDoor
/- errors.Is at the error values of package api, and the walk of cartagenum.Num: the number of such an error. -/
namespace Go.Proofs.YtjkneidoochfjaaGreatDoor
open Go Go.RowKit Go.Extern.Stop Go.Stop Go.Extern Go.WideShapes Go.ChangeShapes
/-- an error value's interface value -/
abbrev ev (a : Addr) : Value := .iface 193 (.pointer (some a))
/-- the variables, in the order of the document's table, and their texts -/
def sgs : List Nat := [2, 3, 4, 0, 5, 6, 7, 8, 9, 10, 11, 12, 1, 13, 14, 15, 16, 17, 18, 19, 20, 21]
def stexts : List (List UInt8) := [[97, 32, 110, 117, 109, 98, 101, 114, 32, 105, 115, 32, 111, 117, 116, 32, 111, 102, 32, 105, 116, 115, 32, 114, 97, 110, 103, 101], [115, 111, 109, 101, 116, 104, 105, 110, 103, 32, 105, 115, 32, 109, 105, 115, 115, 105, 110, 103, 32, 97, 116, 32, 116, 104, 101, 32, 101, 110, 100], [116, 104, 101, 114, 101, 32, 105, 115, 32, 109, 111, 114, 101, 32, 116, 104, 97, 110, 32, 109, 97, 121, 32, 98, 101], [105, 116, 32, 105, 115, 32, 110, 111, 116, 32, 111, 102, 32, 105, 116, 115, 32, 102, 111, 114, 109], [116, 104, 101, 32, 115, 117, 109, 32, 105, 115, 32, 110, 111, 116, 32, 114, 105, 103, 104, 116], [105, 116, 32, 105, 115, 32, 110, 111, 32, 114, 105, 103, 104, 116, 32, 110, 97, 109, 101], [105, 116, 32, 105, 115, 32, 111, 102, 32, 97, 110, 111, 116, 104, 101, 114, 32, 107, 105, 110, 100], [105, 116, 32, 103, 111, 101, 115, 32, 116, 111, 111, 32, 100, 101, 101, 112], [97, 110, 32, 111, 98, 106, 101, 99, 116, 32, 105, 115, 32, 109, 105, 115, 115, 105, 110, 103], [97, 32, 114, 101, 102, 32, 105, 115, 32, 110, 111, 116, 32, 119, 104, 97, 116, 32, 119, 97, 115, 32, 101, 120, 112, 101, 99, 116, 101, 100], [116, 104, 101, 32, 100, 105, 115, 107, 32, 104, 97, 115, 32, 110, 111, 32, 114, 111, 111, 109], [116, 104, 101, 32, 113, 117, 101, 117, 101, 32, 104, 97, 115, 32, 110, 111, 32, 114, 111, 111, 109], [105, 116, 32, 105, 115, 32, 116, 111, 111, 32, 108, 97, 114, 103, 101], [116, 104, 101, 114, 101, 32, 105, 115, 32, 110, 111, 32, 115, 117, 99, 104, 32, 114, 101, 112, 111, 115, 105, 116, 111, 114, 121], [116, 104, 101, 114, 101, 32, 105, 115, 32, 115, 117, 99, 104, 32, 97, 32, 114, 101, 112, 111, 115, 105, 116, 111, 114, 121, 32, 97, 108, 114, 101, 97, 100, 121], [105, 116, 32, 105, 115, 32, 110, 111, 116, 32, 97, 118, 97, 105, 108, 97, 98, 108, 101, 32, 110, 111, 119], [110, 111, 98, 111, 100, 121, 32, 97, 110, 115, 119, 101, 114, 101, 100, 32, 105, 110, 32, 116, 105, 109, 101], [116, 104, 101, 32, 101, 112, 111, 99, 104, 32, 105, 115, 32, 110, 111, 116, 32, 116, 104, 101, 32, 99, 117, 114, 114, 101, 110, 116, 32, 111, 110, 101], [105, 116, 32, 99, 97, 110, 32, 110, 111, 116, 32, 98, 101, 32, 100, 111, 110, 101, 32, 105, 110, 32, 116, 104, 105, 115, 32, 115, 116, 97, 116, 101], [105, 116, 32, 105, 115, 32, 116, 104, 101, 114, 101, 32, 97, 108, 114, 101, 97, 100, 121], [116, 104, 101, 114, 101, 32, 105, 115, 32, 110, 111, 110, 101], [116, 104, 101, 114, 101, 32, 97, 114, 101, 32, 97, 115, 32, 109, 97, 110, 121, 32, 97, 115, 32, 109, 97, 121, 32, 98, 101]]
/-- What stands in memory for an error value: its variable, and the block that it points to. -/
structure SentAt (w : World) (g : Nat) (t : List UInt8) (a : Addr) : Prop where
  var : w.cell? ⟨g, 0, none⟩ = some (ev a)
  row : ∃ c tt, w.heap[a.block]? = some (.cells c tt (0, 0))
  txt : ∃ s : ByteArray, w.cell? a = some (.string s) ∧ s.data.toList = t
theorem SentAt.lt {w : World} {g : Nat} {t : List UInt8} {a : Addr} (h : SentAt w g t a) : g < w.heap.size := block_lt_of_cell h.var
theorem SentAt.lt2 {w : World} {g : Nat} {t : List UInt8} {a : Addr} (h : SentAt w g t a) : a.block < w.heap.size := by
  obtain ⟨c, tt, h⟩ := h.row
  exact (Array.getElem?_eq_some_iff.1 h).1
theorem SentAt.below {w w' : World} {g : Nat} {t : List UInt8} {a : Addr} (h : SentAt w g t a) {B : Nat} (hb : Below B w w') (hB : w.heap.size ≤ B) : SentAt w' g t a := by
  have l1 := h.lt
  have l2 := h.lt2
  obtain ⟨c, tt, hr⟩ := h.row
  obtain ⟨s, hs, ht⟩ := h.txt
  exact ⟨(hb.cell (p := ⟨g, 0, none⟩) (by show g < B; omega)).trans h.var, ⟨c, tt, (hb.block a.block (by omega)).trans hr⟩, ⟨s, (hb.cell (p := a) (by omega)).trans hs, ht⟩⟩
theorem SentAt.ne {w : World} {g g' : Nat} {t t' : List UInt8} {a a' : Addr} (h : SentAt w g t a) (h' : SentAt w g' t' a') (ht : t ≠ t') : a ≠ a' := by
  rintro rfl
  obtain ⟨s, hs, e⟩ := h.txt
  obtain ⟨s', hs', e'⟩ := h'.txt
  have := hs.symm.trans hs'
  injection this with this
  injection this with this
  subst this
  exact ht (e.symm.trans e')
/-- All of them. -/
def Sents (w : World) (a : Nat → Addr) : Prop := ∀ k, k < 22 → SentAt w (sgs.getD k 0) (stexts.getD k []) (a k)
theorem Sents.below {w w' : World} {a : Nat → Addr} (h : Sents w a) {B : Nat} (hb : Below B w w') (hB : w.heap.size ≤ B) : Sents w' a := fun k hk => (h k hk).below hb hB
theorem stexts_ne : ∀ j : Fin 22, ∀ k : Fin 22, j ≠ k → stexts.getD j.val [] ≠ stexts.getD k.val [] := by decide +kernel
theorem Sents.ne {w : World} {a : Nat → Addr} (h : Sents w a) {j k : Nat} (hj : j < 22) (hk : k < 22) (hne : j ≠ k) : a j ≠ a k :=
  (h j hj).ne (h k hk) (stexts_ne ⟨j, hj⟩ ⟨k, hk⟩ (fun e => hne (by injection e)))
/-! out of the listed variables -/
theorem laidMet_at {P : Program} : ∀ {l : List (String × DataW Unit)} {w : World} (i : Nat) {x : String × DataW Unit}, laidMet P l w → l[i]? = some x → ∃ r, laidMet P (x :: r) w
  | y :: r, w, 0, x, h, hx => by obtain rfl := Option.some.inj hx; exact ⟨r, h⟩
  | y :: r, w, i + 1, x, h, hx => laidMet_at i h.tail hx
theorem ev_under : Tryz.prog.underlying 193 = some (.pointer 215) := Tryz.underlying193
theorem ev_star : "*" ++ "errors.errorString" = "*errors.errorString" := by decide
theorem ev_row (u : TypeId) (h : Tryz.prog.typeName? 3 u = some "*errors.errorString") : u = 193 :=
  typeName_ptr_named (nm := "errors.errorString") (by rw [ev_star]; kernel_rfl) (by kernel_rfl) (by decide) u (by rw [ev_star]; exact h)
set_option maxRecDepth 100000 in
theorem sent_of_laid {n : String} {text : List UInt8} {r : List (String × DataW Unit)} {W : World} {g : Nat}
    (h : laidMet Tryz.prog ((n, .iface "*errors.errorString" (.ptr (.agg [.lit (.string text)]))) :: r) W)
    (hg : Tryz.prog.globalNamed n = some g) (ht : (Tryz.prog.globals[g]?).map (·.type) = some 34) : ∃ a, SentAt W g text a := by
  obtain ⟨f, hf, hft, hfo⟩ : ∃ f : Field, Tryz.prog.underlying 215 = some (.struct #[f]) ∧ f.type = 9 ∧ f.offset = 0 := ⟨_, Tryz.underlying215, by kernel_rfl, by kernel_rfl⟩
  have hc : Tryz.prog.cellsOf 215 = 1 := by kernel_rfl
  have hcs : Tryz.prog.cellsOf 9 = 1 := by kernel_rfl
  obtain ⟨ps, ⟨g0, t0, cs0, f0, p0, q0, hg0, ht0, hv0, hd0, _, e0⟩, _, hrows⟩ := h
  obtain rfl := Option.some.inj (hg.symm.trans hg0)
  obtain rfl := Option.some.inj (ht.symm.trans ht0)
  subst e0
  have hvar := fun (i : Nat) => World.var?_cell hg0 hv0 i
  obtain ⟨l0⟩ := cs0
  have ok0 : ∀ u v, l0 = [.iface u v] → Value.okWide Tryz.prog W .any 0 u v := fun u v e => by
    subst e
    exact (hrows g 0 (by simp [MemPlace.row])).2 u v (by simpa using World.var?_cell hg0 hv0 0)
  obtain ⟨a0, s0, rfl, hc0, hs0, hz0, rfl⟩ := errorString_of_trod Tryz.underlying34 ev_row ev_under hf hft hfo Tryz.underlying9 hc hcs hd0 ok0
  obtain ⟨c0, tt0, hb0⟩ := (hrows a0.block a0.off (by simp [MemPlace.row])).1
  exact ⟨a0, ⟨by simpa using hvar 0, ⟨c0, tt0, hb0⟩, ⟨s0, hc0, hs0⟩⟩⟩
/-! errors.Is -/
noncomputable def tokE : Value := .agg #[.pointer (some ⟨Tryz.prog.globals.size, 193, none⟩)]
set_option maxRecDepth 100000 in
theorem isTypeOf (v : Value) (w : World) : (Extern.ReflectliteType.typeOf #[.iface 193 v]).run Tryz.prog w = .ok (.iface 132 tokE) w := by kernel_rfl
noncomputable def cmpOf : Array Value → Sem Value := Extern.ReflectliteType.method fun t => do _root_.Go.Extern.Rtype.noPackHeld "Comparable" t; pure (.bool (← typeInfo t).comparable)
set_option maxRecDepth 100000 in
theorem isComparable (w : World) : (cmpOf #[tokE]).run Tryz.prog w = .ok (.bool true) w := by kernel_rfl
set_option maxRecDepth 100000 in
theorem isMethodComparable (v : Value) (w : World) : (Go.method 326 132 v "Comparable").run Tryz.prog w = .ok (151, v) w := by kernel_rfl
theorem isComp : (Tryz.prog.info? 193).map (·.comparable) = some true := by kernel_rfl
theorem isSize : (Tryz.prog.info? 215).map (·.size) = some 1 := by kernel_rfl
theorem noIsE (v : Value) (xT : TypeId) (w : World) : (Instr.typeAssert (.iface 193 v) xT 134 true).run Tryz.prog w = .ok (.tuple #[.nilIface, .bool false]) w := run_typeAssert_lacksB Tryz.underlying134 (by kernel_rfl) (by kernel_rfl) v xT w
theorem noUnwrapE (v : Value) (xT : TypeId) (w : World) : (Instr.typeAssert (.iface 193 v) xT 137 true).run Tryz.prog w = .ok (.tuple #[.nilIface, .bool false]) w := run_typeAssert_lacksB Tryz.underlying137 (by kernel_rfl) (by kernel_rfl) v xT w
theorem noUnwrapsE (v : Value) (xT : TypeId) (w : World) : (Instr.typeAssert (.iface 193 v) xT 139 true).run Tryz.prog w = .ok (.tuple #[.nilIface, .bool false]) w := run_typeAssert_lacksB Tryz.underlying139 (by kernel_rfl) (by kernel_rfl) v xT w
set_option maxRecDepth 100000 in
theorem is_same (a : Addr) (w : World) :
    Calls Tryz.prog 29 #[ev a, ev a] w fun e w' => e = .returned (.bool true) ∧ w' = w := by
  obtain ⟨i, hi, hcmp⟩ := Option.map_eq_some_iff.1 isComp
  obtain ⟨j, hj, hjs⟩ := Option.map_eq_some_iff.1 isSize
  have h8 := @run_callFunc_extern Tryz.prog 55 _ Extern.ReflectliteType.typeOf Tryz.func55 (by kernel_rfl) (by kernel_rfl) (by kernel_rfl) (by kernel_rfl)
  have h32 := @run_callFunc_extern Tryz.prog 151 _ cmpOf Tryz.func151 (by kernel_rfl) (by kernel_rfl) (by kernel_rfl) (by kernel_rfl)
  have tT := isTypeOf
  have cT := isComparable
  have mR := isMethodComparable
  have heq := run_eql_iface_ptr_same (P := Tryz.prog) w a Tryz.underlying34 Tryz.underlying193 hi hcmp hj
  go_enter Tryz.func29, Tryz.ntmps29
  go_wp2
  refine wp_loop_rounds 1 ?_
  rw [rounds_succ]
  go_wp2
  go_ret
  exact ⟨rfl, rfl⟩
set_option maxRecDepth 100000 in
theorem is_other (a b : Addr) (ca cb : Array Value) (ta tb : TypeId) (w : World) (hne : a ≠ b) (ha : w.heap[a.block]? = some (.cells ca ta (0, 0))) (hb : w.heap[b.block]? = some (.cells cb tb (0, 0))) :
    Calls Tryz.prog 29 #[ev a, ev b] w fun e w' => e = .returned (.bool false) ∧ w' = w := by
  obtain ⟨i, hi, hcmp⟩ := Option.map_eq_some_iff.1 isComp
  obtain ⟨j, hj, hjs⟩ := Option.map_eq_some_iff.1 isSize
  have h8 := @run_callFunc_extern Tryz.prog 55 _ Extern.ReflectliteType.typeOf Tryz.func55 (by kernel_rfl) (by kernel_rfl) (by kernel_rfl) (by kernel_rfl)
  have h32 := @run_callFunc_extern Tryz.prog 151 _ cmpOf Tryz.func151 (by kernel_rfl) (by kernel_rfl) (by kernel_rfl) (by kernel_rfl)
  have tT := isTypeOf
  have cT := isComparable
  have mR := isMethodComparable
  have nE := noIsE
  have uE := noUnwrapE
  have vE := noUnwrapsE
  have heq := run_eql_iface_ptr_other (P := Tryz.prog) w Tryz.underlying34 Tryz.underlying193 hi hcmp hj (by rw [hjs]; decide) hne ha hb
  go_enter Tryz.func29, Tryz.ntmps29
  go_wp2
  refine wp_loop_rounds 1 ?_
  rw [rounds_succ]
  go_wp2
  go_ret
  exact ⟨rfl, rfl⟩

theorem lits_get (a : Nat → Addr) : ∀ k, k < 22 → (#[ev (a 0), ev (a 1), ev (a 2), ev (a 3), ev (a 4), ev (a 5), ev (a 6), ev (a 7), ev (a 8), ev (a 9), ev (a 10), ev (a 11), ev (a 12), ev (a 13), ev (a 14), ev (a 15), ev (a 16), ev (a 17), ev (a 18), ev (a 19), ev (a 20), ev (a 21)] : Array Value)[k]? = some (ev (a k)) := by
  intro k hk
  have h : (#[ev (a 0), ev (a 1), ev (a 2), ev (a 3), ev (a 4), ev (a 5), ev (a 6), ev (a 7), ev (a 8), ev (a 9), ev (a 10), ev (a 11), ev (a 12), ev (a 13), ev (a 14), ev (a 15), ev (a 16), ev (a 17), ev (a 18), ev (a 19), ev (a 20), ev (a 21)] : Array Value) = ((List.range 22).map (fun k => ev (a k))).toArray := rfl
  rw [h]
  simp [hk]
set_option maxRecDepth 100000 in
/-- The number of the j-th error value. -/
theorem num_any (j : Nat) (hj : j < 22) (a : Nat → Addr) (w : World) (hs : Sents w a) :
    Calls Tryz.prog 13 #[ev (a j)] w fun e w' => e = .returned (.int .i64 ((j + 1 : Nat) : Int)) ∧ Below w.heap.size w w' := by
  have c0 : w.cell? ⟨2, 0, none⟩ = some (ev (a 0)) := (hs 0 (by omega)).var
  have c1 : w.cell? ⟨3, 0, none⟩ = some (ev (a 1)) := (hs 1 (by omega)).var
  have c2 : w.cell? ⟨4, 0, none⟩ = some (ev (a 2)) := (hs 2 (by omega)).var
  have c3 : w.cell? ⟨0, 0, none⟩ = some (ev (a 3)) := (hs 3 (by omega)).var
  have c4 : w.cell? ⟨5, 0, none⟩ = some (ev (a 4)) := (hs 4 (by omega)).var
  have c5 : w.cell? ⟨6, 0, none⟩ = some (ev (a 5)) := (hs 5 (by omega)).var
  have c6 : w.cell? ⟨7, 0, none⟩ = some (ev (a 6)) := (hs 6 (by omega)).var
  have c7 : w.cell? ⟨8, 0, none⟩ = some (ev (a 7)) := (hs 7 (by omega)).var
  have c8 : w.cell? ⟨9, 0, none⟩ = some (ev (a 8)) := (hs 8 (by omega)).var
  have c9 : w.cell? ⟨10, 0, none⟩ = some (ev (a 9)) := (hs 9 (by omega)).var
  have c10 : w.cell? ⟨11, 0, none⟩ = some (ev (a 10)) := (hs 10 (by omega)).var
  have c11 : w.cell? ⟨12, 0, none⟩ = some (ev (a 11)) := (hs 11 (by omega)).var
  have c12 : w.cell? ⟨1, 0, none⟩ = some (ev (a 12)) := (hs 12 (by omega)).var
  have c13 : w.cell? ⟨13, 0, none⟩ = some (ev (a 13)) := (hs 13 (by omega)).var
  have c14 : w.cell? ⟨14, 0, none⟩ = some (ev (a 14)) := (hs 14 (by omega)).var
  have c15 : w.cell? ⟨15, 0, none⟩ = some (ev (a 15)) := (hs 15 (by omega)).var
  have c16 : w.cell? ⟨16, 0, none⟩ = some (ev (a 16)) := (hs 16 (by omega)).var
  have c17 : w.cell? ⟨17, 0, none⟩ = some (ev (a 17)) := (hs 17 (by omega)).var
  have c18 : w.cell? ⟨18, 0, none⟩ = some (ev (a 18)) := (hs 18 (by omega)).var
  have c19 : w.cell? ⟨19, 0, none⟩ = some (ev (a 19)) := (hs 19 (by omega)).var
  have c20 : w.cell? ⟨20, 0, none⟩ = some (ev (a 20)) := (hs 20 (by omega)).var
  have c21 : w.cell? ⟨21, 0, none⟩ = some (ev (a 21)) := (hs 21 (by omega)).var
  have HS := Lib.hid hs
  have HL := Lib.hid (lits_get a)
  clear hs
  go_enter Tryz.func13, Tryz.ntmps13
  go_wp2_with fail
  change Code.wp _ _ _ _ (w.alloc (.cells #[ev (a 0), ev (a 1), ev (a 2), ev (a 3), ev (a 4), ev (a 5), ev (a 6), ev (a 7), ev (a 8), ev (a 9), ev (a 10), ev (a 11), ev (a 12), ev (a 13), ev (a 14), ev (a 15), ev (a 16), ev (a 17), ev (a 18), ev (a 19), ev (a 20), ev (a 21)] 34))
  have HW : Hid (Blk (w.alloc (.cells #[ev (a 0), ev (a 1), ev (a 2), ev (a 3), ev (a 4), ev (a 5), ev (a 6), ev (a 7), ev (a 8), ev (a 9), ev (a 10), ev (a 11), ev (a 12), ev (a 13), ev (a 14), ev (a 15), ev (a 16), ev (a 17), ev (a 18), ev (a 19), ev (a 20), ev (a 21)] 34)) w.heap.size 34 #[ev (a 0), ev (a 1), ev (a 2), ev (a 3), ev (a 4), ev (a 5), ev (a 6), ev (a 7), ev (a 8), ev (a 9), ev (a 10), ev (a 11), ev (a 12), ev (a 13), ev (a 14), ev (a 15), ev (a 16), ev (a 17), ev (a 18), ev (a 19), ev (a 20), ev (a 21)]) := Lib.hid (Blk.new w _ _)
  have HB : Hid (Below w.heap.size w (w.alloc (.cells #[ev (a 0), ev (a 1), ev (a 2), ev (a 3), ev (a 4), ev (a 5), ev (a 6), ev (a 7), ev (a 8), ev (a 9), ev (a 10), ev (a 11), ev (a 12), ev (a 13), ev (a 14), ev (a 15), ev (a 16), ev (a 17), ev (a 18), ev (a 19), ev (a 20), ev (a 21)] 34))) := Lib.hid ((Below.refl _ _).alloc (Nat.le_refl _) _)
  generalize (w.alloc (.cells #[ev (a 0), ev (a 1), ev (a 2), ev (a 3), ev (a 4), ev (a 5), ev (a 6), ev (a 7), ev (a 8), ev (a 9), ev (a 10), ev (a 11), ev (a 12), ev (a 13), ev (a 14), ev (a 15), ev (a 16), ev (a 17), ev (a 18), ev (a 19), ev (a 20), ev (a 21)] 34)) = w1 at HW HB ⊢
  generalize (#[ev (a 0), ev (a 1), ev (a 2), ev (a 3), ev (a 4), ev (a 5), ev (a 6), ev (a 7), ev (a 8), ev (a 9), ev (a 10), ev (a 11), ev (a 12), ev (a 13), ev (a 14), ev (a 15), ev (a 16), ev (a 17), ev (a 18), ev (a 19), ev (a 20), ev (a 21)] : Array Value) = arr at HW HL
  clear c0 c1 c2 c3 c4 c5 c6 c7 c8 c9 c10 c11 c12 c13 c14 c15 c16 c17 c18 c19 c20 c21
  go_loop [33] (fun i => ∃ k : Nat, k ≤ j ∧ i = .int .i64 k) (fun i => 22 - (intOf i).toNat)
  case atStart => exact ⟨0, by omega, rfl⟩
  case round =>
    obtain ⟨k, hk, rfl⟩ := hrel
    have hc := (HW.out.cell k).trans (HL.out k (by omega))
    have i0 : (0 : Int) ≤ ((k : Nat) : Int) := by omega
    have i1 : ((k : Nat) : Int) < 22 := by omega
    have hs := HS.out.below HB.out (Nat.le_refl _)
    obtain ⟨cj, tj, hj1⟩ := (hs j hj).row
    obtain ⟨ck, tk, hk1⟩ := (hs k (by omega)).row
    have HJ := Lib.hid hj1
    have HK := Lib.hid hk1
    clear hs hj1 hk1
    rcases Nat.lt_or_ge k j with hlt | hge
    · have HN := Lib.hid (HS.out.ne hj (show k < 22 by omega) (by omega))
      go_wp2_with fail
      refine (is_other (a j) (a k) _ _ _ _ _ HN.out HJ.out HK.out).mono ?_
      rintro e w2 ⟨rfl, rfl⟩
      go_wp2_with fail
      go_round
      case rel => exact ⟨k + 1, by omega, by go_num⟩
      case measure => simp [intOf]; omega
    · obtain rfl : k = j := by omega
      go_wp2_with fail
      refine (is_same (a k) _).mono ?_
      rintro e w2 ⟨rfl, rfl⟩
      go_wp2_with fail
      go_ret
      exact ⟨by go_num, HB.out⟩
theorem num_nil (w : World) : Calls Tryz.prog 13 #[.nilIface] w fun e w' => e = .returned (.int .i64 0) ∧ w' = w := by
  go_enter Tryz.func13, Tryz.ntmps13
  go_wp2_with fail
  go_ret
  exact ⟨rfl, rfl⟩
end Go.Proofs.YtjkneidoochfjaaGreatDoor
/- The last step of a law's row, once for all laws: a call that answers true and leaves every block that stood before as it was meets 'true; each argument reads as it read', whatever the arguments' types are. -/
namespace Go.Proofs.YtjkneidoochfjaaGreatDoor
open Go Go.RowKit Go.WideShapes Go.ChangeShapes
section
variable {H : Type} {enc : TypeId × Value → H} {P : Program} {w w' : World}
theorem sameAt_of_below (hb : Below w.heap.size w w') {p : MemPlace} (hp : p.block < w.heap.size) : w.sameAt w' p := by
  cases p with
  | cell b off => exact hb.cell (p := ⟨b, off, none⟩) hp
  | map b => exact hb.block b hp
/-- Arguments that were read are read alike behind a call that keeps the old blocks. -/
theorem all_stay (hb : Below w.heap.size w w') : ∀ {ts : List TypeId} {vs : List Value} {ds : List (DataW H)} {ps : List MemPlace},
    DataW.TrodAll enc P w 0 (fun _ => true) true ts vs ds ps → (∀ p ∈ ps, p.block < w.heap.size) → DataW.TrodAll enc P w' 0 (fun _ => true) true ts vs ds ps
  | [], [], [], _, h, _ => h
  | _ :: _, _ :: _, _ :: _, _, ⟨p, q, ⟨n, h1⟩, h2, e⟩, hs =>
    ⟨p, q, ⟨n, DataW.trod_carry n _ _ _ h1 (fun x hx => sameAt_of_below hb (hs x (by rw [e]; exact List.mem_append_left _ hx)))⟩,
      all_stay hb h2 (fun x hx => hs x (by rw [e]; exact List.mem_append_right _ hx)), e⟩
/-- A law's post. -/
theorem law_post (hlo : laidOutB P = true) (hmr : mapsRowed P = true)
    (hsl : ((List.range P.types.size).all fun t => match P.underlying t with | some (.slice e) => decide (0 < P.cellsOf e) | _ => true) = true)
    {f : Func} {s : ChangeSpec} {tb : TypeId} (hv : s.vars = []) (hrt : f.resultTypes = #[tb]) (htb : P.underlying tb = some .bool) (hT : ∀ t ∈ f.params.toList, t < P.types.size)
    {apart fresh handsOn again : Bool} {args : Array Value} {ds gs : List (DataW H)} {before : List MemPlace}
    (hfn : (s.fn H (ds ++ gs)).results = [.lit (.bool true)] ∧ (s.fn H (ds ++ gs)).args = ds ∧ (s.fn H (ds ++ gs)).vars = [])
    (hW : DataW.Whole enc P f.params.toList s.vars apart w args.toList ds gs before) (hb : Below w.heap.size w w') :
    s.post enc P f apart fresh handsOn again w args (.bool true) w' := by
  have hlt := hW.lt
  have hW0 := hW
  obtain ⟨p, q, h1, h2, he, hz, hn⟩ := hW
  rw [hv] at h2
  obtain ⟨rfl, rfl⟩ : gs = [] ∧ q = [] := by
    cases gs with
    | nil => exact ⟨rfl, h2⟩
    | cons g r => exact h2.elim
  rw [List.append_nil] at he
  subst he
  have hst := all_stay hb h1 hlt
  have hsp := DataW.TrodAll.respare (spare' := fun b => decide (b < w.heap.size)) (kids_rows hlo hmr) (slices_full_of P hsl) hT hst (fun x hx => by simpa using hlt x hx)
  have hres : ∀ (b : Nat) (sp : Nat → Bool) (hd : Bool), DataW.TrodAll enc P w' b sp hd f.resultTypes.toList ((Value.bool true).resultList f.resultTypes.size) (s.fn H (ds ++ [])).results [] := by
    intro b sp hd
    rw [hrt, hfn.1]
    exact trodAll_mk1 (shut_bool htb true)
  refine ⟨ds, [], before, [], before, [], hW0, hres _ _ _, by rw [hfn.2.1]; exact hsp, by rw [hv, hfn.2.2]; rfl, hb.frame _, fun _ => ⟨ok_one hrt rfl (okWide_bool_mk htb true), .lit (.bool true) :: ds, [], before, ⟨before, [], ?_, by rw [hv]; rfl, by simp, ?_, hn⟩, fun x hx _ => hx⟩⟩
  · rw [hrt]
    exact ⟨[], before, shut_bool htb true, hst, by simp⟩
  · intro b off hp
    rw [hb.frozen (p := ⟨b, off, none⟩) (hlt _ hp)]
    exact hz b off hp
end
end Go.Proofs.YtjkneidoochfjaaGreatDoor
/- What the laws share whose rows list error values alone: the sentinels out of 'laid', a world for the witness that has them. -/
namespace Go.Proofs.YtjkneidoochfjaaGreatDoor
open Go Go.RowKit Go.WideShapes Go.ChangeShapes Go.ChangeAt
theorem own : ownKnob Tryz.prog.godebug = none := by kernel_rfl
def putCells (cs : Array Value) : Obj → Obj
  | .cells _ t fr => .cells cs t fr
  | o => o
theorem laidOut : laidOutB Tryz.prog = true := by kernel_rfl
theorem mapsRowed_ : mapsRowed Tryz.prog = true := by kernel_rfl
theorem slicesFull : ((List.range Tryz.prog.types.size).all fun t => match Tryz.prog.underlying t with | some (.slice e) => decide (0 < Tryz.prog.cellsOf e) | _ => true) = true := by kernel_rfl
noncomputable def lowE : Nat := (World.holding Tryz.prog default ⟨#[], #[], []⟩).heap.size
/-- One of the error values out of a list. -/
theorem sent_of (W : World) (l : List (String × DataW Unit)) (h : laidMet Tryz.prog l W) (i : Nat) (n : String) (text : List UInt8) (g : Nat)
    (hi : l[i]? = some (n, .iface "*errors.errorString" (.ptr (.agg [.lit (.string text)])))) (hg : Tryz.prog.globalNamed n = some g) (ht : (Tryz.prog.globals[g]?).map (·.type) = some 34) : ∃ a, SentAt W g text a := by
  obtain ⟨r, hr⟩ := laidMet_at i h hi
  exact sent_of_laid hr hg ht
theorem sents_of (W : World) (h : ∀ k, k < 22 → ∃ a, SentAt W (sgs.getD k 0) (stexts.getD k []) a) : ∃ a, Sents W a := by
  refine ⟨fun k => if hk : k < 22 then Classical.choose (h k hk) else ⟨0, 0, none⟩, fun k hk => ?_⟩
  simp only [hk, dif_pos]
  exact Classical.choose_spec (h k hk)
end Go.Proofs.YtjkneidoochfjaaGreatDoor
/- Plain mathematics of SHA-256 over natural numbers: the words of a block, the rounds, the digest of a list of bytes. Nothing of the program. -/
namespace Go.Proofs.YtjkneidoochfjaaGreatDoor
namespace Sha
def M : Nat := 4294967296
/-- a word of 32 bits turned to the left -/
def rl (x s : Nat) : Nat := (x * 2^s % 4294967296) ||| (x / 2^(32-s))
def K : List Nat := [
  0x428a2f98, 0x71374491, 0xb5c0fbcf, 0xe9b5dba5, 0x3956c25b, 0x59f111f1, 0x923f82a4, 0xab1c5ed5,
  0xd807aa98, 0x12835b01, 0x243185be, 0x550c7dc3, 0x72be5d74, 0x80deb1fe, 0x9bdc06a7, 0xc19bf174,
  0xe49b69c1, 0xefbe4786, 0x0fc19dc6, 0x240ca1cc, 0x2de92c6f, 0x4a7484aa, 0x5cb0a9dc, 0x76f988da,
  0x983e5152, 0xa831c66d, 0xb00327c8, 0xbf597fc7, 0xc6e00bf3, 0xd5a79147, 0x06ca6351, 0x14292967,
  0x27b70a85, 0x2e1b2138, 0x4d2c6dfc, 0x53380d13, 0x650a7354, 0x766a0abb, 0x81c2c92e, 0x92722c85,
  0xa2bfe8a1, 0xa81a664b, 0xc24b8b70, 0xc76c51a3, 0xd192e819, 0xd6990624, 0xf40e3585, 0x106aa070,
  0x19a4c116, 0x1e376c08, 0x2748774c, 0x34b0bcb5, 0x391c0cb3, 0x4ed8aa4a, 0x5b9cca4f, 0x682e6ff3,
  0x748f82ee, 0x78a5636f, 0x84c87814, 0x8cc70208, 0x90befffa, 0xa4506ceb, 0xbef9a3f7, 0xc67178f2]
def H0 : List Nat := [0x6a09e667, 0xbb67ae85, 0x3c6ef372, 0xa54ff53a, 0x510e527f, 0x9b05688c, 0x1f83d9ab, 0x5be0cd19]
/-- word i of a block of bytes -/
def word (bs : List Nat) (i : Nat) : Nat := bs.getD (4*i) 0 * 16777216 + bs.getD (4*i+1) 0 * 65536 + bs.getD (4*i+2) 0 * 256 + bs.getD (4*i+3) 0
def low (p : Nat) : Nat := rl p 25 ^^^ rl p 14 ^^^ (p / 8)
def high (q : Nat) : Nat := rl q 15 ^^^ rl q 13 ^^^ (q / 1024)
/-- the word that follows those of l -/
def nextW (bs l : List Nat) : Nat :=
  if l.length < 16 then word bs l.length
  else (l.getD (l.length-16) 0 + low (l.getD (l.length-15) 0) + l.getD (l.length-7) 0 + high (l.getD (l.length-2) 0)) % 4294967296
def sched (bs : List Nat) : Nat → List Nat
  | 0 => []
  | k + 1 => sched bs k ++ [nextW bs (sched bs k)]
structure S8 where
  a : Nat
  b : Nat
  c : Nat
  d : Nat
  e : Nat
  f : Nat
  g : Nat
  h : Nat
def S1 (e : Nat) : Nat := rl e 26 ^^^ rl e 21 ^^^ rl e 7
def S0 (a : Nat) : Nat := rl a 30 ^^^ rl a 19 ^^^ rl a 10
def ch (e f g : Nat) : Nat := (e &&& f) ^^^ ((4294967295 - e) &&& g)
def maj (a b c : Nat) : Nat := (a &&& b) ^^^ (a &&& c) ^^^ (b &&& c)
def t1 (s : S8) (k w : Nat) : Nat := (s.h + S1 s.e + ch s.e s.f s.g + k + w) % 4294967296
def t2 (s : S8) : Nat := (S0 s.a + maj s.a s.b s.c) % 4294967296
def rnd (s : S8) (k w : Nat) : S8 := ⟨(t1 s k w + t2 s) % 4294967296, s.a, s.b, s.c, (s.d + t1 s k w) % 4294967296, s.e, s.f, s.g⟩
def ofL (l : List Nat) : S8 := ⟨l.getD 0 0, l.getD 1 0, l.getD 2 0, l.getD 3 0, l.getD 4 0, l.getD 5 0, l.getD 6 0, l.getD 7 0⟩
def rounds (s : S8) (w : List Nat) : Nat → S8
  | 0 => s
  | i + 1 => rnd (rounds s w i) (K.getD i 0) (w.getD i 0)
def addS (l : List Nat) (s : S8) : List Nat :=
  [(l.getD 0 0 + s.a) % 4294967296, (l.getD 1 0 + s.b) % 4294967296, (l.getD 2 0 + s.c) % 4294967296, (l.getD 3 0 + s.d) % 4294967296,
   (l.getD 4 0 + s.e) % 4294967296, (l.getD 5 0 + s.f) % 4294967296, (l.getD 6 0 + s.g) % 4294967296, (l.getD 7 0 + s.h) % 4294967296]
def mix (l w : List Nat) : List Nat := addS l (rounds (ofL l) w 64)
/-- the eight words behind a block -/
def block (l bs : List Nat) : List Nat := mix l (sched bs 64)
/-- the eight words behind n whole blocks of bs -/
def blocks (bs : List Nat) : Nat → List Nat
  | 0 => H0
  | n + 1 => block (blocks bs n) ((bs.drop (64*n)).take 64)
def join (l : List Nat) : List Nat := (List.range 32).map fun i => l.getD (i/4) 0 / 2^(24 - 8*(i%4)) % 256
/-- the message with what is added at its end -/
def len8 (n : Nat) : List Nat := (List.range 8).map fun i => (8 * n) / 2^(8*(7-i)) % 256
def padded (bs : List Nat) : List Nat := bs ++ [128] ++ List.replicate ((119 - bs.length % 64) % 64) 0 ++ len8 bs.length
def sum (bs : List Nat) : List Nat := join (blocks (padded bs) ((padded bs).length / 64))

/-! bounds -/
def Byte (bs : List Nat) : Prop := ∀ i, bs.getD i 0 < 256
def W32 (l : List Nat) : Prop := ∀ i, l.getD i 0 < 4294967296
theorem W32.nil : W32 [] := fun i => by simp
theorem getD_append_lt {l r : List Nat} {i : Nat} (h : i < l.length) : (l ++ r).getD i 0 = l.getD i 0 := by
  simp [List.getD, List.getElem?_append_left h]
theorem getD_append_ge {l r : List Nat} {i : Nat} (h : l.length ≤ i) : (l ++ r).getD i 0 = r.getD (i - l.length) 0 := by
  simp [List.getD, List.getElem?_append_right h]
def S8.ok (s : S8) : Prop := s.a < 4294967296 ∧ s.b < 4294967296 ∧ s.c < 4294967296 ∧ s.d < 4294967296 ∧ s.e < 4294967296 ∧ s.f < 4294967296 ∧ s.g < 4294967296 ∧ s.h < 4294967296
/-- figures -/
def fig (n : Nat) : Nat := if n < 10 then 48 + n else 87 + n
def hex (bs : List Nat) : List Nat := (List.range (2 * bs.length)).map fun i => if i % 2 = 0 then fig (bs.getD (i/2) 0 / 16) else fig (bs.getD (i/2) 0 % 16)
end Sha
end Go.Proofs.YtjkneidoochfjaaGreatDoor
