/- errors.Is at the error values of package api, and the walk of cartagenum.Num: the number of such an error. -/
import Derived.Test.YtagplmlhpocbjaaDoorBase
import Derived.Test.YtagplmlhpocbjaaDoorChecked
import Derived.LaidEql
import Derived.LaidLaws
import Derived.Stop.Asserts
import Derived.Stop.LaidErr
import Derived.RowKitTokens
namespace Go.Proofs.YtagplmlhpocbjaaDoor
open Go Go.RowKit Go.Extern.Stop Go.Stop Go.Extern Go.WideShapes Go.ChangeShapes
/-- an error value's interface value -/
abbrev ev (a : Addr) : Value := .iface 72 (.pointer (some a))
/-- the variables, in the order of the document's table, and their texts -/
def sgs : List Nat := [0, 1, 2, 3, 4, 5, 6, 7, 8, 9, 10, 11, 12, 13, 14, 15, 16, 17, 18, 19, 20, 21]
def stexts : List (List UInt8) := [[97, 32, 110, 117, 109, 98, 101, 114, 32, 105, 115, 32, 111, 117, 116, 32, 111, 102, 32, 105, 116, 115, 32, 114, 97, 110, 103, 101], [115, 111, 109, 101, 116, 104, 105, 110, 103, 32, 105, 115, 32, 109, 105, 115, 115, 105, 110, 103, 32, 97, 116, 32, 116, 104, 101, 32, 101, 110, 100], [116, 104, 101, 114, 101, 32, 105, 115, 32, 109, 111, 114, 101, 32, 116, 104, 97, 110, 32, 109, 97, 121, 32, 98, 101], [105, 116, 32, 105, 115, 32, 110, 111, 116, 32, 111, 102, 32, 105, 116, 115, 32, 102, 111, 114, 109], [116, 104, 101, 32, 115, 117, 109, 32, 105, 115, 32, 110, 111, 116, 32, 114, 105, 103, 104, 116], [105, 116, 32, 105, 115, 32, 110, 111, 32, 114, 105, 103, 104, 116, 32, 110, 97, 109, 101], [105, 116, 32, 105, 115, 32, 111, 102, 32, 97, 110, 111, 116, 104, 101, 114, 32, 107, 105, 110, 100], [105, 116, 32, 103, 111, 101, 115, 32, 116, 111, 111, 32, 100, 101, 101, 112], [97, 110, 32, 111, 98, 106, 101, 99, 116, 32, 105, 115, 32, 109, 105, 115, 115, 105, 110, 103], [97, 32, 114, 101, 102, 32, 105, 115, 32, 110, 111, 116, 32, 119, 104, 97, 116, 32, 119, 97, 115, 32, 101, 120, 112, 101, 99, 116, 101, 100], [116, 104, 101, 32, 100, 105, 115, 107, 32, 104, 97, 115, 32, 110, 111, 32, 114, 111, 111, 109], [116, 104, 101, 32, 113, 117, 101, 117, 101, 32, 104, 97, 115, 32, 110, 111, 32, 114, 111, 111, 109], [105, 116, 32, 105, 115, 32, 116, 111, 111, 32, 108, 97, 114, 103, 101], [116, 104, 101, 114, 101, 32, 105, 115, 32, 110, 111, 32, 115, 117, 99, 104, 32, 114, 101, 112, 111, 115, 105, 116, 111, 114, 121], [116, 104, 101, 114, 101, 32, 105, 115, 32, 115, 117, 99, 104, 32, 97, 32, 114, 101, 112, 111, 115, 105, 116, 111, 114, 121, 32, 97, 108, 114, 101, 97, 100, 121], [105, 116, 32, 105, 115, 32, 110, 111, 116, 32, 97, 118, 97, 105, 108, 97, 98, 108, 101, 32, 110, 111, 119], [110, 111, 98, 111, 100, 121, 32, 97, 110, 115, 119, 101, 114, 101, 100, 32, 105, 110, 32, 116, 105, 109, 101], [116, 104, 101, 32, 101, 112, 111, 99, 104, 32, 105, 115, 32, 110, 111, 116, 32, 116, 104, 101, 32, 99, 117, 114, 114, 101, 110, 116, 32, 111, 110, 101], [105, 116, 32, 99, 97, 110, 32, 110, 111, 116, 32, 98, 101, 32, 100, 111, 110, 101, 32, 105, 110, 32, 116, 104, 105, 115, 32, 115, 116, 97, 116, 101], [105, 116, 32, 105, 115, 32, 116, 104, 101, 114, 101, 32, 97, 108, 114, 101, 97, 100, 121], [116, 104, 101, 114, 101, 32, 105, 115, 32, 110, 111, 110, 101], [116, 104, 101, 114, 101, 32, 97, 114, 101, 32, 97, 115, 32, 109, 97, 110, 121, 32, 97, 115, 32, 109, 97, 121, 32, 98, 101]]
/-- What stands in memory for an error value: its variable, and the block that it points to. -/
structure SentAt (w : World) (g : Nat) (t : List UInt8) (a : Addr) : Prop where
  var : w.cell? ⟨g, 0, none⟩ = some (ev a)
  row : ∃ c tt, w.heap[a.block]? = some (.cells c tt (0, 0))
  txt : ∃ s : ByteArray, w.cell? a = some (.string s) ∧ s.data.toList = t
theorem SentAt.lt {w : World} {g : Nat} {t : List UInt8} {a : Addr} (h : SentAt w g t a) : g < w.heap.size := block_lt_of_cell h.var
theorem SentAt.lt2 {w : World} {g : Nat} {t : List UInt8} {a : Addr} (h : SentAt w g t a) : a.block < w.heap.size := by
  obtain ⟨c, tt, h⟩ := h.row
  exact (Array.getElem?_eq_some_iff.1 h).1
theorem SentAt.below {w w' : World} {g : Nat} {t : List UInt8} {a : Addr} (h : SentAt w g t a) {B : Nat} (hb : Below B w w') (hB : w.heap.size ≤ B) : SentAt w' g t a := by
  have l1 := h.lt
  have l2 := h.lt2
  obtain ⟨c, tt, hr⟩ := h.row
  obtain ⟨s, hs, ht⟩ := h.txt
  exact ⟨(hb.cell (p := ⟨g, 0, none⟩) (by show g < B; omega)).trans h.var, ⟨c, tt, (hb.block a.block (by omega)).trans hr⟩, ⟨s, (hb.cell (p := a) (by omega)).trans hs, ht⟩⟩
theorem SentAt.ne {w : World} {g g' : Nat} {t t' : List UInt8} {a a' : Addr} (h : SentAt w g t a) (h' : SentAt w g' t' a') (ht : t ≠ t') : a ≠ a' := by
  rintro rfl
  obtain ⟨s, hs, e⟩ := h.txt
  obtain ⟨s', hs', e'⟩ := h'.txt
  have := hs.symm.trans hs'
  injection this with this
  injection this with this
  subst this
  exact ht (e.symm.trans e')
/-- All of them. -/
def Sents (w : World) (a : Nat → Addr) : Prop := ∀ k, k < 22 → SentAt w (sgs.getD k 0) (stexts.getD k []) (a k)
theorem Sents.below {w w' : World} {a : Nat → Addr} (h : Sents w a) {B : Nat} (hb : Below B w w') (hB : w.heap.size ≤ B) : Sents w' a := fun k hk => (h k hk).below hb hB
theorem stexts_ne : ∀ j : Fin 22, ∀ k : Fin 22, j ≠ k → stexts.getD j.val [] ≠ stexts.getD k.val [] := by decide +kernel
theorem Sents.ne {w : World} {a : Nat → Addr} (h : Sents w a) {j k : Nat} (hj : j < 22) (hk : k < 22) (hne : j ≠ k) : a j ≠ a k :=
  (h j hj).ne (h k hk) (stexts_ne ⟨j, hj⟩ ⟨k, hk⟩ (fun e => hne (by injection e)))
/-! out of the listed variables -/
theorem laidMet_at {P : Program} : ∀ {l : List (String × DataW Unit)} {w : World} (i : Nat) {x : String × DataW Unit}, laidMet P l w → l[i]? = some x → ∃ r, laidMet P (x :: r) w
  | y :: r, w, 0, x, h, hx => by obtain rfl := Option.some.inj hx; exact ⟨r, h⟩
  | y :: r, w, i + 1, x, h, hx => laidMet_at i h.tail hx
theorem ev_under : Tryd.prog.underlying 72 = some (.pointer 97) := Tryd.underlying72
theorem ev_star : "*" ++ "errors.errorString" = "*errors.errorString" := by decide
theorem ev_row (u : TypeId) (h : Tryd.prog.typeName? 3 u = some "*errors.errorString") : u = 72 :=
  typeName_ptr_named (nm := "errors.errorString") (by rw [ev_star]; kernel_rfl) (by kernel_rfl) (by decide) u (by rw [ev_star]; exact h)
set_option maxRecDepth 100000 in
theorem sent_of_laid {n : String} {text : List UInt8} {r : List (String × DataW Unit)} {W : World} {g : Nat}
    (h : laidMet Tryd.prog ((n, .iface "*errors.errorString" (.ptr (.agg [.lit (.string text)]))) :: r) W)
    (hg : Tryd.prog.globalNamed n = some g) (ht : (Tryd.prog.globals[g]?).map (·.type) = some 27) : ∃ a, SentAt W g text a := by
  obtain ⟨f, hf, hft, hfo⟩ : ∃ f : Field, Tryd.prog.underlying 97 = some (.struct #[f]) ∧ f.type = 9 ∧ f.offset = 0 := ⟨_, Tryd.underlying97, by kernel_rfl, by kernel_rfl⟩
  have hc : Tryd.prog.cellsOf 97 = 1 := by kernel_rfl
  have hcs : Tryd.prog.cellsOf 9 = 1 := by kernel_rfl
  obtain ⟨ps, ⟨g0, t0, cs0, f0, p0, q0, hg0, ht0, hv0, hd0, _, e0⟩, _, hrows⟩ := h
  obtain rfl := Option.some.inj (hg.symm.trans hg0)
  obtain rfl := Option.some.inj (ht.symm.trans ht0)
  subst e0
  have hvar := fun (i : Nat) => World.var?_cell hg0 hv0 i
  obtain ⟨l0⟩ := cs0
  have ok0 : ∀ u v, l0 = [.iface u v] → Value.okWide Tryd.prog W .any 0 u v := fun u v e => by
    subst e
    exact (hrows g 0 (by simp [MemPlace.row])).2 u v (by simpa using World.var?_cell hg0 hv0 0)
  obtain ⟨a0, s0, rfl, hc0, hs0, hz0, rfl⟩ := errorString_of_trod Tryd.underlying27 ev_row ev_under hf hft hfo Tryd.underlying9 hc hcs hd0 ok0
  obtain ⟨c0, tt0, hb0⟩ := (hrows a0.block a0.off (by simp [MemPlace.row])).1
  exact ⟨a0, ⟨by simpa using hvar 0, ⟨c0, tt0, hb0⟩, ⟨s0, hc0, hs0⟩⟩⟩
/-! errors.Is -/
noncomputable def tokE : Value := .agg #[.pointer (some ⟨Tryd.prog.globals.size, 72, none⟩)]
set_option maxRecDepth 100000 in
theorem isTypeOf (v : Value) (w : World) : (Extern.ReflectliteType.typeOf #[.iface 72 v]).run Tryd.prog w = .ok (.iface 62 tokE) w := by kernel_rfl
noncomputable def cmpOf : Array Value → Sem Value := Extern.ReflectliteType.method fun t => do _root_.Go.Extern.Rtype.noPackHeld "Comparable" t; pure (.bool (← typeInfo t).comparable)
set_option maxRecDepth 100000 in
theorem isComparable (w : World) : (cmpOf #[tokE]).run Tryd.prog w = .ok (.bool true) w := by kernel_rfl
set_option maxRecDepth 100000 in
theorem isMethodComparable (v : Value) (w : World) : (Go.method 209 62 v "Comparable").run Tryd.prog w = .ok (50, v) w := by kernel_rfl
theorem isComp : (Tryd.prog.info? 72).map (·.comparable) = some true := by kernel_rfl
theorem isSize : (Tryd.prog.info? 97).map (·.size) = some 1 := by kernel_rfl
theorem noIsE (v : Value) (xT : TypeId) (w : World) : (Instr.typeAssert (.iface 72 v) xT 64 true).run Tryd.prog w = .ok (.tuple #[.nilIface, .bool false]) w := run_typeAssert_lacksB Tryd.underlying64 (by kernel_rfl) (by kernel_rfl) v xT w
theorem noUnwrapE (v : Value) (xT : TypeId) (w : World) : (Instr.typeAssert (.iface 72 v) xT 67 true).run Tryd.prog w = .ok (.tuple #[.nilIface, .bool false]) w := run_typeAssert_lacksB Tryd.underlying67 (by kernel_rfl) (by kernel_rfl) v xT w
theorem noUnwrapsE (v : Value) (xT : TypeId) (w : World) : (Instr.typeAssert (.iface 72 v) xT 69 true).run Tryd.prog w = .ok (.tuple #[.nilIface, .bool false]) w := run_typeAssert_lacksB Tryd.underlying69 (by kernel_rfl) (by kernel_rfl) v xT w
set_option maxRecDepth 100000 in
theorem is_same (a : Addr) (w : World) :
    Calls Tryd.prog 23 #[ev a, ev a] w fun e w' => e = .returned (.bool true) ∧ w' = w := by
  obtain ⟨i, hi, hcmp⟩ := Option.map_eq_some_iff.1 isComp
  obtain ⟨j, hj, hjs⟩ := Option.map_eq_some_iff.1 isSize
  have h8 := @run_callFunc_extern Tryd.prog 28 _ Extern.ReflectliteType.typeOf Tryd.func28 (by kernel_rfl) (by kernel_rfl) (by kernel_rfl) (by kernel_rfl)
  have h32 := @run_callFunc_extern Tryd.prog 50 _ cmpOf Tryd.func50 (by kernel_rfl) (by kernel_rfl) (by kernel_rfl) (by kernel_rfl)
  have tT := isTypeOf
  have cT := isComparable
  have mR := isMethodComparable
  have heq := run_eql_iface_ptr_same (P := Tryd.prog) w a Tryd.underlying27 Tryd.underlying72 hi hcmp hj
  go_enter Tryd.func23, Tryd.ntmps23
  go_wp2
  refine wp_loop_rounds 1 ?_
  rw [rounds_succ]
  go_wp2
  go_ret
  exact ⟨rfl, rfl⟩
set_option maxRecDepth 100000 in
theorem is_other (a b : Addr) (ca cb : Array Value) (ta tb : TypeId) (w : World) (hne : a ≠ b) (ha : w.heap[a.block]? = some (.cells ca ta (0, 0))) (hb : w.heap[b.block]? = some (.cells cb tb (0, 0))) :
    Calls Tryd.prog 23 #[ev a, ev b] w fun e w' => e = .returned (.bool false) ∧ w' = w := by
  obtain ⟨i, hi, hcmp⟩ := Option.map_eq_some_iff.1 isComp
  obtain ⟨j, hj, hjs⟩ := Option.map_eq_some_iff.1 isSize
  have h8 := @run_callFunc_extern Tryd.prog 28 _ Extern.ReflectliteType.typeOf Tryd.func28 (by kernel_rfl) (by kernel_rfl) (by kernel_rfl) (by kernel_rfl)
  have h32 := @run_callFunc_extern Tryd.prog 50 _ cmpOf Tryd.func50 (by kernel_rfl) (by kernel_rfl) (by kernel_rfl) (by kernel_rfl)
  have tT := isTypeOf
  have cT := isComparable
  have mR := isMethodComparable
  have nE := noIsE
  have uE := noUnwrapE
  have vE := noUnwrapsE
  have heq := run_eql_iface_ptr_other (P := Tryd.prog) w Tryd.underlying27 Tryd.underlying72 hi hcmp hj (by rw [hjs]; decide) hne ha hb
  go_enter Tryd.func23, Tryd.ntmps23
  go_wp2
  refine wp_loop_rounds 1 ?_
  rw [rounds_succ]
  go_wp2
  go_ret
  exact ⟨rfl, rfl⟩

theorem lits_get (a : Nat → Addr) : ∀ k, k < 22 → (#[ev (a 0), ev (a 1), ev (a 2), ev (a 3), ev (a 4), ev (a 5), ev (a 6), ev (a 7), ev (a 8), ev (a 9), ev (a 10), ev (a 11), ev (a 12), ev (a 13), ev (a 14), ev (a 15), ev (a 16), ev (a 17), ev (a 18), ev (a 19), ev (a 20), ev (a 21)] : Array Value)[k]? = some (ev (a k)) := by
  intro k hk
  have h : (#[ev (a 0), ev (a 1), ev (a 2), ev (a 3), ev (a 4), ev (a 5), ev (a 6), ev (a 7), ev (a 8), ev (a 9), ev (a 10), ev (a 11), ev (a 12), ev (a 13), ev (a 14), ev (a 15), ev (a 16), ev (a 17), ev (a 18), ev (a 19), ev (a 20), ev (a 21)] : Array Value) = ((List.range 22).map (fun k => ev (a k))).toArray := rfl
  rw [h]
  simp [hk]
set_option maxRecDepth 100000 in
/-- The number of the j-th error value. -/
theorem num_any (j : Nat) (hj : j < 22) (a : Nat → Addr) (w : World) (hs : Sents w a) :
    Calls Tryd.prog 10 #[ev (a j)] w fun e w' => e = .returned (.int .i64 ((j + 1 : Nat) : Int)) ∧ Below w.heap.size w w' := by
  have c0 : w.cell? ⟨0, 0, none⟩ = some (ev (a 0)) := (hs 0 (by omega)).var
  have c1 : w.cell? ⟨1, 0, none⟩ = some (ev (a 1)) := (hs 1 (by omega)).var
  have c2 : w.cell? ⟨2, 0, none⟩ = some (ev (a 2)) := (hs 2 (by omega)).var
  have c3 : w.cell? ⟨3, 0, none⟩ = some (ev (a 3)) := (hs 3 (by omega)).var
  have c4 : w.cell? ⟨4, 0, none⟩ = some (ev (a 4)) := (hs 4 (by omega)).var
  have c5 : w.cell? ⟨5, 0, none⟩ = some (ev (a 5)) := (hs 5 (by omega)).var
  have c6 : w.cell? ⟨6, 0, none⟩ = some (ev (a 6)) := (hs 6 (by omega)).var
  have c7 : w.cell? ⟨7, 0, none⟩ = some (ev (a 7)) := (hs 7 (by omega)).var
  have c8 : w.cell? ⟨8, 0, none⟩ = some (ev (a 8)) := (hs 8 (by omega)).var
  have c9 : w.cell? ⟨9, 0, none⟩ = some (ev (a 9)) := (hs 9 (by omega)).var
  have c10 : w.cell? ⟨10, 0, none⟩ = some (ev (a 10)) := (hs 10 (by omega)).var
  have c11 : w.cell? ⟨11, 0, none⟩ = some (ev (a 11)) := (hs 11 (by omega)).var
  have c12 : w.cell? ⟨12, 0, none⟩ = some (ev (a 12)) := (hs 12 (by omega)).var
  have c13 : w.cell? ⟨13, 0, none⟩ = some (ev (a 13)) := (hs 13 (by omega)).var
  have c14 : w.cell? ⟨14, 0, none⟩ = some (ev (a 14)) := (hs 14 (by omega)).var
  have c15 : w.cell? ⟨15, 0, none⟩ = some (ev (a 15)) := (hs 15 (by omega)).var
  have c16 : w.cell? ⟨16, 0, none⟩ = some (ev (a 16)) := (hs 16 (by omega)).var
  have c17 : w.cell? ⟨17, 0, none⟩ = some (ev (a 17)) := (hs 17 (by omega)).var
  have c18 : w.cell? ⟨18, 0, none⟩ = some (ev (a 18)) := (hs 18 (by omega)).var
  have c19 : w.cell? ⟨19, 0, none⟩ = some (ev (a 19)) := (hs 19 (by omega)).var
  have c20 : w.cell? ⟨20, 0, none⟩ = some (ev (a 20)) := (hs 20 (by omega)).var
  have c21 : w.cell? ⟨21, 0, none⟩ = some (ev (a 21)) := (hs 21 (by omega)).var
  have HS := Lib.hid hs
  have HL := Lib.hid (lits_get a)
  clear hs
  go_enter Tryd.func10, Tryd.ntmps10
  go_wp2_with fail
  change Code.wp _ _ _ _ (w.alloc (.cells #[ev (a 0), ev (a 1), ev (a 2), ev (a 3), ev (a 4), ev (a 5), ev (a 6), ev (a 7), ev (a 8), ev (a 9), ev (a 10), ev (a 11), ev (a 12), ev (a 13), ev (a 14), ev (a 15), ev (a 16), ev (a 17), ev (a 18), ev (a 19), ev (a 20), ev (a 21)] 27))
  have HW : Hid (Blk (w.alloc (.cells #[ev (a 0), ev (a 1), ev (a 2), ev (a 3), ev (a 4), ev (a 5), ev (a 6), ev (a 7), ev (a 8), ev (a 9), ev (a 10), ev (a 11), ev (a 12), ev (a 13), ev (a 14), ev (a 15), ev (a 16), ev (a 17), ev (a 18), ev (a 19), ev (a 20), ev (a 21)] 27)) w.heap.size 27 #[ev (a 0), ev (a 1), ev (a 2), ev (a 3), ev (a 4), ev (a 5), ev (a 6), ev (a 7), ev (a 8), ev (a 9), ev (a 10), ev (a 11), ev (a 12), ev (a 13), ev (a 14), ev (a 15), ev (a 16), ev (a 17), ev (a 18), ev (a 19), ev (a 20), ev (a 21)]) := Lib.hid (Blk.new w _ _)
  have HB : Hid (Below w.heap.size w (w.alloc (.cells #[ev (a 0), ev (a 1), ev (a 2), ev (a 3), ev (a 4), ev (a 5), ev (a 6), ev (a 7), ev (a 8), ev (a 9), ev (a 10), ev (a 11), ev (a 12), ev (a 13), ev (a 14), ev (a 15), ev (a 16), ev (a 17), ev (a 18), ev (a 19), ev (a 20), ev (a 21)] 27))) := Lib.hid ((Below.refl _ _).alloc (Nat.le_refl _) _)
  generalize (w.alloc (.cells #[ev (a 0), ev (a 1), ev (a 2), ev (a 3), ev (a 4), ev (a 5), ev (a 6), ev (a 7), ev (a 8), ev (a 9), ev (a 10), ev (a 11), ev (a 12), ev (a 13), ev (a 14), ev (a 15), ev (a 16), ev (a 17), ev (a 18), ev (a 19), ev (a 20), ev (a 21)] 27)) = w1 at HW HB ⊢
  generalize (#[ev (a 0), ev (a 1), ev (a 2), ev (a 3), ev (a 4), ev (a 5), ev (a 6), ev (a 7), ev (a 8), ev (a 9), ev (a 10), ev (a 11), ev (a 12), ev (a 13), ev (a 14), ev (a 15), ev (a 16), ev (a 17), ev (a 18), ev (a 19), ev (a 20), ev (a 21)] : Array Value) = arr at HW HL
  clear c0 c1 c2 c3 c4 c5 c6 c7 c8 c9 c10 c11 c12 c13 c14 c15 c16 c17 c18 c19 c20 c21
  go_loop [33] (fun i => ∃ k : Nat, k ≤ j ∧ i = .int .i64 k) (fun i => 22 - (intOf i).toNat)
  case atStart => exact ⟨0, by omega, rfl⟩
  case round =>
    obtain ⟨k, hk, rfl⟩ := hrel
    have hc := (HW.out.cell k).trans (HL.out k (by omega))
    have i0 : (0 : Int) ≤ ((k : Nat) : Int) := by omega
    have i1 : ((k : Nat) : Int) < 22 := by omega
    have hs := HS.out.below HB.out (Nat.le_refl _)
    obtain ⟨cj, tj, hj1⟩ := (hs j hj).row
    obtain ⟨ck, tk, hk1⟩ := (hs k (by omega)).row
    have HJ := Lib.hid hj1
    have HK := Lib.hid hk1
    clear hs hj1 hk1
    rcases Nat.lt_or_ge k j with hlt | hge
    · have HN := Lib.hid (HS.out.ne hj (show k < 22 by omega) (by omega))
      go_wp2_with fail
      refine (is_other (a j) (a k) _ _ _ _ _ HN.out HJ.out HK.out).mono ?_
      rintro e w2 ⟨rfl, rfl⟩
      go_wp2_with fail
      go_round
      case rel => exact ⟨k + 1, by omega, by go_num⟩
      case measure => simp [intOf]; omega
    · obtain rfl : k = j := by omega
      go_wp2_with fail
      refine (is_same (a k) _).mono ?_
      rintro e w2 ⟨rfl, rfl⟩
      go_wp2_with fail
      go_ret
      exact ⟨by go_num, HB.out⟩
theorem num_nil (w : World) : Calls Tryd.prog 10 #[.nilIface] w fun e w' => e = .returned (.int .i64 0) ∧ w' = w := by
  go_enter Tryd.func10, Tryd.ntmps10
  go_wp2_with fail
  go_ret
  exact ⟨rfl, rfl⟩
end Go.Proofs.YtagplmlhpocbjaaDoor
