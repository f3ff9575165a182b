/- What every law of layer 1 shares at its row: the two tables out of the listed variables, a world for the witness, the last step. -/
import Derived.Test.YtolfphfdeccleaaGreatDoorCards
import Derived.Test.YtolfphfdeccleaaGreatDoorTie
import Derived.Test.YtolfphfdeccleaaGreatDoorMShaEnds
import Derived.ProofKit
import Derived.OpenShut
import Derived.Deep.DeepHandedRow
import Derived.Lib.LaidTab
import Derived.Stop.LaidErr
import Derived.Test.YtolfphfdeccleaaGreatDoorMBases
import Derived.ChangeMaps5
import Derived.RowKit
import Derived.Carry
import Derived.Test.YtolfphfdeccleaaGreatDoorChecked
import Derived.LaidEql
import Derived.LaidLaws
import Derived.Stop.Asserts
import Derived.RowKitTokens
import Derived.Deep.DeepLaidRun
import Derived.Test.YtolfphfdeccleaaGreatDoorMShaMsgMaths
import Derived.Deep.Matrix
import Derived.Shelf.Small.Strs
namespace Go.Proofs.YtolfphfdeccleaaGreatDoor
open Go Go.RowKit Go.WideShapes Go.ChangeShapes Go.ChangeAt
theorem own : ownKnob Tryz.prog.godebug = none := by kernel_rfl
theorem gStart : Tryz.prog.globalNamed "cartage/sha.start" = some 22 := by kernel_rfl
theorem gRounds : Tryz.prog.globalNamed "cartage/sha.rounds" = some 24 := by kernel_rfl
theorem gStartType : (Tryz.prog.globals[22]?).map (·.type) = some 171 := by kernel_rfl
theorem gRoundsType : (Tryz.prog.globals[24]?).map (·.type) = some 190 := by kernel_rfl
theorem cells8 : Tryz.prog.cellsOf 171 = 8 := by kernel_rfl
theorem cells64 : Tryz.prog.cellsOf 190 = 64 := by kernel_rfl
theorem cells1 : Tryz.prog.cellsOf 130 = 1 := by kernel_rfl
theorem list_start : (Rows.laid_cartage_sha_start : DataW Unit) = Lib.tabData .u32 (Sha.H0.map Int.ofNat) := by kernel_rfl
theorem list_rounds : (Rows.laid_cartage_sha_rounds : DataW Unit) = Lib.tabData .u32 (Sha.K.map Int.ofNat) := by kernel_rfl
theorem tabs_of_laid {W : World} (h : laidMet Tryz.prog [("cartage/sha.start", Rows.laid_cartage_sha_start), ("cartage/sha.rounds", Rows.laid_cartage_sha_rounds)] W) : Tabs W := by
  rw [list_start, list_rounds] at h
  have h1 : Lib.TabIs Tryz.prog W "cartage/sha.start" .u32 (Sha.H0.map Int.ofNat) := Lib.tabIs_of_head gStart gStartType Tryz.underlying171 Tryz.underlying130 cells1 cells8 h
  have h2 : Lib.TabIs Tryz.prog W "cartage/sha.rounds" .u32 (Sha.K.map Int.ofNat) := Lib.tabIs_of_head gRounds gRoundsType Tryz.underlying190 Tryz.underlying130 cells1 cells64 h.tail
  have c1 : ∀ i, i < 8 → W.cell? ⟨22, i, none⟩ = some (.int .u32 ((Sha.H0.getD i 0 : Nat) : Int)) := fun i hi => by
    rw [h1.cell gStart i (by simpa [Sha.H0] using hi)]
    simp [List.getD, show i < Sha.H0.length from hi]
  have c2 : ∀ i, i < 64 → W.cell? ⟨24, i, none⟩ = some (.int .u32 ((Sha.K.getD i 0 : Nat) : Int)) := fun i hi => by
    rw [h2.cell gRounds i (by rw [List.length_map]; exact hi)]
    simp [List.getD, show i < Sha.K.length from hi]
  exact ⟨⟨block_lt_of_cell (c2 0 (by omega)), block_lt_of_cell (c1 0 (by omega))⟩, c1, c2⟩
def putCells (cs : Array Value) : Obj → Obj
  | .cells _ t fr => .cells cs t fr
  | o => o
theorem laidOut : laidOutB Tryz.prog = true := by kernel_rfl
theorem mapsRowed_ : mapsRowed Tryz.prog = true := by kernel_rfl
theorem slicesFull : ((List.range Tryz.prog.types.size).all fun t => match Tryz.prog.underlying t with | some (.slice e) => decide (0 < Tryz.prog.cellsOf e) | _ => true) = true := by kernel_rfl
end Go.Proofs.YtolfphfdeccleaaGreatDoor
/- Arguments of laws, opened: arrays of bytes, texts. -/
namespace Go.Proofs.YtolfphfdeccleaaGreatDoor
open Go Go.RowKit Go.WideShapes Go.ChangeShapes
section
variable {H : Type} {enc : TypeId × Value → H} {P : Program} {W : World} {base : Nat} {sp : Nat → Bool} {held : Bool} {t e : TypeId} {n : Nat}
end
end Go.Proofs.YtolfphfdeccleaaGreatDoor
/- errors.Is at the error values of package api, and the walk of cartagenum.Num: the number of such an error. -/
namespace Go.Proofs.YtolfphfdeccleaaGreatDoor
open Go Go.RowKit Go.Extern.Stop Go.Stop Go.Extern Go.WideShapes Go.ChangeShapes
/-- an error value's interface value -/
abbrev ev (a : Addr) : Value := .iface 203 (.pointer (some a))
/-- the variables, in the order of the document's table, and their texts -/
def sgs : List Nat := [0, 1, 2, 3, 4, 5, 6, 7, 8, 9, 10, 11, 12, 13, 14, 15, 16, 17, 18, 19, 20, 21]
def stexts : List (List UInt8) := [[97, 32, 110, 117, 109, 98, 101, 114, 32, 105, 115, 32, 111, 117, 116, 32, 111, 102, 32, 105, 116, 115, 32, 114, 97, 110, 103, 101], [115, 111, 109, 101, 116, 104, 105, 110, 103, 32, 105, 115, 32, 109, 105, 115, 115, 105, 110, 103, 32, 97, 116, 32, 116, 104, 101, 32, 101, 110, 100], [116, 104, 101, 114, 101, 32, 105, 115, 32, 109, 111, 114, 101, 32, 116, 104, 97, 110, 32, 109, 97, 121, 32, 98, 101], [105, 116, 32, 105, 115, 32, 110, 111, 116, 32, 111, 102, 32, 105, 116, 115, 32, 102, 111, 114, 109], [116, 104, 101, 32, 115, 117, 109, 32, 105, 115, 32, 110, 111, 116, 32, 114, 105, 103, 104, 116], [105, 116, 32, 105, 115, 32, 110, 111, 32, 114, 105, 103, 104, 116, 32, 110, 97, 109, 101], [105, 116, 32, 105, 115, 32, 111, 102, 32, 97, 110, 111, 116, 104, 101, 114, 32, 107, 105, 110, 100], [105, 116, 32, 103, 111, 101, 115, 32, 116, 111, 111, 32, 100, 101, 101, 112], [97, 110, 32, 111, 98, 106, 101, 99, 116, 32, 105, 115, 32, 109, 105, 115, 115, 105, 110, 103], [97, 32, 114, 101, 102, 32, 105, 115, 32, 110, 111, 116, 32, 119, 104, 97, 116, 32, 119, 97, 115, 32, 101, 120, 112, 101, 99, 116, 101, 100], [116, 104, 101, 32, 100, 105, 115, 107, 32, 104, 97, 115, 32, 110, 111, 32, 114, 111, 111, 109], [116, 104, 101, 32, 113, 117, 101, 117, 101, 32, 104, 97, 115, 32, 110, 111, 32, 114, 111, 111, 109], [105, 116, 32, 105, 115, 32, 116, 111, 111, 32, 108, 97, 114, 103, 101], [116, 104, 101, 114, 101, 32, 105, 115, 32, 110, 111, 32, 115, 117, 99, 104, 32, 114, 101, 112, 111, 115, 105, 116, 111, 114, 121], [116, 104, 101, 114, 101, 32, 105, 115, 32, 115, 117, 99, 104, 32, 97, 32, 114, 101, 112, 111, 115, 105, 116, 111, 114, 121, 32, 97, 108, 114, 101, 97, 100, 121], [105, 116, 32, 105, 115, 32, 110, 111, 116, 32, 97, 118, 97, 105, 108, 97, 98, 108, 101, 32, 110, 111, 119], [110, 111, 98, 111, 100, 121, 32, 97, 110, 115, 119, 101, 114, 101, 100, 32, 105, 110, 32, 116, 105, 109, 101], [116, 104, 101, 32, 101, 112, 111, 99, 104, 32, 105, 115, 32, 110, 111, 116, 32, 116, 104, 101, 32, 99, 117, 114, 114, 101, 110, 116, 32, 111, 110, 101], [105, 116, 32, 99, 97, 110, 32, 110, 111, 116, 32, 98, 101, 32, 100, 111, 110, 101, 32, 105, 110, 32, 116, 104, 105, 115, 32, 115, 116, 97, 116, 101], [105, 116, 32, 105, 115, 32, 116, 104, 101, 114, 101, 32, 97, 108, 114, 101, 97, 100, 121], [116, 104, 101, 114, 101, 32, 105, 115, 32, 110, 111, 110, 101], [116, 104, 101, 114, 101, 32, 97, 114, 101, 32, 97, 115, 32, 109, 97, 110, 121, 32, 97, 115, 32, 109, 97, 121, 32, 98, 101]]
/-- What stands in memory for an error value: its variable, and the block that it points to. -/
structure SentAt (w : World) (g : Nat) (t : List UInt8) (a : Addr) : Prop where
  var : w.cell? ⟨g, 0, none⟩ = some (ev a)
  row : ∃ c tt, w.heap[a.block]? = some (.cells c tt (0, 0))
  txt : ∃ s : ByteArray, w.cell? a = some (.string s) ∧ s.data.toList = t
theorem SentAt.lt {w : World} {g : Nat} {t : List UInt8} {a : Addr} (h : SentAt w g t a) : g < w.heap.size := block_lt_of_cell h.var
theorem SentAt.lt2 {w : World} {g : Nat} {t : List UInt8} {a : Addr} (h : SentAt w g t a) : a.block < w.heap.size := by
  obtain ⟨c, tt, h⟩ := h.row
  exact (Array.getElem?_eq_some_iff.1 h).1
theorem SentAt.below {w w' : World} {g : Nat} {t : List UInt8} {a : Addr} (h : SentAt w g t a) {B : Nat} (hb : Below B w w') (hB : w.heap.size ≤ B) : SentAt w' g t a := by
  have l1 := h.lt
  have l2 := h.lt2
  obtain ⟨c, tt, hr⟩ := h.row
  obtain ⟨s, hs, ht⟩ := h.txt
  exact ⟨(hb.cell (p := ⟨g, 0, none⟩) (by show g < B; omega)).trans h.var, ⟨c, tt, (hb.block a.block (by omega)).trans hr⟩, ⟨s, (hb.cell (p := a) (by omega)).trans hs, ht⟩⟩
theorem SentAt.ne {w : World} {g g' : Nat} {t t' : List UInt8} {a a' : Addr} (h : SentAt w g t a) (h' : SentAt w g' t' a') (ht : t ≠ t') : a ≠ a' := by
  rintro rfl
  obtain ⟨s, hs, e⟩ := h.txt
  obtain ⟨s', hs', e'⟩ := h'.txt
  have := hs.symm.trans hs'
  injection this with this
  injection this with this
  subst this
  exact ht (e.symm.trans e')
/-- All of them. -/
def Sents (w : World) (a : Nat → Addr) : Prop := ∀ k, k < 22 → SentAt w (sgs.getD k 0) (stexts.getD k []) (a k)
theorem Sents.below {w w' : World} {a : Nat → Addr} (h : Sents w a) {B : Nat} (hb : Below B w w') (hB : w.heap.size ≤ B) : Sents w' a := fun k hk => (h k hk).below hb hB
theorem stexts_ne : ∀ j : Fin 22, ∀ k : Fin 22, j ≠ k → stexts.getD j.val [] ≠ stexts.getD k.val [] := by decide +kernel
theorem Sents.ne {w : World} {a : Nat → Addr} (h : Sents w a) {j k : Nat} (hj : j < 22) (hk : k < 22) (hne : j ≠ k) : a j ≠ a k :=
  (h j hj).ne (h k hk) (stexts_ne ⟨j, hj⟩ ⟨k, hk⟩ (fun e => hne (by injection e)))
/-! out of the listed variables -/
theorem laidMet_at {P : Program} : ∀ {l : List (String × DataW Unit)} {w : World} (i : Nat) {x : String × DataW Unit}, laidMet P l w → l[i]? = some x → ∃ r, laidMet P (x :: r) w
  | y :: r, w, 0, x, h, hx => by obtain rfl := Option.some.inj hx; exact ⟨r, h⟩
  | y :: r, w, i + 1, x, h, hx => laidMet_at i h.tail hx
theorem ev_under : Tryz.prog.underlying 203 = some (.pointer 227) := Tryz.underlying203
theorem ev_star : "*" ++ "errors.errorString" = "*errors.errorString" := by decide
theorem ev_row (u : TypeId) (h : Tryz.prog.typeName? 3 u = some "*errors.errorString") : u = 203 :=
  typeName_ptr_named (nm := "errors.errorString") (by rw [ev_star]; kernel_rfl) (by kernel_rfl) (by decide) u (by rw [ev_star]; exact h)
set_option maxRecDepth 100000 in
theorem sent_of_laid {n : String} {text : List UInt8} {r : List (String × DataW Unit)} {W : World} {g : Nat}
    (h : laidMet Tryz.prog ((n, .iface "*errors.errorString" (.ptr (.agg [.lit (.string text)]))) :: r) W)
    (hg : Tryz.prog.globalNamed n = some g) (ht : (Tryz.prog.globals[g]?).map (·.type) = some 28) : ∃ a, SentAt W g text a := by
  obtain ⟨f, hf, hft, hfo⟩ : ∃ f : Field, Tryz.prog.underlying 227 = some (.struct #[f]) ∧ f.type = 9 ∧ f.offset = 0 := ⟨_, Tryz.underlying227, by kernel_rfl, by kernel_rfl⟩
  have hc : Tryz.prog.cellsOf 227 = 1 := by kernel_rfl
  have hcs : Tryz.prog.cellsOf 9 = 1 := by kernel_rfl
  obtain ⟨ps, ⟨g0, t0, cs0, f0, p0, q0, hg0, ht0, hv0, hd0, _, e0⟩, _, hrows⟩ := h
  obtain rfl := Option.some.inj (hg.symm.trans hg0)
  obtain rfl := Option.some.inj (ht.symm.trans ht0)
  subst e0
  have hvar := fun (i : Nat) => World.var?_cell hg0 hv0 i
  obtain ⟨l0⟩ := cs0
  have ok0 : ∀ u v, l0 = [.iface u v] → Value.okWide Tryz.prog W .any 0 u v := fun u v e => by
    subst e
    exact (hrows g 0 (by simp [MemPlace.row])).2 u v (by simpa using World.var?_cell hg0 hv0 0)
  obtain ⟨a0, s0, rfl, hc0, hs0, hz0, rfl⟩ := errorString_of_trod Tryz.underlying28 ev_row ev_under hf hft hfo Tryz.underlying9 hc hcs hd0 ok0
  obtain ⟨c0, tt0, hb0⟩ := (hrows a0.block a0.off (by simp [MemPlace.row])).1
  exact ⟨a0, ⟨by simpa using hvar 0, ⟨c0, tt0, hb0⟩, ⟨s0, hc0, hs0⟩⟩⟩
/-! errors.Is -/
noncomputable def tokE : Value := .agg #[.pointer (some ⟨Tryz.prog.globals.size, 203, none⟩)]
set_option maxRecDepth 100000 in
theorem isTypeOf (v : Value) (w : World) : (Extern.ReflectliteType.typeOf #[.iface 203 v]).run Tryz.prog w = .ok (.iface 133 tokE) w := by kernel_rfl
noncomputable def cmpOf : Array Value → Sem Value := Extern.ReflectliteType.method fun t => do _root_.Go.Extern.Rtype.noPackHeld "Comparable" t; pure (.bool (← typeInfo t).comparable)
set_option maxRecDepth 100000 in
theorem isComparable (w : World) : (cmpOf #[tokE]).run Tryz.prog w = .ok (.bool true) w := by kernel_rfl
set_option maxRecDepth 100000 in
theorem isMethodComparable (v : Value) (w : World) : (Go.method 339 133 v "Comparable").run Tryz.prog w = .ok (145, v) w := by kernel_rfl
theorem isComp : (Tryz.prog.info? 203).map (·.comparable) = some true := by kernel_rfl
theorem isSize : (Tryz.prog.info? 227).map (·.size) = some 1 := by kernel_rfl
theorem noIsE (v : Value) (xT : TypeId) (w : World) : (Instr.typeAssert (.iface 203 v) xT 135 true).run Tryz.prog w = .ok (.tuple #[.nilIface, .bool false]) w := run_typeAssert_lacksB Tryz.underlying135 (by kernel_rfl) (by kernel_rfl) v xT w
theorem noUnwrapE (v : Value) (xT : TypeId) (w : World) : (Instr.typeAssert (.iface 203 v) xT 138 true).run Tryz.prog w = .ok (.tuple #[.nilIface, .bool false]) w := run_typeAssert_lacksB Tryz.underlying138 (by kernel_rfl) (by kernel_rfl) v xT w
theorem noUnwrapsE (v : Value) (xT : TypeId) (w : World) : (Instr.typeAssert (.iface 203 v) xT 140 true).run Tryz.prog w = .ok (.tuple #[.nilIface, .bool false]) w := run_typeAssert_lacksB Tryz.underlying140 (by kernel_rfl) (by kernel_rfl) v xT w
set_option maxRecDepth 100000 in
theorem is_same (a : Addr) (w : World) :
    Calls Tryz.prog 27 #[ev a, ev a] w fun e w' => e = .returned (.bool true) ∧ w' = w := by
  obtain ⟨i, hi, hcmp⟩ := Option.map_eq_some_iff.1 isComp
  obtain ⟨j, hj, hjs⟩ := Option.map_eq_some_iff.1 isSize
  have h8 := @run_callFunc_extern Tryz.prog 45 _ Extern.ReflectliteType.typeOf Tryz.func45 (by kernel_rfl) (by kernel_rfl) (by kernel_rfl) (by kernel_rfl)
  have h32 := @run_callFunc_extern Tryz.prog 145 _ cmpOf Tryz.func145 (by kernel_rfl) (by kernel_rfl) (by kernel_rfl) (by kernel_rfl)
  have tT := isTypeOf
  have cT := isComparable
  have mR := isMethodComparable
  have heq := run_eql_iface_ptr_same (P := Tryz.prog) w a Tryz.underlying28 Tryz.underlying203 hi hcmp hj
  go_enter Tryz.func27, Tryz.ntmps27
  go_wp2
  refine wp_loop_rounds 1 ?_
  rw [rounds_succ]
  go_wp2
  go_ret
  exact ⟨rfl, rfl⟩
set_option maxRecDepth 100000 in
theorem is_other (a b : Addr) (ca cb : Array Value) (ta tb : TypeId) (w : World) (hne : a ≠ b) (ha : w.heap[a.block]? = some (.cells ca ta (0, 0))) (hb : w.heap[b.block]? = some (.cells cb tb (0, 0))) :
    Calls Tryz.prog 27 #[ev a, ev b] w fun e w' => e = .returned (.bool false) ∧ w' = w := by
  obtain ⟨i, hi, hcmp⟩ := Option.map_eq_some_iff.1 isComp
  obtain ⟨j, hj, hjs⟩ := Option.map_eq_some_iff.1 isSize
  have h8 := @run_callFunc_extern Tryz.prog 45 _ Extern.ReflectliteType.typeOf Tryz.func45 (by kernel_rfl) (by kernel_rfl) (by kernel_rfl) (by kernel_rfl)
  have h32 := @run_callFunc_extern Tryz.prog 145 _ cmpOf Tryz.func145 (by kernel_rfl) (by kernel_rfl) (by kernel_rfl) (by kernel_rfl)
  have tT := isTypeOf
  have cT := isComparable
  have mR := isMethodComparable
  have nE := noIsE
  have uE := noUnwrapE
  have vE := noUnwrapsE
  have heq := run_eql_iface_ptr_other (P := Tryz.prog) w Tryz.underlying28 Tryz.underlying203 hi hcmp hj (by rw [hjs]; decide) hne ha hb
  go_enter Tryz.func27, Tryz.ntmps27
  go_wp2
  refine wp_loop_rounds 1 ?_
  rw [rounds_succ]
  go_wp2
  go_ret
  exact ⟨rfl, rfl⟩

theorem lits_get (a : Nat → Addr) : ∀ k, k < 22 → (#[ev (a 0), ev (a 1), ev (a 2), ev (a 3), ev (a 4), ev (a 5), ev (a 6), ev (a 7), ev (a 8), ev (a 9), ev (a 10), ev (a 11), ev (a 12), ev (a 13), ev (a 14), ev (a 15), ev (a 16), ev (a 17), ev (a 18), ev (a 19), ev (a 20), ev (a 21)] : Array Value)[k]? = some (ev (a k)) := by
  intro k hk
  have h : (#[ev (a 0), ev (a 1), ev (a 2), ev (a 3), ev (a 4), ev (a 5), ev (a 6), ev (a 7), ev (a 8), ev (a 9), ev (a 10), ev (a 11), ev (a 12), ev (a 13), ev (a 14), ev (a 15), ev (a 16), ev (a 17), ev (a 18), ev (a 19), ev (a 20), ev (a 21)] : Array Value) = ((List.range 22).map (fun k => ev (a k))).toArray := rfl
  rw [h]
  simp [hk]
set_option maxRecDepth 100000 in
/-- The number of the j-th error value. -/
theorem num_any (j : Nat) (hj : j < 22) (a : Nat → Addr) (w : World) (hs : Sents w a) :
    Calls Tryz.prog 11 #[ev (a j)] w fun e w' => e = .returned (.int .i64 ((j + 1 : Nat) : Int)) ∧ Below w.heap.size w w' := by
  have c0 : w.cell? ⟨0, 0, none⟩ = some (ev (a 0)) := (hs 0 (by omega)).var
  have c1 : w.cell? ⟨1, 0, none⟩ = some (ev (a 1)) := (hs 1 (by omega)).var
  have c2 : w.cell? ⟨2, 0, none⟩ = some (ev (a 2)) := (hs 2 (by omega)).var
  have c3 : w.cell? ⟨3, 0, none⟩ = some (ev (a 3)) := (hs 3 (by omega)).var
  have c4 : w.cell? ⟨4, 0, none⟩ = some (ev (a 4)) := (hs 4 (by omega)).var
  have c5 : w.cell? ⟨5, 0, none⟩ = some (ev (a 5)) := (hs 5 (by omega)).var
  have c6 : w.cell? ⟨6, 0, none⟩ = some (ev (a 6)) := (hs 6 (by omega)).var
  have c7 : w.cell? ⟨7, 0, none⟩ = some (ev (a 7)) := (hs 7 (by omega)).var
  have c8 : w.cell? ⟨8, 0, none⟩ = some (ev (a 8)) := (hs 8 (by omega)).var
  have c9 : w.cell? ⟨9, 0, none⟩ = some (ev (a 9)) := (hs 9 (by omega)).var
  have c10 : w.cell? ⟨10, 0, none⟩ = some (ev (a 10)) := (hs 10 (by omega)).var
  have c11 : w.cell? ⟨11, 0, none⟩ = some (ev (a 11)) := (hs 11 (by omega)).var
  have c12 : w.cell? ⟨12, 0, none⟩ = some (ev (a 12)) := (hs 12 (by omega)).var
  have c13 : w.cell? ⟨13, 0, none⟩ = some (ev (a 13)) := (hs 13 (by omega)).var
  have c14 : w.cell? ⟨14, 0, none⟩ = some (ev (a 14)) := (hs 14 (by omega)).var
  have c15 : w.cell? ⟨15, 0, none⟩ = some (ev (a 15)) := (hs 15 (by omega)).var
  have c16 : w.cell? ⟨16, 0, none⟩ = some (ev (a 16)) := (hs 16 (by omega)).var
  have c17 : w.cell? ⟨17, 0, none⟩ = some (ev (a 17)) := (hs 17 (by omega)).var
  have c18 : w.cell? ⟨18, 0, none⟩ = some (ev (a 18)) := (hs 18 (by omega)).var
  have c19 : w.cell? ⟨19, 0, none⟩ = some (ev (a 19)) := (hs 19 (by omega)).var
  have c20 : w.cell? ⟨20, 0, none⟩ = some (ev (a 20)) := (hs 20 (by omega)).var
  have c21 : w.cell? ⟨21, 0, none⟩ = some (ev (a 21)) := (hs 21 (by omega)).var
  have HS := Lib.hid hs
  have HL := Lib.hid (lits_get a)
  clear hs
  go_enter Tryz.func11, Tryz.ntmps11
  go_wp2_with fail
  change Code.wp _ _ _ _ (w.alloc (.cells #[ev (a 0), ev (a 1), ev (a 2), ev (a 3), ev (a 4), ev (a 5), ev (a 6), ev (a 7), ev (a 8), ev (a 9), ev (a 10), ev (a 11), ev (a 12), ev (a 13), ev (a 14), ev (a 15), ev (a 16), ev (a 17), ev (a 18), ev (a 19), ev (a 20), ev (a 21)] 28))
  have HW : Hid (Blk (w.alloc (.cells #[ev (a 0), ev (a 1), ev (a 2), ev (a 3), ev (a 4), ev (a 5), ev (a 6), ev (a 7), ev (a 8), ev (a 9), ev (a 10), ev (a 11), ev (a 12), ev (a 13), ev (a 14), ev (a 15), ev (a 16), ev (a 17), ev (a 18), ev (a 19), ev (a 20), ev (a 21)] 28)) w.heap.size 28 #[ev (a 0), ev (a 1), ev (a 2), ev (a 3), ev (a 4), ev (a 5), ev (a 6), ev (a 7), ev (a 8), ev (a 9), ev (a 10), ev (a 11), ev (a 12), ev (a 13), ev (a 14), ev (a 15), ev (a 16), ev (a 17), ev (a 18), ev (a 19), ev (a 20), ev (a 21)]) := Lib.hid (Blk.new w _ _)
  have HB : Hid (Below w.heap.size w (w.alloc (.cells #[ev (a 0), ev (a 1), ev (a 2), ev (a 3), ev (a 4), ev (a 5), ev (a 6), ev (a 7), ev (a 8), ev (a 9), ev (a 10), ev (a 11), ev (a 12), ev (a 13), ev (a 14), ev (a 15), ev (a 16), ev (a 17), ev (a 18), ev (a 19), ev (a 20), ev (a 21)] 28))) := Lib.hid ((Below.refl _ _).alloc (Nat.le_refl _) _)
  generalize (w.alloc (.cells #[ev (a 0), ev (a 1), ev (a 2), ev (a 3), ev (a 4), ev (a 5), ev (a 6), ev (a 7), ev (a 8), ev (a 9), ev (a 10), ev (a 11), ev (a 12), ev (a 13), ev (a 14), ev (a 15), ev (a 16), ev (a 17), ev (a 18), ev (a 19), ev (a 20), ev (a 21)] 28)) = w1 at HW HB ⊢
  generalize (#[ev (a 0), ev (a 1), ev (a 2), ev (a 3), ev (a 4), ev (a 5), ev (a 6), ev (a 7), ev (a 8), ev (a 9), ev (a 10), ev (a 11), ev (a 12), ev (a 13), ev (a 14), ev (a 15), ev (a 16), ev (a 17), ev (a 18), ev (a 19), ev (a 20), ev (a 21)] : Array Value) = arr at HW HL
  clear c0 c1 c2 c3 c4 c5 c6 c7 c8 c9 c10 c11 c12 c13 c14 c15 c16 c17 c18 c19 c20 c21
  go_loop [33] (fun i => ∃ k : Nat, k ≤ j ∧ i = .int .i64 k) (fun i => 22 - (intOf i).toNat)
  case atStart => exact ⟨0, by omega, rfl⟩
  case round =>
    obtain ⟨k, hk, rfl⟩ := hrel
    have hc := (HW.out.cell k).trans (HL.out k (by omega))
    have i0 : (0 : Int) ≤ ((k : Nat) : Int) := by omega
    have i1 : ((k : Nat) : Int) < 22 := by omega
    have hs := HS.out.below HB.out (Nat.le_refl _)
    obtain ⟨cj, tj, hj1⟩ := (hs j hj).row
    obtain ⟨ck, tk, hk1⟩ := (hs k (by omega)).row
    have HJ := Lib.hid hj1
    have HK := Lib.hid hk1
    clear hs hj1 hk1
    rcases Nat.lt_or_ge k j with hlt | hge
    · have HN := Lib.hid (HS.out.ne hj (show k < 22 by omega) (by omega))
      go_wp2_with fail
      refine (is_other (a j) (a k) _ _ _ _ _ HN.out HJ.out HK.out).mono ?_
      rintro e w2 ⟨rfl, rfl⟩
      go_wp2_with fail
      go_round
      case rel => exact ⟨k + 1, by omega, by go_num⟩
      case measure => simp [intOf]; omega
    · obtain rfl : k = j := by omega
      go_wp2_with fail
      refine (is_same (a k) _).mono ?_
      rintro e w2 ⟨rfl, rfl⟩
      go_wp2_with fail
      go_ret
      exact ⟨by go_num, HB.out⟩
theorem num_nil (w : World) : Calls Tryz.prog 11 #[.nilIface] w fun e w' => e = .returned (.int .i64 0) ∧ w' = w := by
  go_enter Tryz.func11, Tryz.ntmps11
  go_wp2_with fail
  go_ret
  exact ⟨rfl, rfl⟩
end Go.Proofs.YtolfphfdeccleaaGreatDoor
/- What the laws share whose rows list the error values of package api: the sentinels out of 'laid', a world for the witness that has them and the two tables. -/
namespace Go.Proofs.YtolfphfdeccleaaGreatDoor
open Go Go.RowKit Go.WideShapes Go.ChangeShapes Go.ChangeAt
noncomputable def lowE : Nat := (World.holding Tryz.prog default ⟨#[], #[], []⟩).heap.size
theorem laidMet_drop {P : Program} {w : World} : ∀ (i : Nat) {l : List (String × DataW Unit)}, laidMet P l w → laidMet P (l.drop i) w
  | 0, _, h => h
  | _ + 1, [], h => h
  | i + 1, _ :: _, h => laidMet_drop i h.tail
/-- One of the error values out of a list. -/
theorem sent_of (W : World) (l : List (String × DataW Unit)) (h : laidMet Tryz.prog l W) (i : Nat) (n : String) (text : List UInt8) (g : Nat)
    (hi : l[i]? = some (n, .iface "*errors.errorString" (.ptr (.agg [.lit (.string text)])))) (hg : Tryz.prog.globalNamed n = some g) (ht : (Tryz.prog.globals[g]?).map (·.type) = some 28) : ∃ a, SentAt W g text a := by
  obtain ⟨r, hr⟩ := laidMet_at i h hi
  exact sent_of_laid hr hg ht
end Go.Proofs.YtolfphfdeccleaaGreatDoor
/- Arguments of laws, opened: slices of bytes. -/
namespace Go.Proofs.YtolfphfdeccleaaGreatDoor
open Go Go.RowKit Go.WideShapes Go.ChangeShapes Go.Deep
section
variable {H : Type} {enc : TypeId × Value → H} {P : Program} {W : World} {held : Bool} {t e q : TypeId}
theorem spot_free {w : World} {b o : Nat} {s : Option Nat} {v : Value} (h : w.cell? ⟨b, o, s⟩ = some v) : s = none := by
  cases s with
  | none => rfl
  | some k =>
    exfalso
    unfold World.cell? at h
    split at h <;> simp_all
theorem u8_nat {n : Int} (h : (Lit.int .u8 n).wf = true) : ((n.toNat : Nat) : Int) = n ∧ n.toNat < 256 := by
  have h2 : (decide (IntKind.u8.min ≤ n) && decide (n ≤ IntKind.u8.max)) = true := h
  rw [Bool.and_eq_true, decide_eq_true_eq, decide_eq_true_eq] at h2
  have h3 : (0 : Int) ≤ n ∧ n ≤ 255 := h2
  omega
theorem slice_cells (ht : P.underlying t = some (.slice e)) {r : Reach} {b0 : Nat} {v : Value} (hval : Value.okWide P W r b0 t v) : v.cells.toList = [v] := by
  simp only [Value.okWide, ht] at hval
  cases v <;> first | rfl | (simp [Cell.okWide, ht] at hval; done) | (exfalso; simp_all [Cell.okWide, Cell.ok])
/-- bytes that are read, in a cell -/
theorem rd_of_ints {fuel : Nat} {v : Value} {x : DataW H × List MemPlace} (ht : P.underlying t = some (.slice e)) (he : P.underlying e = some (.int .u8)) (hc : P.cellsOf e = 1)
    (h : DataW.trod enc P W 0 (fun _ => true) held fuel t [v] = some x) : ∃ xs : List Nat, Rd W v xs ∧ Sha.Byte xs ∧ xs.length ≤ maxLen := by
  rcases open_ints ht he hc h with ⟨h0, _⟩ | ⟨a, len, cap, zs, h0, _, hl, hm, hz, _, hx, hw⟩
  · obtain rfl : v = .slice none 0 0 := by simpa using h0
    exact ⟨[], ⟨none, 0, rfl, Nat.le_refl _, fun h => absurd h (by simp)⟩, fun i => by simp, Nat.zero_le _⟩
  · obtain rfl : v = .slice (some a) len cap := by simpa using h0
    simp only [if_true] at hz
    have hl1 : ((zs.take len).map Int.toNat).length = len := by rw [List.length_map, List.length_take]; omega
    have hget : ∀ i, i < len → (((zs.getD i 0).toNat : Nat) : Int) = zs.getD i 0 ∧ (zs.getD i 0).toNat < 256 ∧ ((zs.take len).map Int.toNat).getD i 0 = (zs.getD i 0).toNat := fun i hi => by
      have hiz : i < zs.length := by omega
      have e1 : zs.getD i 0 = zs[i] := by rw [List.getD_eq_getElem?_getD, List.getElem?_eq_getElem hiz]; rfl
      obtain ⟨g1, g2⟩ := u8_nat (hw _ (List.getElem_mem hiz))
      refine ⟨by rw [e1]; exact g1, by rw [e1]; exact g2, ?_⟩
      rw [List.getD_eq_getElem?_getD, List.getElem?_map, List.getElem?_take_of_lt hi, List.getElem?_eq_getElem hiz, e1]; rfl
    refine ⟨(zs.take len).map Int.toNat, ⟨some a, cap, by rw [hl1], by rw [hl1]; exact hl, fun h0 => ?_⟩, fun i => ?_, by rw [hl1]; omega⟩
    · rw [hl1] at h0
      obtain ⟨b, o, s⟩ := a
      have hc0 := hx 0 (by omega)
      rw [show (⟨b, o, s⟩ : Addr).add 0 = ⟨b, o, s⟩ from by simp [Addr.add]] at hc0
      obtain rfl := spot_free hc0
      refine ⟨b, o, rfl, block_lt_of_cell hc0, fun i hi => ?_⟩
      rw [hl1] at hi
      have e1 := hx i (by omega)
      rw [show (⟨b, o, none⟩ : Addr).add i = ⟨b, o + i, none⟩ from by simp [Addr.add]] at e1
      obtain ⟨g1, _, g3⟩ := hget i hi
      rw [e1, g3, g1]
    · by_cases hi : i < len
      · obtain ⟨_, g2, g3⟩ := hget i hi
        rw [g3]; exact g2
      · rw [List.getD_eq_getElem?_getD, List.getElem?_eq_none (by rw [hl1]; omega)]; decide
theorem open_u8s (ht : P.underlying t = some (.slice e)) (he : P.underlying e = some (.int .u8)) (hc : P.cellsOf e = 1) {r : Reach} {b0 : Nat} {v : Value} {d : DataW H} {ps : List MemPlace}
    (hval : Value.okWide P W r b0 t v) (hd : DataW.Trod enc P W 0 (fun _ => true) held t v d ps) : ∃ xs : List Nat, Rd W v xs ∧ Sha.Byte xs ∧ xs.length ≤ maxLen := by
  obtain ⟨fuel, hf⟩ := hd
  rw [slice_cells ht hval] at hf
  exact rd_of_ints ht he hc hf
end
end Go.Proofs.YtolfphfdeccleaaGreatDoor
/- Arguments of laws, opened: slices of slices of bytes. -/
namespace Go.Proofs.YtolfphfdeccleaaGreatDoor
open Go Go.RowKit Go.WideShapes Go.ChangeShapes Go.Deep
section
variable {H : Type} {enc : TypeId × Value → H} {P : Program} {W : World} {held : Bool} {t e q : TypeId}
theorem open_parts (ht : P.underlying t = some (.slice e)) (he : P.underlying e = some (.slice q)) (hq : P.underlying q = some (.int .u8)) (ce : P.cellsOf e = 1) (cq : P.cellsOf q = 1) {r : Reach} {b0 : Nat} {v : Value} {d : DataW H} {ps : List MemPlace}
    (hval : Value.okWide P W r b0 t v) (hd : DataW.Trod enc P W 0 (fun _ => true) held t v d ps) :
    ∃ (vs : List Value) (pss : List (List Nat)), RdL W v vs ∧ pss.length = vs.length ∧ (∀ i u, vs[i]? = some u → Rd W u (pss.getD i [])) ∧ (∀ ps ∈ pss, Sha.Byte ps) ∧ vs.length ≤ maxLen ∧ ∀ ps ∈ pss, ps.length ≤ maxLen := by
  have hv1 : v.cells.toList = [v] := by
    simp only [Value.okWide, ht] at hval
    cases v <;> first | rfl | (simp [Cell.okWide, ht] at hval; done) | (exfalso; simp_all [Cell.okWide, Cell.ok])
  obtain ⟨fuel, hf⟩ := hd
  rw [hv1] at hf
  rcases open_int_rows ht he hq ce cq hf with ⟨hc, _⟩ | ⟨a, len, cap, A, L, C, Z, hc, _, hlc, hcm, _, hx⟩
  · obtain rfl : v = .slice none 0 0 := by simpa using hc
    exact ⟨[], [], ⟨none, 0, rfl, Nat.le_refl _, fun h => by simp at h⟩, rfl, fun i u h => by simp at h, fun ps h => by simp at h, Nat.zero_le _, fun ps h => by simp at h⟩
  · obtain rfl : v = .slice (some a) len cap := by simpa using hc
    have hvl : ((List.range len).map fun r => Value.slice (A r) (L r) (C r)).length = len := by simp
    have hpl : ((List.range len).map fun r => ((Z r).take (L r)).map Int.toNat).length = len := by simp
    have hzl : ∀ r, r < cap → (((Z r).take (L r)).map Int.toNat).length = L r := fun r hr => by
      obtain ⟨_, h1, _, h2, _⟩ := hx r hr
      rw [List.length_map, List.length_take]; omega
    have hget : ∀ r, r < cap → ∀ i, i < L r → (((Z r).getD i 0).toNat : Int) = (Z r).getD i 0 ∧ ((Z r).getD i 0).toNat < 256 ∧ (((Z r).take (L r)).map Int.toNat).getD i 0 = ((Z r).getD i 0).toNat := fun r hr i hi => by
      obtain ⟨_, h1, _, h2, h3, _⟩ := hx r hr
      have hiz : i < (Z r).length := by omega
      have e1 : (Z r).getD i 0 = (Z r)[i] := by rw [List.getD_eq_getElem?_getD, List.getElem?_eq_getElem hiz]; rfl
      obtain ⟨g1, g2⟩ := u8_nat (h3 _ (List.getElem_mem hiz))
      refine ⟨by rw [e1]; exact g1, by rw [e1]; exact g2, ?_⟩
      rw [List.getD_eq_getElem?_getD, List.getElem?_map, List.getElem?_take_of_lt hi, List.getElem?_eq_getElem hiz, e1]; rfl
    refine ⟨(List.range len).map fun r => .slice (A r) (L r) (C r), (List.range len).map fun r => ((Z r).take (L r)).map Int.toNat, ⟨some a, cap, by rw [hvl], by rw [hvl]; exact hlc, fun h0 => ?_⟩, by rw [hvl, hpl], fun i u hu => ?_, fun ps hp => ?_, by rw [hvl]; omega, fun ps hp => ?_⟩
    · rw [hvl] at h0
      obtain ⟨b, o, s⟩ := a
      have hc0 := (hx 0 (by omega)).1
      rw [show (⟨b, o, s⟩ : Addr).add 0 = ⟨b, o, s⟩ from by simp [Addr.add]] at hc0
      obtain rfl := spot_free hc0
      refine ⟨b, o, rfl, block_lt_of_cell hc0, fun i u hu => ?_⟩
      have hi : i < len := by have := (List.getElem?_eq_some_iff.1 hu).1; rwa [hvl] at this
      have e1 := (hx i (by omega)).1
      rw [show (⟨b, o, none⟩ : Addr).add i = ⟨b, o + i, none⟩ from by simp [Addr.add]] at e1
      rw [e1, ← hu, List.getElem?_map, List.getElem?_range hi]; rfl
    · have hi : i < len := by have := (List.getElem?_eq_some_iff.1 hu).1; rwa [hvl] at this
      rw [List.getElem?_map, List.getElem?_range hi] at hu
      cases hu
      have hpi : ((List.range len).map fun r => ((Z r).take (L r)).map Int.toNat).getD i [] = ((Z i).take (L i)).map Int.toNat := by
        rw [List.getD_eq_getElem?_getD, List.getElem?_map, List.getElem?_range hi]; rfl
      rw [hpi]
      obtain ⟨_, h1, h2, h3, _, h5, h6⟩ := hx i (by omega)
      refine ⟨A i, C i, by rw [hzl i (by omega)], by rw [hzl i (by omega)]; exact h1, fun h0 => ?_⟩
      rw [hzl i (by omega)] at h0
      cases hA : A i with
      | none => have := h5 hA; omega
      | some a' =>
        obtain ⟨b, o, s⟩ := a'
        obtain ⟨_, h7⟩ := h6 _ hA
        have hc0 := h7 0 (by omega)
        rw [show (⟨b, o, s⟩ : Addr).add 0 = ⟨b, o, s⟩ from by simp [Addr.add]] at hc0
        obtain rfl := spot_free hc0
        refine ⟨b, o, rfl, block_lt_of_cell hc0, fun j hj => ?_⟩
        rw [hzl i (by omega)] at hj
        have e1 := h7 j (by omega)
        rw [show (⟨b, o, none⟩ : Addr).add j = ⟨b, o + j, none⟩ from by simp [Addr.add]] at e1
        obtain ⟨g1, _, g3⟩ := hget i (by omega) j hj
        rw [e1, g3, g1]
    · obtain ⟨r, hr, rfl⟩ := List.mem_map.1 hp
      have hr' := List.mem_range.1 hr
      intro i
      by_cases hi : i < L r
      · obtain ⟨_, g2, g3⟩ := hget r (by omega) i hi
        rw [g3]; exact g2
      · rw [List.getD_eq_getElem?_getD, List.getElem?_eq_none (by rw [hzl r (by omega)]; omega)]; decide
    · obtain ⟨r, hr, rfl⟩ := List.mem_map.1 hp
      have hr' := List.mem_range.1 hr
      obtain ⟨_, h1, h2, _⟩ := hx r (by omega)
      rw [hzl r (by omega)]; omega
end
end Go.Proofs.YtolfphfdeccleaaGreatDoor
/- The library's contracts that layer 3 leans on, laid at this program's numbers. -/
namespace Go.Proofs.YtolfphfdeccleaaGreatDoor
open Go Go.RowKit
/-! strings.IndexByte -/
section
open Go.Shelf
def ixb_ren : Go.Shelf.Ren := ⟨fun | 137 => 91 | 217 => 105 | 266 => 121 | n => n, fun | 9 => 9 | 5 => 5 | 3 => 3 | n => n, fun | n => n⟩
theorem ixb_lays : Go.Proofs.Lays.n137 Tryz.prog ixb_ren := {
  mixed := by kernel_rfl
  f137 := Tryz.func91.trans (congrArg some (by kernel_rfl))
  f217 := Tryz.func105.trans (congrArg some (by kernel_rfl))
  f266 := Tryz.func121.trans (congrArg some (by kernel_rfl))
  t3 := Tryz.underlying3
  a3 := Tryz.isAgg3
  z3 := Tryz.sizeOf3
  v3 := Tryz.zeroValue3
  t5 := Tryz.underlying5
  a5 := Tryz.isAgg5
  z5 := Tryz.sizeOf5
  v5 := Tryz.zeroValue5
  t9 := Tryz.underlying9
  a9 := Tryz.isAgg9
  z9 := Tryz.sizeOf9
  v9 := Tryz.zeroValue9 }
end
end Go.Proofs.YtolfphfdeccleaaGreatDoor
