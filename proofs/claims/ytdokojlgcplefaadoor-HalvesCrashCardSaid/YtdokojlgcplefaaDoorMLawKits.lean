/- What every law of layer 1 shares at its row: the two tables out of the listed variables, a world for the witness, the last step. -/
import Derived.Test.YtdokojlgcplefaaDoorCards
import Derived.Test.YtdokojlgcplefaaDoorTie
import Derived.Test.YtdokojlgcplefaaDoorMShaEnds
import Derived.ProofKit
import Derived.OpenShut
import Derived.Deep.DeepHandedRow
import Derived.Lib.LaidTab
import Derived.Stop.LaidErr
import Derived.Test.YtdokojlgcplefaaDoorMBases
import Derived.ChangeMaps5
import Derived.RowKit
import Derived.Carry
import Derived.Test.YtdokojlgcplefaaDoorChecked
import Derived.LaidEql
import Derived.LaidLaws
import Derived.Stop.Asserts
import Derived.RowKitTokens
import Derived.Deep.DeepLaidRun
import Derived.Test.YtdokojlgcplefaaDoorMShaJoins
import Derived.Deep.Matrix
import Derived.Maps.OwnSet
import Derived.OrdersHeld
import Derived.Stop.BytesEq
import Derived.Laws.AppendOwn
import Derived.Deep.MidRow
import Derived.Laws.OwnMore
namespace Go.Proofs.YtdokojlgcplefaaDoor
open Go Go.RowKit Go.WideShapes Go.ChangeShapes Go.ChangeAt
theorem own : ownKnob Tryd.prog.godebug = none := by kernel_rfl
theorem gStart : Tryd.prog.globalNamed "cartage/sha.start" = some 7 := by kernel_rfl
theorem gRounds : Tryd.prog.globalNamed "cartage/sha.rounds" = some 10 := by kernel_rfl
theorem gStartType : (Tryd.prog.globals[7]?).map (·.type) = some 132 := by kernel_rfl
theorem gRoundsType : (Tryd.prog.globals[10]?).map (·.type) = some 141 := by kernel_rfl
theorem cells8 : Tryd.prog.cellsOf 132 = 8 := by kernel_rfl
theorem cells64 : Tryd.prog.cellsOf 141 = 64 := by kernel_rfl
theorem cells1 : Tryd.prog.cellsOf 104 = 1 := by kernel_rfl
theorem list_start : (Rows.laid_cartage_sha_start : DataW Unit) = Lib.tabData .u32 (Sha.H0.map Int.ofNat) := by kernel_rfl
theorem list_rounds : (Rows.laid_cartage_sha_rounds : DataW Unit) = Lib.tabData .u32 (Sha.K.map Int.ofNat) := by kernel_rfl
theorem tabs_of_laid {W : World} (h : laidMet Tryd.prog [("cartage/sha.start", Rows.laid_cartage_sha_start), ("cartage/sha.rounds", Rows.laid_cartage_sha_rounds)] W) : Tabs W := by
 rw [list_start, list_rounds] at h
 have h1 : Lib.TabIs Tryd.prog W "cartage/sha.start" .u32 (Sha.H0.map Int.ofNat) := Lib.tabIs_of_head gStart gStartType Tryd.underlying132 Tryd.underlying104 cells1 cells8 h
 have h2 : Lib.TabIs Tryd.prog W "cartage/sha.rounds" .u32 (Sha.K.map Int.ofNat) := Lib.tabIs_of_head gRounds gRoundsType Tryd.underlying141 Tryd.underlying104 cells1 cells64 h.tail
 have c1 : ∀ i, i < 8 → W.cell? ⟨7, i, none⟩ = some (.int .u32 ((Sha.H0.getD i 0 : Nat) : Int)) := fun i hi => by
  rw [h1.cell gStart i (by simpa [Sha.H0] using hi)]
  simp [List.getD, show i < Sha.H0.length from hi]
 have c2 : ∀ i, i < 64 → W.cell? ⟨10, i, none⟩ = some (.int .u32 ((Sha.K.getD i 0 : Nat) : Int)) := fun i hi => by
  rw [h2.cell gRounds i (by rw [List.length_map]; exact hi)]
  simp [List.getD, show i < Sha.K.length from hi]
 exact ⟨⟨block_lt_of_cell (c2 0 (by omega)), block_lt_of_cell (c1 0 (by omega))⟩, c1, c2⟩
def putCells (cs : Array Value) : Obj → Obj
 | .cells _ t fr => .cells cs t fr
 | o => o
theorem laidOut : laidOutB Tryd.prog = true := by kernel_rfl
theorem mapsRowed_ : mapsRowed Tryd.prog = true := by kernel_rfl
theorem slicesFull : ((List.range Tryd.prog.types.size).all fun t => match Tryd.prog.underlying t with | some (.slice e) => decide (0 < Tryd.prog.cellsOf e) | _ => true) = true := by kernel_rfl
end Go.Proofs.YtdokojlgcplefaaDoor
/- Arguments of laws, opened: arrays of bytes, texts. -/
namespace Go.Proofs.YtdokojlgcplefaaDoor
open Go Go.RowKit Go.WideShapes Go.ChangeShapes
section
variable {H : Type} {enc : TypeId × Value → H} {P : Program} {W : World} {base : Nat} {sp : Nat → Bool} {held : Bool} {t e : TypeId} {n : Nat}
end
end Go.Proofs.YtdokojlgcplefaaDoor
/- errors.Is at the error values of package api, and the walk of cartagenum.Num: the number of such an error. -/
namespace Go.Proofs.YtdokojlgcplefaaDoor
open Go Go.RowKit Go.Extern.Stop Go.Stop Go.Extern Go.WideShapes Go.ChangeShapes
abbrev ev (a : Addr) : Value := .iface 145 (.pointer (some a))
def sgs : List Nat := [0, 6, 5, 8, 0, 0, 4, 0, 0, 0, 3, 0, 0, 0, 0, 2, 0, 0, 0, 0, 1, 0]
def stexts : List (List UInt8) := [[97, 32, 110, 117, 109, 98, 101, 114, 32, 105, 115, 32, 111, 117, 116, 32, 111, 102, 32, 105, 116, 115, 32, 114, 97, 110, 103, 101], [115, 111, 109, 101, 116, 104, 105, 110, 103, 32, 105, 115, 32, 109, 105, 115, 115, 105, 110, 103, 32, 97, 116, 32, 116, 104, 101, 32, 101, 110, 100], [116, 104, 101, 114, 101, 32, 105, 115, 32, 109, 111, 114, 101, 32, 116, 104, 97, 110, 32, 109, 97, 121, 32, 98, 101], [105, 116, 32, 105, 115, 32, 110, 111, 116, 32, 111, 102, 32, 105, 116, 115, 32, 102, 111, 114, 109], [116, 104, 101, 32, 115, 117, 109, 32, 105, 115, 32, 110, 111, 116, 32, 114, 105, 103, 104, 116], [105, 116, 32, 105, 115, 32, 110, 111, 32, 114, 105, 103, 104, 116, 32, 110, 97, 109, 101], [105, 116, 32, 105, 115, 32, 111, 102, 32, 97, 110, 111, 116, 104, 101, 114, 32, 107, 105, 110, 100], [105, 116, 32, 103, 111, 101, 115, 32, 116, 111, 111, 32, 100, 101, 101, 112], [97, 110, 32, 111, 98, 106, 101, 99, 116, 32, 105, 115, 32, 109, 105, 115, 115, 105, 110, 103], [97, 32, 114, 101, 102, 32, 105, 115, 32, 110, 111, 116, 32, 119, 104, 97, 116, 32, 119, 97, 115, 32, 101, 120, 112, 101, 99, 116, 101, 100], [116, 104, 101, 32, 100, 105, 115, 107, 32, 104, 97, 115, 32, 110, 111, 32, 114, 111, 111, 109], [116, 104, 101, 32, 113, 117, 101, 117, 101, 32, 104, 97, 115, 32, 110, 111, 32, 114, 111, 111, 109], [105, 116, 32, 105, 115, 32, 116, 111, 111, 32, 108, 97, 114, 103, 101], [116, 104, 101, 114, 101, 32, 105, 115, 32, 110, 111, 32, 115, 117, 99, 104, 32, 114, 101, 112, 111, 115, 105, 116, 111, 114, 121], [116, 104, 101, 114, 101, 32, 105, 115, 32, 115, 117, 99, 104, 32, 97, 32, 114, 101, 112, 111, 115, 105, 116, 111, 114, 121, 32, 97, 108, 114, 101, 97, 100, 121], [105, 116, 32, 105, 115, 32, 110, 111, 116, 32, 97, 118, 97, 105, 108, 97, 98, 108, 101, 32, 110, 111, 119], [110, 111, 98, 111, 100, 121, 32, 97, 110, 115, 119, 101, 114, 101, 100, 32, 105, 110, 32, 116, 105, 109, 101], [116, 104, 101, 32, 101, 112, 111, 99, 104, 32, 105, 115, 32, 110, 111, 116, 32, 116, 104, 101, 32, 99, 117, 114, 114, 101, 110, 116, 32, 111, 110, 101], [105, 116, 32, 99, 97, 110, 32, 110, 111, 116, 32, 98, 101, 32, 100, 111, 110, 101, 32, 105, 110, 32, 116, 104, 105, 115, 32, 115, 116, 97, 116, 101], [105, 116, 32, 105, 115, 32, 116, 104, 101, 114, 101, 32, 97, 108, 114, 101, 97, 100, 121], [116, 104, 101, 114, 101, 32, 105, 115, 32, 110, 111, 110, 101], [116, 104, 101, 114, 101, 32, 97, 114, 101, 32, 97, 115, 32, 109, 97, 110, 121, 32, 97, 115, 32, 109, 97, 121, 32, 98, 101]]
structure SentAt (w : World) (g : Nat) (t : List UInt8) (a : Addr) : Prop where
 var : w.cell? ⟨g, 0, none⟩ = some (ev a)
 row : ∃ c tt, w.heap[a.block]? = some (.cells c tt (0, 0))
 txt : ∃ s : ByteArray, w.cell? a = some (.string s) ∧ s.data.toList = t
theorem SentAt.lt {w : World} {g : Nat} {t : List UInt8} {a : Addr} (h : SentAt w g t a) : g < w.heap.size := block_lt_of_cell h.var
theorem SentAt.lt2 {w : World} {g : Nat} {t : List UInt8} {a : Addr} (h : SentAt w g t a) : a.block < w.heap.size := by
 obtain ⟨c, tt, h⟩ := h.row
 exact (Array.getElem?_eq_some_iff.1 h).1
theorem SentAt.below {w w' : World} {g : Nat} {t : List UInt8} {a : Addr} (h : SentAt w g t a) {B : Nat} (hb : Below B w w') (hB : w.heap.size ≤ B) : SentAt w' g t a := by
 have l1 := h.lt
 have l2 := h.lt2
 obtain ⟨c, tt, hr⟩ := h.row
 obtain ⟨s, hs, ht⟩ := h.txt
 exact ⟨(hb.cell (p := ⟨g, 0, none⟩) (by show g < B; omega)).trans h.var, ⟨c, tt, (hb.block a.block (by omega)).trans hr⟩, ⟨s, (hb.cell (p := a) (by omega)).trans hs, ht⟩⟩
theorem SentAt.ne {w : World} {g g' : Nat} {t t' : List UInt8} {a a' : Addr} (h : SentAt w g t a) (h' : SentAt w g' t' a') (ht : t ≠ t') : a ≠ a' := by
 rintro rfl
 obtain ⟨s, hs, e⟩ := h.txt
 obtain ⟨s', hs', e'⟩ := h'.txt
 have := hs.symm.trans hs'
 injection this with this
 injection this with this
 subst this
 exact ht (e.symm.trans e')
def Sents (w : World) (a : Nat → Addr) : Prop := ∀ k, k < 22 → SentAt w (sgs.getD k 0) (stexts.getD k []) (a k)
theorem Sents.below {w w' : World} {a : Nat → Addr} (h : Sents w a) {B : Nat} (hb : Below B w w') (hB : w.heap.size ≤ B) : Sents w' a := fun k hk => (h k hk).below hb hB
theorem stexts_ne : ∀ j : Fin 22, ∀ k : Fin 22, j ≠ k → stexts.getD j.val [] ≠ stexts.getD k.val [] := by decide +kernel
theorem Sents.ne {w : World} {a : Nat → Addr} (h : Sents w a) {j k : Nat} (hj : j < 22) (hk : k < 22) (hne : j ≠ k) : a j ≠ a k :=
 (h j hj).ne (h k hk) (stexts_ne ⟨j, hj⟩ ⟨k, hk⟩ (fun e => hne (by injection e)))
theorem laidMet_at {P : Program} : ∀ {l : List (String × DataW Unit)} {w : World} (i : Nat) {x : String × DataW Unit}, laidMet P l w → l[i]? = some x → ∃ r, laidMet P (x :: r) w
 | y :: r, w, 0, x, h, hx => by obtain rfl := Option.some.inj hx; exact ⟨r, h⟩
 | y :: r, w, i + 1, x, h, hx => laidMet_at i h.tail hx
theorem ev_under : Tryd.prog.underlying 145 = some (.pointer 161) := Tryd.underlying145
theorem ev_star : "*" ++ "errors.errorString" = "*errors.errorString" := by decide
theorem ev_row (u : TypeId) (h : Tryd.prog.typeName? 3 u = some "*errors.errorString") : u = 145 :=
 typeName_ptr_named (nm := "errors.errorString") (by rw [ev_star]; kernel_rfl) (by kernel_rfl) (by decide) u (by rw [ev_star]; exact h)
set_option maxRecDepth 100000 in
theorem sent_of_laid {n : String} {text : List UInt8} {r : List (String × DataW Unit)} {W : World} {g : Nat}
  (h : laidMet Tryd.prog ((n, .iface "*errors.errorString" (.ptr (.agg [.lit (.string text)]))) :: r) W)
  (hg : Tryd.prog.globalNamed n = some g) (ht : (Tryd.prog.globals[g]?).map (·.type) = some 27) : ∃ a, SentAt W g text a := by
 obtain ⟨f, hf, hft, hfo⟩ : ∃ f : Field, Tryd.prog.underlying 161 = some (.struct #[f]) ∧ f.type = 9 ∧ f.offset = 0 := ⟨_, Tryd.underlying161, by kernel_rfl, by kernel_rfl⟩
 have hc : Tryd.prog.cellsOf 161 = 1 := by kernel_rfl
 have hcs : Tryd.prog.cellsOf 9 = 1 := by kernel_rfl
 obtain ⟨ps, ⟨g0, t0, cs0, f0, p0, q0, hg0, ht0, hv0, hd0, _, e0⟩, _, hrows⟩ := h
 obtain rfl := Option.some.inj (hg.symm.trans hg0)
 obtain rfl := Option.some.inj (ht.symm.trans ht0)
 subst e0
 have hvar := fun (i : Nat) => World.var?_cell hg0 hv0 i
 obtain ⟨l0⟩ := cs0
 have ok0 : ∀ u v, l0 = [.iface u v] → Value.okWide Tryd.prog W .any 0 u v := fun u v e => by
  subst e
  exact (hrows g 0 (by simp [MemPlace.row])).2 u v (by simpa using World.var?_cell hg0 hv0 0)
 obtain ⟨a0, s0, rfl, hc0, hs0, hz0, rfl⟩ := errorString_of_trod Tryd.underlying27 ev_row ev_under hf hft hfo Tryd.underlying9 hc hcs hd0 ok0
 obtain ⟨c0, tt0, hb0⟩ := (hrows a0.block a0.off (by simp [MemPlace.row])).1
 exact ⟨a0, ⟨by simpa using hvar 0, ⟨c0, tt0, hb0⟩, ⟨s0, hc0, hs0⟩⟩⟩
end Go.Proofs.YtdokojlgcplefaaDoor
/- What the laws share whose rows list the error values of package api: the sentinels out of 'laid', a world for the witness that has them and the two tables. -/
namespace Go.Proofs.YtdokojlgcplefaaDoor
open Go Go.RowKit Go.WideShapes Go.ChangeShapes Go.ChangeAt
noncomputable def lowE : Nat := (World.holding Tryd.prog default ⟨#[], #[], []⟩).heap.size
theorem laidMet_drop {P : Program} {w : World} : ∀ (i : Nat) {l : List (String × DataW Unit)}, laidMet P l w → laidMet P (l.drop i) w
 | 0, _, h => h
 | _ + 1, [], h => h
 | i + 1, _ :: _, h => laidMet_drop i h.tail
theorem sent_of (W : World) (l : List (String × DataW Unit)) (h : laidMet Tryd.prog l W) (i : Nat) (n : String) (text : List UInt8) (g : Nat)
  (hi : l[i]? = some (n, .iface "*errors.errorString" (.ptr (.agg [.lit (.string text)])))) (hg : Tryd.prog.globalNamed n = some g) (ht : (Tryd.prog.globals[g]?).map (·.type) = some 27) : ∃ a, SentAt W g text a := by
 obtain ⟨r, hr⟩ := laidMet_at i h hi
 exact sent_of_laid hr hg ht
end Go.Proofs.YtdokojlgcplefaaDoor
/- Arguments of laws, opened: slices of bytes. -/
namespace Go.Proofs.YtdokojlgcplefaaDoor
open Go Go.RowKit Go.WideShapes Go.ChangeShapes Go.Deep
section
variable {H : Type} {enc : TypeId × Value → H} {P : Program} {W : World} {held : Bool} {t e q : TypeId}
theorem spot_free {w : World} {b o : Nat} {s : Option Nat} {v : Value} (h : w.cell? ⟨b, o, s⟩ = some v) : s = none := by
 cases s with
 | none => rfl
 | some k =>
  exfalso
  unfold World.cell? at h
  split at h <;> simp_all
theorem u8_nat {n : Int} (h : (Lit.int .u8 n).wf = true) : ((n.toNat : Nat) : Int) = n ∧ n.toNat < 256 := by
 have h2 : (decide (IntKind.u8.min ≤ n) && decide (n ≤ IntKind.u8.max)) = true := h
 rw [Bool.and_eq_true, decide_eq_true_eq, decide_eq_true_eq] at h2
 have h3 : (0 : Int) ≤ n ∧ n ≤ 255 := h2
 omega
theorem slice_cells (ht : P.underlying t = some (.slice e)) {r : Reach} {b0 : Nat} {v : Value} (hval : Value.okWide P W r b0 t v) : v.cells.toList = [v] := by
 simp only [Value.okWide, ht] at hval
 cases v <;> first | rfl | (simp [Cell.okWide, ht] at hval; done) | (exfalso; simp_all [Cell.okWide, Cell.ok])
end
end Go.Proofs.YtdokojlgcplefaaDoor
/- Maps from whole numbers to any values, as functions: what a map's block says, read off the library's laws by taking every value as its own token. -/
namespace Go.Proofs.YtdokojlgcplefaaDoor
open Go Go.RowKit Go.Maps
def selfR (v : Value) : Option (DataW Value × List MemPlace) := some (.held v, [])
theorem self_mk (v : Value) : selfR v = some (.held v, []) := by unfold selfR; rfl
theorem int_law : Keyed Tryd.prog 3 := int_keyed Tryd.underlying3
theorem key_of {i : Int} (h : (Lit.int .i64 i).wf = true) : keyOf Tryd.prog 3 (.int .i64 i) = some (.int .i64 i) := keyOf_int_mk Tryd.underlying3 h
theorem key_lit {i : Int} (h : (Lit.int .i64 i).wf = true) : WideAt.IsKeyLit (.int .i64 i) := int_law.key (key_of h)
theorem key_ne {i j : Int} (h : j ≠ i) : Lit.int .i64 j ≠ Lit.int .i64 i := fun e => h (by injection e)
def MapF (w : World) (b n : Nat) (f : Int → Option Value) : Prop :=
 ∃ D : DataW Value, w.ownsMap Tryd.prog 3 selfR b n D ∧ ∀ i, (Lit.int .i64 i).wf = true → has D (.int .i64 i) = (f i).isSome ∧ ∀ z, D.atKey (.int .i64 i) (.held z) = .held ((f i).getD z)
def upd (f : Int → Option Value) (i : Int) (v : Option Value) : Int → Option Value := fun j => if j = i then v else f j
section
variable {w w' : World} {b n : Nat} {f : Int → Option Value} {t e : TypeId} {z : Value} {i : Int}
theorem MapF.made (w : World) : MapF (w.alloc (.map #[] 0)) w.heap.size 0 (fun _ => none) := ⟨_, World.ownsMap_made w _ _ _, fun _i _ => ⟨rfl, fun _ => rfl⟩⟩
theorem MapF.lt (h : MapF w b n f) : b < w.heap.size := by obtain ⟨D, h, _⟩ := h; exact h.lt
theorem MapF.mono (h : MapF w b n f) {n' : Nat} (hn : n ≤ n') : MapF w b n' f := by obtain ⟨D, h, k⟩ := h; exact ⟨D, h.mono hn, k⟩
theorem MapF.kept {row : Option Nat} (h : MapF w b n f) (hg : w.grownBy w' row) (hne : some b ≠ row) : MapF w' b n f := by obtain ⟨D, h, k⟩ := h; exact ⟨D, h.kept hg hne, k⟩
theorem MapF.below (h : MapF w b n f) (hb : Below w.heap.size w w') : MapF w' b n f := h.kept (only_of_below hb none) (by simp)
theorem MapF.block (h : MapF w b n f) (e : w'.heap[b]? = w.heap[b]?) : MapF w' b n f := by
 obtain ⟨D, ⟨es, clock, h1, h2, h3, h4⟩, k⟩ := h
 exact ⟨D, ⟨es, clock, e.trans h1, h2, h3, h4⟩, k⟩
theorem MapF.look (h : MapF w b n f) (ht : Tryd.prog.underlying t = some (.map 3 e)) (hz : (zeroValue e).run Tryd.prog w = .ok z w) (hi : (Lit.int .i64 i).wf = true) :
  (Instr.lookup t (.map (some b)) (.int .i64 i) false).run Tryd.prog w = .ok ((f i).getD z) w := by
 obtain ⟨D, h, k⟩ := h
 obtain ⟨v, ps, hrun, hv⟩ := h.lookup int_law ht hz (zd := .held z) (zp := []) (self_mk z) (key_of hi)
 have e0 : DataW.held v = D.atKey (.int .i64 i) (.held z) := congrArg Prod.fst (Option.some.inj hv)
 rw [(k i hi).2 z] at e0
 have e1 := DataW.held.inj e0
 rw [hrun, e1]
theorem MapF.look_ok (h : MapF w b n f) (ht : Tryd.prog.underlying t = some (.map 3 e)) (hz : (zeroValue e).run Tryd.prog w = .ok z w) (hi : (Lit.int .i64 i).wf = true) :
  (Instr.lookup t (.map (some b)) (.int .i64 i) true).run Tryd.prog w = .ok (.tuple #[(f i).getD z, .bool (f i).isSome]) w := by
 obtain ⟨D, h, k⟩ := h
 obtain ⟨v, ps, hrun, hv⟩ := h.look_ok int_law ht hz (zd := .held z) (zp := []) (self_mk z) (key_of hi)
 have e0 : DataW.held v = D.atKey (.int .i64 i) (.held z) := congrArg Prod.fst (Option.some.inj hv)
 rw [(k i hi).2 z] at e0
 have e1 := DataW.held.inj e0
 rw [hrun, e1, (k i hi).1]
theorem MapF.store (h : MapF w b n f) (ht : Tryd.prog.underlying t = some (.map 3 e)) (hn : n < maxLen) (hi : (Lit.int .i64 i).wf = true) (v : Value) :
  ∃ w', (Instr.mapUpdate t (.map (some b)) (.int .i64 i) v).run Tryd.prog w = .ok () w' ∧ MapF w' b (n + 1) (upd f i (some v)) ∧ w.grownBy w' (some b) := by
 obtain ⟨D, h, k⟩ := h
 obtain ⟨w', hrun, h2, hg⟩ := h.update int_law ht hn (key_of hi) (val := v) (d := .held v) (ps := []) (self_mk v)
 refine ⟨w', hrun, ⟨_, h2, fun j hj => ?_⟩, hg⟩
 unfold upd
 by_cases hji : j = i
 ·subst hji
  rw [if_pos rfl]
  exact ⟨has_put_same h.isMap (key_lit hi) _, fun z => atKey_put_same h.isMap (key_lit hi) _ _⟩
 ·rw [if_neg hji]
  exact ⟨by rw [has_put_other (key_ne hji)]; exact (k j hj).1, fun z => by rw [atKey_put_other (key_ne hji)]; exact (k j hj).2 z⟩
theorem MapF.drop (h : MapF w b n f) (ht : Tryd.prog.underlying t = some (.map 3 e)) (hi : (Lit.int .i64 i).wf = true) (ty : TypeId) :
  ∃ w', (Builtin.delete_ #[t, 3] ty #[.map (some b), .int .i64 i]).run Tryd.prog w = .ok (.tuple #[]) w' ∧ MapF w' b n (upd f i none) ∧ w.grownBy w' (some b) := by
 obtain ⟨D, h, k⟩ := h
 obtain ⟨w', hrun, h2, hg⟩ := h.drop int_law ht (key_of hi) ty
 refine ⟨w', hrun, ⟨_, h2, fun j hj => ?_⟩, hg.grown⟩
 unfold upd
 by_cases hji : j = i
 ·subst hji
  rw [if_pos rfl]
  exact ⟨has_del_same, fun z => atKey_del_same _⟩
 ·rw [if_neg hji]
  exact ⟨by rw [has_del_other (key_ne hji)]; exact (k j hj).1, fun z => by rw [atKey_del_other (key_ne hji)]; exact (k j hj).2 z⟩
end
end Go.Proofs.YtdokojlgcplefaaDoor
/- Words for regions that draw their order and hold loads of whole arrays beside calls that make memory; arrays of bytes compared. -/
namespace Go.Proofs.YtdokojlgcplefaaDoor
open Go Go.RowKit
theorem takes_row {P : Program} {ops : Array Oper} {S : World → Prop} {o : Oper} {a : Act} (ty : TypeId) (x : Operand) (ho : o.op = .load ty x) (hw : Region.wanted o (yielded ops a.tmps) = true)
  (g : Nat) (hx : a.eval x = .pointer (some ⟨g, 0, none⟩)) (t : TypeId) (cs : Array Value) (d : TypeDesc) (hg : ∀ w, S w → Blk w g t cs)
  (hu : P.underlying ty = some d) (hd : (match d with | .struct _ | .array _ _ => true | _ => false) = true) (hi : (P.info? ty).map (·.size) = some cs.size) : YieldsIf P ops S o (.agg cs) a :=
 Or.inl ⟨hw, fun w h => by
  unfold execOp
  simp only [ho, hx, Instr.loadAt, Instr.sureAddr, Sem.run_bind, Sem.run_pure, Result.andThen_ok, run_loadVar_row w g t ty cs (0, 0) d (hg w h) hu hd hi]⟩
theorem all_two {P : Program} {md : Region.Mode} {ops : Array Oper} {Q : Exit → Act → World → Prop} {S : World → Prop} {i j : Nat} {oi oj : Oper} {fuel : Nat} {listed : Array Bool} {a : Act} {w : World}
  (hr : Region.ready md ops listed = [i, j]) (hi : ops[i]? = some oi) (hj : ops[j]? = some oj) (wi : Region.wanted oi (yielded ops a.tmps) = true) (wj : Region.wanted oj (yielded ops a.tmps) = true)
  (h1 : ∀ K : Act → World → Prop, (∀ a' w', S w' → wpAnyH P md ops Q S fuel (listed.setIfInBounds i true) a' w' → K a' w') → oi.wp P a w K Q)
  (h2 : ∀ K : Act → World → Prop, (∀ a' w', S w' → wpAnyH P md ops Q S fuel (listed.setIfInBounds j true) a' w' → K a' w') → oj.wp P a w K Q) : wpAnyH P md ops Q S (fuel + 1) listed a w := by
 refine wpAnyH_all hr (by simp) fun k hk => ?_
 rcases List.mem_cons.1 hk with rfl | hk
 ·unfold wpOp
  simp only [hi, wi, if_true]
  exact Or.inl (h1 (fun a' w' => S w' ∧ wpAnyH P md ops Q S fuel (listed.setIfInBounds k true) a' w') fun _ _ hs hh => ⟨hs, hh⟩)
 ·obtain rfl := List.mem_singleton.1 hk
  unfold wpOp
  simp only [hj, wj, if_true]
  exact Or.inl (h2 (fun a' w' => S w' ∧ wpAnyH P md ops Q S fuel (listed.setIfInBounds k true) a' w') fun _ _ hs hh => ⟨hs, hh⟩)
theorem all_one {P : Program} {md : Region.Mode} {ops : Array Oper} {Q : Exit → Act → World → Prop} {S : World → Prop} {i : Nat} {oi : Oper} {fuel : Nat} {listed : Array Bool} {a : Act} {w : World}
  (hr : Region.ready md ops listed = [i]) (hi : ops[i]? = some oi) (wi : Region.wanted oi (yielded ops a.tmps) = true)
  (h1 : ∀ K : Act → World → Prop, (∀ a' w', S w' → wpAnyH P md ops Q S fuel (listed.setIfInBounds i true) a' w' → K a' w') → oi.wp P a w K Q) : wpAnyH P md ops Q S (fuel + 1) listed a w := by
 refine wpAnyH_all hr (by simp) fun k hk => ?_
 obtain rfl := List.mem_singleton.1 hk
 unfold wpOp
 simp only [hi, wi, if_true]
 exact Or.inl (h1 (fun a' w' => S w' ∧ wpAnyH P md ops Q S fuel (listed.setIfInBounds k true) a' w') fun _ _ hs hh => ⟨hs, hh⟩)
theorem u8s_cell (xs : List Nat) (hb : Sha.Byte xs) : u8s xs = ((xs.map UInt8.ofNat).map Extern.Stop.cell).toArray := by
 unfold u8s
 congr 1
 rw [List.map_map]
 apply List.map_congr_left
 intro x hx
 obtain ⟨i, hi, rfl⟩ := List.mem_iff_getElem.1 hx
 have h : xs[i] < 256 := by have := hb i; simpa [List.getD, hi] using this
 simp [Extern.Stop.cell, Nat.mod_eq_of_lt h]
theorem ofNat_inj : ∀ (xs ys : List Nat), Sha.Byte xs → Sha.Byte ys → (xs.map UInt8.ofNat == ys.map UInt8.ofNat) = (xs == ys)
 | [], [], _, _ => rfl
 | [], _ :: _, _, _ => rfl
 | _ :: _, [], _, _ => rfl
 | x :: xs, y :: ys, hx, hy => by
  have ih := ofNat_inj xs ys (fun i => by simpa using hx (i + 1)) (fun i => by simpa using hy (i + 1))
  have h1 : x < 256 := by simpa using hx 0
  have h2 : y < 256 := by simpa using hy 0
  rw [List.map_cons, List.map_cons, List.cons_beq_cons, List.cons_beq_cons, ih]
  congr 1
  rw [Bool.eq_iff_iff]
  simp only [beq_iff_eq, ← UInt8.toNat_inj]
  simp [Nat.mod_eq_of_lt h1, Nat.mod_eq_of_lt h2]
theorem run_equalIn_u8s {P : Program} (w : World) (t e : TypeId) (n : Nat) (ht : P.underlying t = some (.array n e)) (he : P.underlying e = some (.int .u8)) (hsz : ∀ w, (sizeOf e).run P w = .ok 1 w)
  (xs ys : List Nat) (hx : xs.length = n) (hy : ys.length = n) (hbx : Sha.Byte xs) (hby : Sha.Byte ys) :
  (Op.equalIn 10000 t (.agg (u8s xs)) (.agg (u8s ys))).run P w = .ok (xs == ys) w := by
 rw [u8s_cell xs hbx, u8s_cell ys hby, ← ofNat_inj xs ys hbx hby]
 exact run_equalIn_bytes w 9998 t e n ht he hsz (xs.map UInt8.ofNat) (ys.map UInt8.ofNat) (by rw [List.length_map, hx]) (by rw [List.length_map, hy])
end Go.Proofs.YtdokojlgcplefaaDoor
/- Rows of bytes of the call's own: append, what a slice holds, bytes as a text. -/
namespace Go.Proofs.YtdokojlgcplefaaDoor
open Go Go.RowKit
def cellsB (x : List Nat) : List Value := x.map fun (n : Nat) => Value.int .u8 (n : Int)
theorem cellsB_len (x : List Nat) : (cellsB x).length = x.length := by simp [cellsB]
theorem cellsB_one (x : List Nat) : ∀ v ∈ cellsB x, v.oneCell' = true := by
 intro v hv
 obtain ⟨n, _, rfl⟩ := List.mem_map.1 hv
 rfl
theorem cellsB_get {x : List Nat} {i : Nat} (h : i < x.length) : (cellsB x)[i]? = some (.int .u8 ((x.getD i 0 : Nat) : Int)) := by
 simp [cellsB, List.getD, h]
theorem byte_info : (Tryd.prog.info? 5).map (fun i => (i.zero, i.size, i.bytes)) = some (some (.int .u8 0), 1, 1) := by kernel_rfl
theorem wpList_appendB {ops : Array Oper} {rest : List Oper} {o : Oper} {a : Act} {w : World} {Q : Exit → Act → World → Prop} (hgd : o.guard = none) (s x : Operand)
  (ho : o.op = .call { callee := .builtin .append, args := #[s, x], argTypes := #[39, 39] }) (base : Nat) (v : Value) (ys : List Nat) (hs : a.eval s = v) (hown : w.ownsRow base 5 1 v ys.length (cellsB ys)) (hbase : base ≤ w.heap.size)
  (u : Value) (hx : a.eval x = u) (xs : List Nat) (hu : Rd w u xs) (hz : ys.length + xs.length ≤ 70368744177664)
  (h : ∀ v' w', w'.ownsRow base 5 1 v' (ys ++ xs).length (cellsB (ys ++ xs)) → w.grownBy w' v.ownBlock → wpList Tryd.prog ops Q rest (a.put o.dst v') w') : wpList Tryd.prog ops Q (o :: rest) a w := by
 obtain ⟨i0, hi0, hiz, his, hib⟩ := info_parts byte_info
 obtain ⟨A, c, rfl, hc, hA⟩ := hu
 have e0 : cellsB ys ++ cellsB xs = cellsB (ys ++ xs) := by simp [cellsB]
 cases A with
 | some ad =>
  refine wpList_append_own w hgd s x 39 ho base 5 i0 _ 1 1 Tryd.underlying39 hi0 hiz his hib rfl (by decide) v ys.length (cellsB ys) hs hown ad xs.length c (cellsB xs) hx (by rw [cellsB_len, Nat.mul_one]) ?_ (cellsB_one _) (by unfold maxLen; omega) (by omega) hbase ?_
  ·intro j t hj
   have hjl : j < xs.length := by have := (List.getElem?_eq_some_iff.1 hj).1; rwa [cellsB_len] at this
   obtain ⟨b, o', ha, _, hxx⟩ := hA (by omega)
   obtain rfl := Option.some.inj ha
   rw [cellsB_get hjl] at hj
   rw [Addr.add_mid, hxx j hjl, hj]
  ·intro v' w' h1 h2 _
   rw [e0, ← List.length_append] at h1
   exact h v' w' h1 h2
 | none =>
  have hn : xs.length = 0 := by
   rcases Nat.eq_zero_or_pos xs.length with h0 | h0
   ·exact h0
   ·obtain ⟨b, o', ha, _⟩ := hA h0
    cases ha
  have e : xs = [] := List.eq_nil_of_length_eq_zero hn
  subst e
  refine wpList_plain hgd fun K hK => ?_
  have hrun : ∀ ty, (Builtin.append_ #[39, 39] ty #[v, .slice none 0 c]).run Tryd.prog w = .ok v w := fun ty => by
   rcases hown.2 with ⟨hv, hn0⟩ | ⟨g, cap, cur, hv, _, _, hnc, _⟩
   ·rw [hv]
    simp [Builtin.append_, run_underlying Tryd.underlying39, sizeOf, typeInfo, hi0, Builtin.lenOf, Builtin.firstCells]
   ·rw [hv]
    simp [Builtin.append_, run_underlying Tryd.underlying39, sizeOf, typeInfo, hi0, Builtin.lenOf, Builtin.firstCells, hnc, storeCells]
  unfold Oper.wp execOp
  simp only [ho, resolve, invoke, builtin, Sem.run_bind, Sem.run_pure, Result.andThen_ok, List.map_toArray, List.map_cons, List.map_nil, hs, hx]
  rw [show ([] : List Nat).length = 0 from rfl, hrun]
  exact hK _ _ (h _ _ (by rw [List.append_nil]; exact hown) (World.grownBy.refl w _))
theorem ownsRow_alloc {w : World} {base : Nat} {e : TypeId} {size n : Nat} {v : Value} {xs : List Value} (h : w.ownsRow base e size v n xs) (o : Obj) : (w.alloc o).ownsRow base e size v n xs := by
 refine ⟨h.1, ?_⟩
 rcases h.2 with hn | ⟨g, cap, cur, rfl, hb, hgg, hr⟩
 ·exact .inl hn
 ·exact .inr ⟨g, cap, cur, rfl, hb, by rw [heap_alloc_old _ _ (Array.getElem?_eq_some_iff.1 hgg).1]; exact hgg, hr⟩
theorem rd_of_lit (w : World) (l : List Nat) (t : TypeId) (_h0 : 0 < l.length) : Rd (w.alloc (.cells (u8s l) t)) (.slice (some ⟨w.heap.size, 0, none⟩) l.length l.length) l := by
 have hB : Blk (w.alloc (.cells (u8s l) t)) w.heap.size t (u8s l) := Blk.new w _ _
 refine ⟨_, _, rfl, Nat.le_refl _, fun _ => ⟨w.heap.size, 0, rfl, hB.lt, fun i hi => ?_⟩⟩
 rw [Nat.zero_add, hB.cell i, u8s_get _ _ hi]
theorem rd_alloc {w : World} {v : Value} {xs : List Nat} (h : Rd w v xs) (o : Obj) : Rd (w.alloc o) v xs := h.below ((Below.refl _ _).alloc (Nat.le_refl _) _) (Nat.le_refl _)
theorem below_own {a b c : World} {base size n : Nat} {e : TypeId} {v : Value} {xs : List Value} (h : Below a.heap.size a b) (ho : b.ownsRow base e size v n xs) (hb : a.heap.size ≤ base) (k : b.grownBy c v.ownBlock) : Below a.heap.size a c := by
 cases hv : v.ownBlock with
 | none =>
  rw [hv] at k
  exact ⟨k.os.trans h.os, k.tape.trans h.tape, k.output.trans h.output, Nat.le_trans h.size k.size, fun i hi => (k.block i (Nat.lt_of_lt_of_le hi h.size) (by simp)).trans (h.block i hi)⟩
 | some g =>
  rw [hv] at k
  exact below_of_only h k (Nat.le_trans hb (ho.lt g hv).1)
theorem conv_rd {w : World} {v : Value} {xs : List Nat} (h : Rd w v xs) : (convert 39 9 v).run Tryd.prog w = .ok (.string (textOf xs)) w := by
 obtain ⟨A, c, rfl, hc, hA⟩ := h
 rcases Nat.eq_zero_or_pos xs.length with h0 | h0
 ·have e : xs = [] := List.eq_nil_of_length_eq_zero h0
  subst e
  cases A with
  | none => exact run_convert_bytes_nil w 39 5 Tryd.underlying39 Tryd.underlying5 0 c 9 Tryd.underlying9
  | some a =>
   have hl : (loadCells a 0).run Tryd.prog w = .ok #[] w := by simpa using run_loadCells_list (P := Tryd.prog) w a [] (by simp)
   rw [run_convert_bytes_string w 39 9 5 _ _ c Tryd.underlying39 Tryd.underlying5 Tryd.underlying9]
   simp [Conv.bytesToString, hl, textOf]
   try rfl
 ·obtain ⟨b, o, rfl, hb, hx⟩ := hA h0
  exact run_text w 39 9 5 Tryd.underlying39 Tryd.underlying5 Tryd.underlying9 b o xs.length c xs rfl hx
theorem rd_of_own {w : World} {base n : Nat} {v : Value} {l : List Nat} (h : w.ownsRow base 5 1 v n (cellsB l)) (hn : n = l.length) : Rd w v l := by
 subst hn
 rcases h.2 with ⟨rfl, h0⟩ | ⟨g, cap, cur, rfl, _, hh, hcap, _, hcs, hxs⟩
 ·exact ⟨none, 0, by rw [h0], by omega, fun h1 => by omega⟩
 ·refine ⟨_, _, rfl, hcap, fun _ => ⟨g, 0, rfl, (Array.getElem?_eq_some_iff.1 hh).1, fun i hi => ?_⟩⟩
  rw [Nat.zero_add, cell_of_row _ _ _ _ _ _ hh]
  have h := congrArg (·[i]?) hxs
  simp only [List.getElem?_take, if_pos (show i < l.length * 1 by omega)] at h
  rw [show cur[i]? = cur.toList[i]? by simp, h]
  exact cellsB_get hi
structure Pad (B : Nat) (w : World) (s : Value) (ys : List Nat) (wr : World) : Prop where
 own : wr.ownsRow B 5 1 s ys.length (cellsB ys)
 bel : Below B w wr
theorem below_ownB {a b c : World} {B size n : Nat} {e : TypeId} {v : Value} {xs : List Value} (hB : a.heap.size = B) (h : Below B a b) (ho : b.ownsRow B e size v n xs) (k : b.grownBy c v.ownBlock) : Below B a c := by
 subst hB
 exact below_own h ho (Nat.le_refl _) k
theorem Pad.len {B : Nat} {w : World} {s : Value} {ys : List Nat} {wr : World} (h : Pad B w s ys wr) : ∃ A c, s = .slice A ys.length c := by
 rcases h.own.2 with ⟨hv, hn⟩ | ⟨g, cap, cur, hv, _⟩
 ·exact ⟨none, 0, by rw [hv, hn]⟩
 ·exact ⟨_, cap, hv⟩
theorem Pad.rd {B : Nat} {w : World} {s : Value} {ys : List Nat} {wr : World} (h : Pad B w s ys wr) : Rd wr s ys := rd_of_own h.own rfl
end Go.Proofs.YtdokojlgcplefaaDoor
