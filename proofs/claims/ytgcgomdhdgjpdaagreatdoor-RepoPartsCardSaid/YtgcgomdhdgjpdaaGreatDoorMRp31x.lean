/- texts joined -/
import Derived.Test.YtgcgomdhdgjpdaaGreatDoorMOct4s
import Derived.Test.YtgcgomdhdgjpdaaGreatDoorMBases
import Derived.Test.YtgcgomdhdgjpdaaGreatDoorChecked
import Derived.LaidEql
import Derived.LaidLaws
import Derived.Stop.Asserts
import Derived.Stop.LaidErr
import Derived.RowKitTokens
import Derived.Test.YtgcgomdhdgjpdaaGreatDoorMEn11s
import Derived.Test.YtgcgomdhdgjpdaaGreatDoorMLawOpen3s
import Derived.Deep.DeepLaidRun
import Derived.Test.YtgcgomdhdgjpdaaGreatDoorMEn19s
import Derived.Test.YtgcgomdhdgjpdaaGreatDoorMCl4
import Derived.Test.YtgcgomdhdgjpdaaGreatDoorMRp22s
import Derived.Test.YtgcgomdhdgjpdaaGreatDoorMRp23
import Derived.Laws.AppendOwnNone
namespace Go.Proofs.YtgcgomdhdgjpdaaGreatDoor
open Go Go.RowKit Go.Extern.Stop Go.Stop Go.Extern Go.WideShapes Go.ChangeShapes
noncomputable def tokE : Value := .agg #[.pointer (some ⟨Tryz.prog.globals.size, 275, none⟩)]
set_option maxRecDepth 100000 in
theorem isTypeOf (v : Value) (w : World) : (Extern.ReflectliteType.typeOf #[.iface 275 v]).run Tryz.prog w = .ok (.iface 140 tokE) w := by kernel_rfl
noncomputable def cmpOf : Array Value → Sem Value := Extern.ReflectliteType.method fun t => do _root_.Go.Extern.Rtype.noPackHeld "Comparable" t; pure (.bool (← typeInfo t).comparable)
set_option maxRecDepth 100000 in
theorem isComparable (w : World) : (cmpOf #[tokE]).run Tryz.prog w = .ok (.bool true) w := by kernel_rfl
set_option maxRecDepth 100000 in
theorem isMethodComparable (v : Value) (w : World) : (Go.method 408 140 v "Comparable").run Tryz.prog w = .ok (218, v) w := by kernel_rfl
theorem isComp : (Tryz.prog.info? 275).map (·.comparable) = some true := by kernel_rfl
theorem isSize : (Tryz.prog.info? 297).map (·.size) = some 1 := by kernel_rfl
theorem noIsE (v : Value) (xT : TypeId) (w : World) : (Instr.typeAssert (.iface 275 v) xT 142 true).run Tryz.prog w = .ok (.tuple #[.nilIface, .bool false]) w := run_typeAssert_lacksB Tryz.underlying142 (by kernel_rfl) (by kernel_rfl) v xT w
theorem noUnwrapE (v : Value) (xT : TypeId) (w : World) : (Instr.typeAssert (.iface 275 v) xT 145 true).run Tryz.prog w = .ok (.tuple #[.nilIface, .bool false]) w := run_typeAssert_lacksB Tryz.underlying145 (by kernel_rfl) (by kernel_rfl) v xT w
theorem noUnwrapsE (v : Value) (xT : TypeId) (w : World) : (Instr.typeAssert (.iface 275 v) xT 147 true).run Tryz.prog w = .ok (.tuple #[.nilIface, .bool false]) w := run_typeAssert_lacksB Tryz.underlying147 (by kernel_rfl) (by kernel_rfl) v xT w
set_option maxRecDepth 100000 in
theorem is_same (a : Addr) (w : World) :
  Calls Tryz.prog 35 #[ev a, ev a] w fun e w' => e = .returned (.bool true) ∧ w' = w := by
 obtain ⟨i, hi, hcmp⟩ := Option.map_eq_some_iff.1 isComp
 obtain ⟨j, hj, hjs⟩ := Option.map_eq_some_iff.1 isSize
 have h8 := @run_callFunc_extern Tryz.prog 56 _ Extern.ReflectliteType.typeOf Tryz.func56 (by kernel_rfl) (by kernel_rfl) (by kernel_rfl) (by kernel_rfl)
 have h32 := @run_callFunc_extern Tryz.prog 218 _ cmpOf Tryz.func218 (by kernel_rfl) (by kernel_rfl) (by kernel_rfl) (by kernel_rfl)
 have tT := isTypeOf
 have cT := isComparable
 have mR := isMethodComparable
 have heq := run_eql_iface_ptr_same (P := Tryz.prog) w a Tryz.underlying35 Tryz.underlying275 hi hcmp hj
 go_enter Tryz.func35, Tryz.ntmps35
 go_wp2
 refine wp_loop_rounds 1 ?_
 rw [rounds_succ]
 go_wp2
 go_ret
 exact ⟨rfl, rfl⟩
set_option maxRecDepth 100000 in
theorem is_other (a b : Addr) (ca cb : Array Value) (ta tb : TypeId) (w : World) (hne : a ≠ b) (ha : w.heap[a.block]? = some (.cells ca ta (0, 0))) (hb : w.heap[b.block]? = some (.cells cb tb (0, 0))) :
  Calls Tryz.prog 35 #[ev a, ev b] w fun e w' => e = .returned (.bool false) ∧ w' = w := by
 obtain ⟨i, hi, hcmp⟩ := Option.map_eq_some_iff.1 isComp
 obtain ⟨j, hj, hjs⟩ := Option.map_eq_some_iff.1 isSize
 have h8 := @run_callFunc_extern Tryz.prog 56 _ Extern.ReflectliteType.typeOf Tryz.func56 (by kernel_rfl) (by kernel_rfl) (by kernel_rfl) (by kernel_rfl)
 have h32 := @run_callFunc_extern Tryz.prog 218 _ cmpOf Tryz.func218 (by kernel_rfl) (by kernel_rfl) (by kernel_rfl) (by kernel_rfl)
 have tT := isTypeOf
 have cT := isComparable
 have mR := isMethodComparable
 have nE := noIsE
 have uE := noUnwrapE
 have vE := noUnwrapsE
 have heq := run_eql_iface_ptr_other (P := Tryz.prog) w Tryz.underlying35 Tryz.underlying275 hi hcmp hj (by rw [hjs]; decide) hne ha hb
 go_enter Tryz.func35, Tryz.ntmps35
 go_wp2
 refine wp_loop_rounds 1 ?_
 rw [rounds_succ]
 go_wp2
 go_ret
 exact ⟨rfl, rfl⟩
theorem lits_get (a : Nat → Addr) : ∀ k, k < 22 → (#[ev (a 0), ev (a 1), ev (a 2), ev (a 3), ev (a 4), ev (a 5), ev (a 6), ev (a 7), ev (a 8), ev (a 9), ev (a 10), ev (a 11), ev (a 12), ev (a 13), ev (a 14), ev (a 15), ev (a 16), ev (a 17), ev (a 18), ev (a 19), ev (a 20), ev (a 21)] : Array Value)[k]? = some (ev (a k)) := by
 intro k hk
 have h : (#[ev (a 0), ev (a 1), ev (a 2), ev (a 3), ev (a 4), ev (a 5), ev (a 6), ev (a 7), ev (a 8), ev (a 9), ev (a 10), ev (a 11), ev (a 12), ev (a 13), ev (a 14), ev (a 15), ev (a 16), ev (a 17), ev (a 18), ev (a 19), ev (a 20), ev (a 21)] : Array Value) = ((List.range 22).map (fun k => ev (a k))).toArray := rfl
 rw [h]
 simp [hk]
set_option maxRecDepth 100000 in
theorem num_any (j : Nat) (hj : j < 22) (a : Nat → Addr) (w : World) (hs : Sents w a) :
  Calls Tryz.prog 18 #[ev (a j)] w fun e w' => e = .returned (.int .i64 ((j + 1 : Nat) : Int)) ∧ Below w.heap.size w w' := by
 have c0 : w.cell? ⟨2, 0, none⟩ = some (ev (a 0)) := (hs 0 (by omega)).var
 have c1 : w.cell? ⟨3, 0, none⟩ = some (ev (a 1)) := (hs 1 (by omega)).var
 have c2 : w.cell? ⟨4, 0, none⟩ = some (ev (a 2)) := (hs 2 (by omega)).var
 have c3 : w.cell? ⟨0, 0, none⟩ = some (ev (a 3)) := (hs 3 (by omega)).var
 have c4 : w.cell? ⟨5, 0, none⟩ = some (ev (a 4)) := (hs 4 (by omega)).var
 have c5 : w.cell? ⟨6, 0, none⟩ = some (ev (a 5)) := (hs 5 (by omega)).var
 have c6 : w.cell? ⟨7, 0, none⟩ = some (ev (a 6)) := (hs 6 (by omega)).var
 have c7 : w.cell? ⟨8, 0, none⟩ = some (ev (a 7)) := (hs 7 (by omega)).var
 have c8 : w.cell? ⟨9, 0, none⟩ = some (ev (a 8)) := (hs 8 (by omega)).var
 have c9 : w.cell? ⟨10, 0, none⟩ = some (ev (a 9)) := (hs 9 (by omega)).var
 have c10 : w.cell? ⟨11, 0, none⟩ = some (ev (a 10)) := (hs 10 (by omega)).var
 have c11 : w.cell? ⟨12, 0, none⟩ = some (ev (a 11)) := (hs 11 (by omega)).var
 have c12 : w.cell? ⟨13, 0, none⟩ = some (ev (a 12)) := (hs 12 (by omega)).var
 have c13 : w.cell? ⟨14, 0, none⟩ = some (ev (a 13)) := (hs 13 (by omega)).var
 have c14 : w.cell? ⟨15, 0, none⟩ = some (ev (a 14)) := (hs 14 (by omega)).var
 have c15 : w.cell? ⟨16, 0, none⟩ = some (ev (a 15)) := (hs 15 (by omega)).var
 have c16 : w.cell? ⟨17, 0, none⟩ = some (ev (a 16)) := (hs 16 (by omega)).var
 have c17 : w.cell? ⟨1, 0, none⟩ = some (ev (a 17)) := (hs 17 (by omega)).var
 have c18 : w.cell? ⟨18, 0, none⟩ = some (ev (a 18)) := (hs 18 (by omega)).var
 have c19 : w.cell? ⟨19, 0, none⟩ = some (ev (a 19)) := (hs 19 (by omega)).var
 have c20 : w.cell? ⟨20, 0, none⟩ = some (ev (a 20)) := (hs 20 (by omega)).var
 have c21 : w.cell? ⟨21, 0, none⟩ = some (ev (a 21)) := (hs 21 (by omega)).var
 have HS := Lib.hid hs
 have HL := Lib.hid (lits_get a)
 clear hs
 go_enter Tryz.func18, Tryz.ntmps18
 go_wp2_with fail
 change Code.wp _ _ _ _ (w.alloc (.cells #[ev (a 0), ev (a 1), ev (a 2), ev (a 3), ev (a 4), ev (a 5), ev (a 6), ev (a 7), ev (a 8), ev (a 9), ev (a 10), ev (a 11), ev (a 12), ev (a 13), ev (a 14), ev (a 15), ev (a 16), ev (a 17), ev (a 18), ev (a 19), ev (a 20), ev (a 21)] 35))
 have HW : Hid (Blk (w.alloc (.cells #[ev (a 0), ev (a 1), ev (a 2), ev (a 3), ev (a 4), ev (a 5), ev (a 6), ev (a 7), ev (a 8), ev (a 9), ev (a 10), ev (a 11), ev (a 12), ev (a 13), ev (a 14), ev (a 15), ev (a 16), ev (a 17), ev (a 18), ev (a 19), ev (a 20), ev (a 21)] 35)) w.heap.size 35 #[ev (a 0), ev (a 1), ev (a 2), ev (a 3), ev (a 4), ev (a 5), ev (a 6), ev (a 7), ev (a 8), ev (a 9), ev (a 10), ev (a 11), ev (a 12), ev (a 13), ev (a 14), ev (a 15), ev (a 16), ev (a 17), ev (a 18), ev (a 19), ev (a 20), ev (a 21)]) := Lib.hid (Blk.new w _ _)
 have HB : Hid (Below w.heap.size w (w.alloc (.cells #[ev (a 0), ev (a 1), ev (a 2), ev (a 3), ev (a 4), ev (a 5), ev (a 6), ev (a 7), ev (a 8), ev (a 9), ev (a 10), ev (a 11), ev (a 12), ev (a 13), ev (a 14), ev (a 15), ev (a 16), ev (a 17), ev (a 18), ev (a 19), ev (a 20), ev (a 21)] 35))) := Lib.hid ((Below.refl _ _).alloc (Nat.le_refl _) _)
 generalize (w.alloc (.cells #[ev (a 0), ev (a 1), ev (a 2), ev (a 3), ev (a 4), ev (a 5), ev (a 6), ev (a 7), ev (a 8), ev (a 9), ev (a 10), ev (a 11), ev (a 12), ev (a 13), ev (a 14), ev (a 15), ev (a 16), ev (a 17), ev (a 18), ev (a 19), ev (a 20), ev (a 21)] 35)) = w1 at HW HB ⊢
 generalize (#[ev (a 0), ev (a 1), ev (a 2), ev (a 3), ev (a 4), ev (a 5), ev (a 6), ev (a 7), ev (a 8), ev (a 9), ev (a 10), ev (a 11), ev (a 12), ev (a 13), ev (a 14), ev (a 15), ev (a 16), ev (a 17), ev (a 18), ev (a 19), ev (a 20), ev (a 21)] : Array Value) = arr at HW HL
 clear c0 c1 c2 c3 c4 c5 c6 c7 c8 c9 c10 c11 c12 c13 c14 c15 c16 c17 c18 c19 c20 c21
 go_loop [33] (fun i => ∃ k : Nat, k ≤ j ∧ i = .int .i64 k) (fun i => 22 - (intOf i).toNat)
 case atStart => exact ⟨0, by omega, rfl⟩
 case round =>
  obtain ⟨k, hk, rfl⟩ := hrel
  have hc := (HW.out.cell k).trans (HL.out k (by omega))
  have i0 : (0 : Int) ≤ ((k : Nat) : Int) := by omega
  have i1 : ((k : Nat) : Int) < 22 := by omega
  have hs := HS.out.below HB.out (Nat.le_refl _)
  obtain ⟨cj, tj, hj1⟩ := (hs j hj).row
  obtain ⟨ck, tk, hk1⟩ := (hs k (by omega)).row
  have HJ := Lib.hid hj1
  have HK := Lib.hid hk1
  clear hs hj1 hk1
  rcases Nat.lt_or_ge k j with hlt | hge
  ·have HN := Lib.hid (HS.out.ne hj (show k < 22 by omega) (by omega))
   go_wp2_with fail
   refine (is_other (a j) (a k) _ _ _ _ _ HN.out HJ.out HK.out).mono ?_
   rintro e w2 ⟨rfl, rfl⟩
   go_wp2_with fail
   go_round
   case rel => exact ⟨k + 1, by omega, by go_num⟩
   case measure => simp [intOf]; omega
  ·obtain rfl : k = j := by omega
   go_wp2_with fail
   refine (is_same (a k) _).mono ?_
   rintro e w2 ⟨rfl, rfl⟩
   go_wp2_with fail
   go_ret
   exact ⟨by go_num, HB.out⟩
end Go.Proofs.YtgcgomdhdgjpdaaGreatDoor
namespace Go.Proofs.YtgcgomdhdgjpdaaGreatDoor
open Go Go.RowKit Go.WideShapes Go.ChangeShapes Go.ChangeAt
theorem sents_of (W : World) (h : ∀ k, k < 22 → ∃ a, SentAt W (sgs.getD k 0) (stexts.getD k []) a) : ∃ a, Sents W a := by
 refine ⟨fun k => if hk : k < 22 then Classical.choose (h k hk) else ⟨0, 0, none⟩, fun k hk => ?_⟩
 simp only [hk, dif_pos]
 exact Classical.choose_spec (h k hk)
end Go.Proofs.YtgcgomdhdgjpdaaGreatDoor
namespace Go.Proofs.YtgcgomdhdgjpdaaGreatDoor
open Go Go.RowKit Go.Maps
theorem JrT.of_rdk {w : World} {A : Option Addr} {n c : Nat} {js : List Jt} (h : RdK w (.slice A n c) n (cellsJ js)) (hl : n = js.length) (hok : ∀ j ∈ js, EnC w j.e j.cs j.U j.cu j.O j.co j.ts) (hlim : ∀ j ∈ js, j.e.ups.length ≤ 1000 ∧ j.e.objs.length ≤ 100000) : JrT w A n js := by
 refine ⟨hl, fun h0 => ?_, hok, hlim⟩
 obtain ⟨A', c', hv, _, hA⟩ := h
 injection hv with e1 _ _
 subst e1
 obtain ⟨b, o, ha, hb, hx⟩ := hA h0
 refine ⟨b, o, ha, hb, fun k j hk i v hi => ?_⟩
 have h5 := (hok j (List.mem_of_getElem? hk)).five
 have hi5 : i < 5 := by have := (List.getElem?_eq_some_iff.1 hi).1; rw [Array.length_toList, h5] at this; exact this
 have h1 := hx (k * 5 + i) v (by rw [cellsJ_at (fun j hj => (hok j hj).five) hk hi5]; exact hi)
 rwa [← Nat.add_assoc] at h1
end Go.Proofs.YtgcgomdhdgjpdaaGreatDoor
namespace Go.Proofs.YtgcgomdhdgjpdaaGreatDoor
open Go Go.RowKit Go.Maps
theorem own_cap {w : World} {B : Nat} {e : TypeId} {z n c : Nat} {A : Option Addr} {xs : List Value} (h : w.ownsRow B e z (.slice A n c) n xs) : n ≤ c := by
 rcases h.2 with ⟨_, h1⟩ | ⟨g, cap, cur, h1, _, _, h2, _⟩
 ·omega
 ·injection h1 with _ _ h3; omega
def partA (A : Option Addr) (c k : Nat) : Option Addr := if c = k then A else A.map (·.add (k * 5))
theorem jslice (A : Option Addr) (n c k h : Nat) (hkh : k ≤ h) (hh : h ≤ c) (w : World) :
  (Instr.slice 22 (.slice A n c) (some (.int .i64 (k : Int))) (some (.int .i64 (h : Int))) none).run Tryz.prog w = .ok (.slice (partA A c k) (h - k) (c - k)) w := by
 have ht := Tryz.underlying22
 have ht' : Tryz.prog.underlying 22 = some (.slice (Tryz.prog.elem 22)) := by simp [Program.elem, ht]
 have he : Tryz.prog.elem 22 = 32 := by simp [Program.elem, ht]
 rw [run_slice_lh w 22 _ _ _ ht' .i64 .i64 _ _ (by omega) (by omega) (by omega), he]
 have hz : (sizeOf 32).run Tryz.prog w = .ok 5 w := by kernel_rfl
 rw [hz]
 simp [Result.andThen, sliced, partA]
theorem JrT.part {w : World} {A : Option Addr} {n c : Nat} {js : List Jt} (h : JrT w A n js) (hc : n ≤ c) (k t : Nat) (hk : k + t ≤ n) : JrT w (partA A c k) t ((js.drop k).take t) := by
 have hl := h.len
 refine ⟨by rw [List.length_take, List.length_drop]; omega, fun h0 => ?_, fun j hj => h.ok j (List.mem_of_mem_drop (List.mem_of_mem_take hj)), fun j hj => h.lim j (List.mem_of_mem_drop (List.mem_of_mem_take hj))⟩
 obtain ⟨b, o, ha, hb, hx⟩ := h.row (by omega)
 refine ⟨b, o + k * 5, ?_, hb, fun i j hj => ?_⟩
 ·unfold partA
  rw [if_neg (by omega), ha, Option.map_some, Addr.add_mid]
 ·have hi : i < t := by
   have := (List.getElem?_eq_some_iff.1 hj).1
   rw [List.length_take] at this
   omega
  rw [List.getElem?_take_of_lt hi, List.getElem?_drop] at hj
  have h1 := hx (k + i) j hj
  rwa [show o + (k + i) * 5 = o + k * 5 + i * 5 by omega] at h1
theorem NoK.own {w : World} {B z n : Nat} {v : Value} {xs : List Value} (h : w.ownsRow B 32 z v n xs) : NoK w (fun k => some k = v.ownBlock) := fun g hg _ => by
 rcases h.2 with ⟨rfl, _⟩ | ⟨g', cap, cur, rfl, _, h2, _⟩
 ·cases hg
 ·injection hg with hg
  subst hg
  exact ⟨_, _, _, h2, Or.inl rfl⟩
theorem part_snoc {js : List Jt} {k q : Nat} (h : k + q < js.length) : ((js.drop k).take (q + 1)).map (·.e) = ((js.drop k).take q).map (·.e) ++ [js[k + q].e] := by
 have h1 : q < (js.drop k).length := by rw [List.length_drop]; omega
 rw [List.take_succ_eq_append_getElem h1, List.map_append, List.getElem_drop]
 rfl
structure EsK (w : World) (B : Nat) (v : Value) (n : Nat) (js : List Jt) (l : List En.E) : Prop where
 len : js.length = n
 own : w.ownsRow B 32 5 v n (cellsJ js)
 es : js.map (·.e) = l
 ent : ∀ j ∈ js, EnK w j
theorem EsK.below {w w' : World} {B n : Nat} {v : Value} {js : List Jt} {l : List En.E} (h : EsK w B v n js l) (hb : Below w.heap.size w w') : EsK w' B v n js l :=
 ⟨h.len, ownsRow_kept h.own (KeptP.of_below hb) (fun _ _ h => h), h.es, fun j hj => (h.ent j hj).below hb⟩
def EsEPost (w : World) (l : List En.E) (e : Ending) (w' : World) : Prop :=
 ∃ v js, e = .returned v ∧ EsK w' w.heap.size v l.length js l ∧ Below w.heap.size w w'
set_option maxRecDepth 100000 in
set_option maxHeartbeats 8000000 in
theorem entries_any (r : Nat) (A : Option Addr) (c : Nat) (rf ob : Value) (N M : Nat) (js : List Jt) (O : List Nat → Option Cl.T) (s : Rp.St) (w : World) (h : RpX w r A c rf ob N M js O s) (hj : js.length ≤ 40) (k m : Nat) (hk : k ≤ js.length) (hm : m ≤ 40) :
  Calls Tryz.prog 16 #[.pointer (some ⟨r, 0, none⟩), .int .i64 (k : Int), .int .i64 (m : Int)] w (EsEPost w ((s.js.drop k).take m)) := by
 have CS := seq_any r A js.length c (Rp.lastsOf s.js) rf ob w h.rp
 obtain ⟨d, hd⟩ : ∃ d, d = js.length - k := ⟨_, rfl⟩
 obtain ⟨t, ht⟩ : ∃ t, t = min m d := ⟨_, rfl⟩
 have htd : t ≤ d := by omega
 have htm : t ≤ m := by omega
 have HES : Hid ((s.js.drop k).take m = ((js.drop k).take t).map (·.e)) := Lib.hid (by
  rw [← List.map_take.symm, ← List.map_drop.symm, h.es]
  rw [ht, hd, show js.length - k = (s.js.drop k).length by rw [List.length_drop, h.len]]
  rw [List.take_eq_take_iff]
  omega)
 obtain ⟨l, hl⟩ : ∃ l, l = (s.js.drop k).take m := ⟨_, rfl⟩
 rw [← hl] at HES ⊢
 clear hl
 have H := Lib.hid h
 obtain ⟨n, hn⟩ : ∃ n, n = js.length := ⟨_, rfl⟩
 rw [← hn] at CS hd hk hj
 have HN := Lib.hid hn
 have i1 : ¬ ((k : Nat) : Int) < 0 := by omega
 have i2 : ¬ ((n : Nat) : Int) < ((k : Nat) : Int) := by omega
 clear h hn
 rcases Nat.eq_zero_or_pos m with h0 | hpos
 ·have h1 : t = 0 := by omega
  subst h1
  subst h0
  clear hd ht htd htm hk hm hj
  go_enter Tryz.func16, Tryz.ntmps16
  go_wp2_with (go_at_call 9; refine pause ?_)
  unfold Paused
  refine CS.mono ?_
  rintro e w1 ⟨rfl, rfl⟩
  go_wp2
  go_ret
  have h1 := HES.out
  rw [List.take_zero] at h1
  subst h1
  exact ⟨_, [], rfl, ⟨rfl, World.ownsRow_nil _ _ _ _, rfl, fun _ h => (by cases h)⟩, Below.refl _ _⟩
 ·have i3 : ¬ ((m : Nat) : Int) < 1 := by omega
  obtain ⟨u, hu⟩ : ∃ u, u = k + t := ⟨_, rfl⟩
  have hcap : n ≤ c := by rw [HN.out]; exact own_cap H.out.own
  have hut : u - k = t := by omega
  have hkt : k + t ≤ n ∧ t ≤ 40 := by omega
  have HKT : Hid (k + t ≤ js.length ∧ t ≤ 40) := Lib.hid (by rw [← HN.out]; exact hkt)
  have HP := Lib.hid ((H.out.rt).part (c := c) (own_cap H.out.own) k t HKT.out.1)
  have q6 := fun w => jslice A n c k u (by omega) (by omega) w
  simp only [hut] at q6
  have c0 : w.cell? ⟨r, 0, none⟩ = some (.slice A n c) := by rw [HN.out]; exact H.out.rp.at0
  have q1 : wrap64 ((n : Int) - (k : Int)) = (d : Int) := by rw [IntWalk.wrap64_in _ (by omega)]; omega
  have q2 : IntKind.i64.wrap ((n : Int) - (k : Int)) = (d : Int) := (IntWalk.i64_left _).trans q1
  have q3 : wrap64 ((k : Int) + (t : Int)) = (u : Int) := by rw [IntWalk.wrap64_in _ (by omega)]; omega
  have q4 : IntKind.i64.wrap ((k : Int) + (t : Int)) = (u : Int) := (IntWalk.i64_left _).trans q3
  have q5 : min (m : Int) (d : Int) = (t : Int) := by omega
  clear hd ht htd htm hk hm hpos hu hcap hut hkt hj
  go_enter Tryz.func16, Tryz.ntmps16
  go_wp2_with (go_at_call 9; refine pause ?_)
  unfold Paused
  refine CS.mono ?_
  rintro e w1 ⟨rfl, hw1⟩
  subst hw1
  go_wp2_with (go_at_call 9; refine pause ?_)
  unfold Paused
  refine CS.mono ?_
  rintro e w1 ⟨rfl, hw1⟩
  subst hw1
  clear CS
  obtain ⟨ip, hip, hpz, hps, hpb⟩ := info_parts ent_info
  have HIP : Hid (_ ∧ _ ∧ _ ∧ _) := Lib.hid ⟨hip, hpz, hps, hpb⟩
  clear hip hpz hps hpb
  generalize partA A c k = B at q6 HP
  go_wp2_with fail
  go_loopw [8, 39] (fun v i wr => ∃ q : Nat, q ≤ t ∧ i = .int .i64 q ∧ ∃ ks : List Jt, Hid (EsK wr w.heap.size v q ks (((js.drop k).take q).map (·.e)) ∧ Below w.heap.size w wr)) (fun _ i _ => t - (intOf i).toNat)
  case atStart => exact ⟨0, Nat.zero_le _, rfl, [], Lib.hid ⟨⟨rfl, World.ownsRow_nil _ _ _ _, rfl, fun _ h => (by cases h)⟩, Below.refl _ _⟩⟩
  case round =>
   obtain ⟨q, hq, rfl, ks, HW⟩ := hrel
   obtain ⟨Av, cv, hv⟩ := own_slice HW.out.1.own
   subst hv
   rcases Nat.lt_or_ge q t with hlt | hge
   ·have hkl : q < ((js.drop k).take t).length := by rw [← HP.out.len]; exact hlt
    have i1 : ((q : Nat) : Int) < t := by omega
    have i2 : (0 : Int) ≤ ((q : Nat) : Int) := by omega
    have i3 : ((q : Nat) : Int) < 100000 := by have := HKT.out; omega
    obtain ⟨b, o, rfl, hbl, hrow⟩ := HP.out.row (by omega)
    have hrg : wr.rangeAt b (o + q * 5) ((js.drop k).take t)[q].cs.toList := fun i v hi => (HW.out.2.cell (p := ⟨b, o + q * 5 + i, none⟩) hbl).trans (hrow q _ (List.getElem?_eq_getElem hkl) i v hi)
    have hjk : ((js.drop k).take t)[q] = js[k + q]'(by have := HKT.out; omega) := by rw [List.getElem_take, List.getElem_drop]
    rw [hjk] at hrg
    have HSN := Lib.hid (part_snoc (js := js) (k := k) (q := q) (by have := HKT.out; omega))
    have hjm := List.getElem_mem (l := js) (n := k + q) (by have := HKT.out; omega)
    have hen := H.out.ent _ hjm
    have hrt : En.right (js[k + q]'(by have := HKT.out; omega)).e = true := (H.out.good.js _ (by rw [← H.out.es]; exact List.mem_map.2 ⟨_, hjm, rfl⟩)).1
    generalize js[k + q]'(by have := HKT.out; omega) = j at hrg hen hrt HSN
    have H5 := Lib.hid hen.ent.five
    have HRG := Lib.hid hrg
    have CC := ecopy_any j.e j.cs j.U j.O j.cu j.co j.ts
    have HEN := Lib.hid hen
    have HRT := Lib.hid hrt
    have HLT : Hid (q + 1 ≤ t) := Lib.hid hlt
    clear hkl hbl hrow hrg hjk hjm hen hrt hq hlt
    go_wp2_with (with_reducible (show wpList _ _ _ (Oper.mk _ (Op.load 32 _) _ _ _ _ :: _) _ _); refine pause ?_)
    unfold Paused
    refine wpList_mid_w (by rfl) 32 (.tmp 41) (by rfl) b (o + q * 5) (by rfl) j.cs.toList _ HRG.out Tryz.underlying32 (by rfl) (by rw [Array.length_toList]; exact ent_load H5.out) ?_
    clear HRG
    go_wp2_with (with_reducible (show wpList _ _ _ (Oper.mk _ (Op.store 32 _ _) _ _ _ _ :: _) _ _); refine pause ?_)
    unfold Paused
    change wpList _ _ _ _ _ (wr.alloc (.cells zJ 32))
    refine wpList_store_row (by rfl) 32 (.tmp 10) (.tmp 42) (by rfl) wr.heap.size j.cs (by rfl) (by rfl) 32 zJ (Blk.new wr _ _) (ent_load H5.out) (by rw [H5.out]; rfl) HEN.out.ent.oneJ ?_
    have b6 : Below wr.heap.size wr ((wr.alloc (.cells zJ 32)).setRow wr.heap.size j.cs) := below_row ((Below.refl _ _).alloc (Nat.le_refl _) _) (Nat.le_refl _) _
    have HI6 : Hid (Blk ((wr.alloc (.cells zJ 32)).setRow wr.heap.size j.cs) wr.heap.size 32 j.cs) := Lib.hid ((Blk.new wr _ _).row _)
    have HW6 : Hid (EsK ((wr.alloc (.cells zJ 32)).setRow wr.heap.size j.cs) w.heap.size (.slice Av q cv) q ks (((js.drop k).take q).map (·.e)) ∧ Below w.heap.size w ((wr.alloc (.cells zJ 32)).setRow wr.heap.size j.cs)) := Lib.hid ⟨HW.out.1.below b6, below_next HW.out.2 b6⟩
    clear b6 HW
    generalize (wr.alloc (.cells zJ 32)).setRow wr.heap.size j.cs = w6 at HI6 HW6 ⊢
    generalize wr.heap.size = g6 at HI6 ⊢
    clear wr
    simp only [Act.put]
    have CC := CC w6 ((HEN.out.below HW6.out.2).ent) (by have := Rp.right_ups HRT.out; omega) (by have := Rp.right_ups HRT.out; omega) (fun x hx => by have := Rp.right_objs HRT.out x hx; omega)
    unfold CpPost at CC
    go_wp2_with (with_reducible (show wpList _ _ _ (Oper.mk _ (Op.load 32 _) _ _ _ _ :: _) _ _); refine pause ?_)
    unfold Paused
    refine wpList_row_w (by rfl) 32 (.tmp 10) (by rfl) g6 (by rfl) 32 j.cs _ HI6.out Tryz.underlying32 (by rfl) (ent_load H5.out) ?_
    go_wp2_with (go_at_call 24; refine pause ?_)
    unfold Paused
    refine CC.mono ?_
    rintro x w7 ⟨cs4, U4, cu4, O4, co4, ts4, rfl, hcp⟩
    have HJ7 := Lib.hid (EnK.of_cp hcp)
    have HW7 : Hid (EsK w7 w.heap.size (.slice Av q cv) q ks (((js.drop k).take q).map (·.e)) ∧ Below w.heap.size w w7) := Lib.hid ⟨HW6.out.1.below hcp.bel, below_next HW6.out.2 hcp.bel⟩
    have H54 : Hid (cs4.size = 5) := Lib.hid hcp.ent.five
    have H1 := Lib.hid hcp.ent.oneJ
    clear CC hcp HI6 HW6
    clear w6
    have hcs : (Value.agg cs4) = .agg cs4.toList.toArray := by rw [Array.toArray_toList]
    rw [hcs]
    go_wp2_with (with_reducible (show wpList _ _ _ (Oper.mk _ (Op.buildSlice _ _ _) _ _ _ _ :: _) _ _); refine pause ?_)
    unfold Paused
    refine wpList_buildSliceK (by rfl) 22 32 1 _ (by rfl) cs4.toList.toArray ip (.agg zJ) Tryz.underlying22 HIP.out.1 HIP.out.2.1 (by rw [HIP.out.2.2.1]; decide) (by rw [HIP.out.2.2.1]; decide) [(0, .agg cs4.toList.toArray)] (by kernel_rfl) (by rw [HIP.out.2.2.1]; exact fill_one 5 (Value.agg zJ).cells cs4.toList (by rw [Array.length_toList]; exact H54.out) (by rfl)) ?_
    try simp only [Act.put, List.setIfInBounds_toArray, List.set_cons_zero, List.set_cons_succ]
    have b8 : Below w7.heap.size w7 (w7.alloc (.cells cs4.toList.toArray 32)) := (Below.refl _ _).alloc (Nat.le_refl _) _
    have HX8 := Lib.hid (Blk.new w7 32 cs4.toList.toArray)
    have HW8 : Hid (EsK (w7.alloc (.cells cs4.toList.toArray 32)) w.heap.size (.slice Av q cv) q ks (((js.drop k).take q).map (·.e)) ∧ EnK (w7.alloc (.cells cs4.toList.toArray 32)) ⟨j.e, cs4, U4, cu4, O4, co4, ts4⟩ ∧ Below w.heap.size w (w7.alloc (.cells cs4.toList.toArray 32))) := Lib.hid ⟨HW7.out.1.below b8, HJ7.out.below b8, below_next HW7.out.2 b8⟩
    clear b8 HW7 HJ7
    go_wp2_with (with_reducible (show wpList _ _ _ (Oper.mk _ (Op.call (Call.mk (Callee.builtin Builtin.append) _ _)) _ _ _ _ :: _) _ _); refine pause ?_)
    unfold Paused
    generalize w7.alloc (.cells cs4.toList.toArray 32) = w8 at HX8 HW8 ⊢
    generalize w7.heap.size = g8 at HX8 ⊢
    clear w7
    refine wpList_append_own w8 (by rfl) (.tmp 43) (.tmp 46) 22 (by rfl) w.heap.size 32 ip (.agg zJ) 5 72 Tryz.underlying22 HIP.out.1 HIP.out.2.1 HIP.out.2.2.1 HIP.out.2.2.2 (by rfl) (by decide) (.slice Av q cv) q _ (by rfl) HW8.out.1.own ⟨g8, 0, none⟩ 1 1 cs4.toList (by rfl) (by rw [Array.length_toList]; exact H54.out) (fun j u hj => by rw [Addr.add_mid, Nat.zero_add, HX8.out.cell j]; simpa using hj) (fun v hv => by
     have h1 := H1.out
     rw [Array.all_eq_true_iff_forall_mem] at h1
     exact h1 v (by simpa using hv)) (by have := HLT.out; have := HKT.out; unfold maxLen; omega) (by have := HLT.out; have := HKT.out; omega) HW8.out.2.2.size ?_
    intro v9 w9 ho hg _
    have HW9 : Hid (EsK w9 w.heap.size v9 (q + 1) (ks ++ [⟨j.e, cs4, U4, cu4, O4, co4, ts4⟩]) (((js.drop k).take (q + 1)).map (·.e)) ∧ Below w.heap.size w w9) := Lib.hid ⟨⟨by rw [List.length_append, HW8.out.1.len]; rfl, by rw [cellsJ_snoc]; exact ho, by rw [List.map_append, HW8.out.1.es, HSN.out]; rfl, fun i hi => by
     rcases List.mem_append.1 hi with hi | hi
     ·exact (HW8.out.1.ent i hi).kept (KeptP.of_grown hg) (NoK.own HW8.out.1.own)
     ·rw [List.mem_singleton.1 hi]
      exact HW8.out.2.1.kept (KeptP.of_grown hg) (NoK.own HW8.out.1.own)⟩, ⟨hg.os.trans HW8.out.2.2.os, hg.tape.trans HW8.out.2.2.tape, hg.output.trans HW8.out.2.2.output, Nat.le_trans HW8.out.2.2.size hg.size, fun b hb => (hg.block b (Nat.lt_of_lt_of_le hb HW8.out.2.2.size) (fun e => by have := (HW8.out.1.own.lt b e.symm).1; omega)).trans (HW8.out.2.2.block b hb)⟩⟩
    clear ho hg HW8 HX8
    try simp only [Act.put, List.setIfInBounds_toArray, List.set_cons_zero, List.set_cons_succ]
    go_wp2
    go_roundw
    case rel => exact ⟨q + 1, HLT.out, by go_num, _, HW9⟩
    case measure => have h5 := HLT.out; simp [intOf]; omega
   ·obtain rfl : q = t := by omega
    have i1 : ¬ ((q : Nat) : Int) < q := by omega
    have HFIN : Hid (EsEPost w l (.returned (.slice Av q cv)) wr) := Lib.hid ⟨_, ks, rfl, by
     have h1 := HW.out.1
     rw [← HES.out] at h1
     have h2 := h1.len
     rw [← h1.es, List.length_map, h2, h1.es]
     exact h1, HW.out.2⟩
    clear HW hq hge
    go_wp2
    go_ret
    exact HFIN.out
end Go.Proofs.YtgcgomdhdgjpdaaGreatDoor
namespace Go.Proofs.YtgcgomdhdgjpdaaGreatDoor
open Go Go.RowKit Go.Maps
theorem Rp.Runs.step_at {s t u : Rp.St} {l : List En.E} {k : Nat} (hk : k < l.length) (h : Rp.Runs s l t) (g : Rp.Runs s (l.take k) u) : Rp.step u l[k] = 0 ∧ Rp.Runs s (l.take (k + 1)) (Rp.put u l[k]) := by
 have h' : Rp.Runs s (l.take k ++ l[k] :: l.drop (k + 1)) t := by rw [← List.drop_eq_getElem_cons hk, List.take_append_drop]; exact h
 obtain ⟨u', h1, h2⟩ := Rp.Runs.split h'
 obtain rfl := Rp.Runs.uniq h1 g
 cases h2 with
 | more h3 _ => exact ⟨h3, by rw [List.take_succ_eq_append_getElem hk]; exact g.snoc h3⟩
theorem Rp.next_put {s : Rp.St} {e : En.E} (h : Rp.step s e = 0) : Rp.next s e = Rp.put s e := by unfold Rp.next; rw [if_pos h]
def PlPost (w : World) (n : Nat) (s : Rp.St) (e : Ending) (w' : World) : Prop :=
 ∃ r A c rf ob N M js O, e = .returned (.tuple #[.pointer (some ⟨r, 0, none⟩), .int .i64 (n : Int), .nilIface]) ∧ RpX w' r A c rf ob N M js O s ∧ w.heap.size ≤ r ∧ js.length = n ∧ Below w.heap.size w w'
theorem RpX.low {w w' : World} {r : Nat} {A : Option Addr} {c : Nat} {rf ob : Value} {N M : Nat} {js : List Jt} {O : List Nat → Option Cl.T} {s : Rp.St} (h : RpX w r A c rf ob N M js O s) {B : Nat} (hB : B ≤ r) (k : KeptP (tnP r A js.length c) w w') : Below B w w' :=
 k.below (fun j hj => by
  rcases hj with rfl | hj
  ·exact hB
  ·have := (h.own.lt j hj.symm).1; omega) (Nat.le_trans hB (Nat.le_of_lt h.rp.lt))
set_option maxRecDepth 100000 in
set_option maxHeartbeats 8000000 in
theorem replay_any (A : Option Addr) (n c : Nat) (ks : List Jt) (t : Rp.St) (a : Nat → Addr) (w : World) (h : JrT w A n ks) (hr : Rp.Runs Rp.empty (ks.map (·.e)) t) (hn : n ≤ 40) (ht : Tabs w) (hS : RSents w a) (hm : MaxAt w) :
  Calls Tryz.prog 17 #[.slice A n c] w (PlPost w n t) := by
 have CN := new_any w
 have H := Lib.hid h
 have HN := Lib.hid hn
 have HT := Lib.hid ht
 have HS := Lib.hid hS
 have HM := Lib.hid hm
 have HR := Lib.hid hr
 clear h hn ht hS hm hr
 go_enter Tryz.func17, Tryz.ntmps17
 go_wp2_with (go_at_call 7; refine pause ?_)
 unfold Paused
 refine CN.mono ?_
 rintro e w3 ⟨rfl, hr3, hb3⟩
 have HX3 := Lib.hid (RpX.fresh hr3)
 have HB3 := Lib.hid hb3
 obtain ⟨r, hr⟩ : ∃ r, r = w.heap.size := ⟨_, rfl⟩
 rw [← hr] at HX3 ⊢
 have HWR : Hid (w.heap.size ≤ r) := Lib.hid (by rw [hr]; exact Nat.le_refl _)
 clear CN hr3 hb3 hr
 go_wp2_with fail
 go_loopw [12] (fun i wr => ∃ k : Nat, k ≤ n ∧ i = .int .i64 k ∧ ∃ Aj cj rf ob N M jj O s, Hid (RpX wr r Aj cj rf ob N M jj O s ∧ jj.length = k ∧ Rp.Runs Rp.empty ((ks.map (·.e)).take k) s ∧ Below w.heap.size w wr)) (fun i _ => n - (intOf i).toNat)
 case atStart => exact ⟨0, Nat.zero_le _, rfl, _, _, _, _, _, _, _, _, _, Lib.hid ⟨HX3.out, rfl, Rp.Runs.done _, HB3.out⟩⟩
 case round =>
  obtain ⟨k, hk, rfl, Aj, cj, rf, ob, N, M, jj, O, s, HR1⟩ := hrel
  clear HX3 HB3
  clear w3
  rcases Nat.lt_or_ge k n with hlt | hge
  ·have hkl : k < ks.length := by rw [← H.out.len]; exact hlt
   have i1 : ((k : Nat) : Int) < n := by omega
   have i2 : (0 : Int) ≤ ((k : Nat) : Int) := by omega
   have i3 : ((k : Nat) : Int) < 100000 := by have := HN.out; omega
   obtain ⟨b, o, rfl, hbl, hrow⟩ := H.out.row (by omega)
   have hrg : wr.rangeAt b (o + k * 5) ks[k].cs.toList := fun i v hi => (HR1.out.2.2.2.cell (p := ⟨b, o + k * 5 + i, none⟩) hbl).trans (hrow k ks[k] (List.getElem?_eq_getElem hkl) i v hi)
   have hok := H.out.ok ks[k] (List.getElem_mem hkl)
   have hlim := H.out.lim ks[k] (List.getElem_mem hkl)
   have hst := Rp.Runs.step_at (k := k) (by rw [List.length_map]; exact hkl) HR.out HR1.out.2.2.1
   rw [List.getElem_map] at hst
   generalize ks[k] = j at hrg hok hlim hst
   have HRG := Lib.hid hrg
   have HOK := Lib.hid hok
   have HST := Lib.hid hst
   have H5 := Lib.hid hok.five
   have HU : Hid (j.e.ups.length ≤ 1000) := Lib.hid hlim.1
   have HLT : Hid (k + 1 ≤ n) := Lib.hid hlt
   have HJL : Hid (jj.length ≤ 40) := Lib.hid (by have := HR1.out.2.1; have := HN.out; omega)
   clear hkl hbl hrow hrg hok hlim hk hlt hst
   go_wp2_with (with_reducible (show wpList _ _ _ (Oper.mk _ (Op.load 32 _) _ _ _ _ :: _) _ _); refine pause ?_)
   unfold Paused
   refine wpList_mid_w (by rfl) 32 (.tmp 15) (by rfl) b (o + k * 5) (by rfl) j.cs.toList _ HRG.out Tryz.underlying32 (by rfl) (by rw [Array.length_toList]; exact ent_load H5.out) ?_
   clear HRG
   go_wp2_with (with_reducible (show wpList _ _ _ (Oper.mk _ (Op.store 32 _ _) _ _ _ _ :: _) _ _); refine pause ?_)
   unfold Paused
   change wpList _ _ _ _ _ (wr.alloc (.cells zJ 32))
   refine wpList_store_row (by rfl) 32 (.tmp 7) (.tmp 16) (by rfl) wr.heap.size j.cs (by rfl) (by rfl) 32 zJ (Blk.new wr _ _) (ent_load H5.out) (by rw [H5.out]; rfl) HOK.out.oneJ ?_
   have b6 : Below wr.heap.size wr ((wr.alloc (.cells zJ 32)).setRow wr.heap.size j.cs) := below_row ((Below.refl _ _).alloc (Nat.le_refl _) _) (Nat.le_refl _) _
   have HI6 : Hid (Blk ((wr.alloc (.cells zJ 32)).setRow wr.heap.size j.cs) wr.heap.size 32 j.cs) := Lib.hid ((Blk.new wr _ _).row _)
   have HX6 := Lib.hid (HR1.out.1.below b6)
   have HB6 := Lib.hid (below_next HR1.out.2.2.2 b6)
   have HJK := Lib.hid HR1.out.2.1
   clear b6 HR1
   generalize (wr.alloc (.cells zJ 32)).setRow wr.heap.size j.cs = w6 at HI6 HX6 HB6 ⊢
   generalize wr.heap.size = g6 at HI6 ⊢
   clear wr
   simp only [Act.put]
   have CP := apply_any r Aj cj rf ob N M jj O s j.e j.cs j.U j.O j.cu j.co j.ts a w6 HX6.out (HOK.out.below HB6.out) HU.out HJL.out (HT.out.below HB6.out (Nat.le_refl _)) (HS.out.at_ HB6.out) (HM.out.below HB6.out (Nat.le_refl _))
   unfold ApPost at CP
   rw [HST.out.1, Rp.next_put HST.out.1] at CP
   go_wp2_with (with_reducible (show wpList _ _ _ (Oper.mk _ (Op.load 32 _) _ _ _ _ :: _) _ _); refine pause ?_)
   unfold Paused
   refine wpList_row_w (by rfl) 32 (.tmp 7) (by rfl) g6 (by rfl) 32 j.cs _ HI6.out Tryz.underlying32 (by rfl) (ent_load H5.out) ?_
   go_wp2_with (go_at_call 10; refine pause ?_)
   unfold Paused
   refine CP.mono ?_
   rintro e w8 ⟨rfl, ⟨A8, c8, rf8, ob8, N8, M8, j8, O8, hx8⟩, hk8⟩
   have HR8 : Hid (RpX w8 r A8 c8 rf8 ob8 N8 M8 j8 O8 (Rp.put s j.e) ∧ j8.length = k + 1 ∧ Rp.Runs Rp.empty ((ks.map (·.e)).take (k + 1)) (Rp.put s j.e) ∧ Below w.heap.size w w8) := Lib.hid ⟨hx8, by rw [hx8.len, Rp.put_js, List.length_append, ← HX6.out.len, HJK.out]; rfl, HST.out.2, by
    have h := HX6.out.low HWR.out hk8
    exact ⟨h.os.trans HB6.out.os, h.tape.trans HB6.out.tape, h.output.trans HB6.out.output, Nat.le_trans HB6.out.size h.size, fun k hk => (h.block k hk).trans (HB6.out.block k hk)⟩⟩
   have e1 : errV a 0 = .nilIface := rfl
   rw [e1]
   clear hx8 hk8 CP HX6 HB6 HI6 e1 HJK
   clear w6
   go_wp2
   go_roundw
   case rel => exact ⟨k + 1, HLT.out, by go_num, _, _, _, _, _, _, _, _, _, HR8⟩
   case measure => have h5 := HLT.out; simp [intOf]; omega
  ·obtain rfl : k = n := by omega
   have i1 : ¬ ((k : Nat) : Int) < k := by omega
   have hnk : k = (ks.map (·.e)).length := by rw [List.length_map]; exact H.out.len
   have hs : s = t := by
    have h1 := HR1.out.2.2.1
    rw [hnk, List.take_length] at h1
    exact h1.uniq HR.out
   subst hs
   have HJL := Lib.hid HR1.out.2.1
   have CS := seq_any r Aj jj.length cj (Rp.lastsOf s.js) rf ob wr HR1.out.1.rp
   rw [HJL.out] at CS
   have HF : Hid (PlPost w k s (.returned (.tuple #[.pointer (some ⟨r, 0, none⟩), .int .i64 (k : Int), .nilIface])) wr) := Lib.hid ⟨r, Aj, cj, rf, ob, N, M, jj, O, rfl, HR1.out.1, HWR.out, HJL.out, HR1.out.2.2.2⟩
   clear HR1 hk hge hnk
   go_wp2_with (go_at_call 9; refine pause ?_)
   unfold Paused
   refine CS.mono ?_
   rintro e w8 ⟨rfl, hw⟩
   subst hw
   clear CS
   go_wp2
   go_ret3
   exact HF.out
end Go.Proofs.YtgcgomdhdgjpdaaGreatDoor
namespace Go.Proofs.YtgcgomdhdgjpdaaGreatDoor
open Go Go.RowKit Go.Maps
set_option maxRecDepth 100000 in
set_option maxHeartbeats 8000000 in
theorem stale_any (r : Nat) (A : Option Addr) (c : Nat) (rf ob : Value) (N M : Nat) (js : List Jt) (O : List Nat → Option Cl.T) (s : Rp.St) (e : En.E) (cs : Array Value) (U OO : Option Addr) (cu co : Nat) (ts : List En.Bt) (a : Nat → Addr) (w : World)
  (h : RpX w r A c rf ob N M js O s) (he : EnC w e cs U cu OO co ts) (hu : e.ups.length ≤ 1000) (hj : js.length ≤ 40) (hS : RSents w a) (hm : MaxAt w) (hin : e ∈ s.js) :
  Calls Tryz.prog 10 #[.pointer (some ⟨r, 0, none⟩), .agg cs] w fun x w' => x = .returned (ev (a 17)) ∧ Below w.heap.size w w' := by
 obtain ⟨w1, hw1⟩ : ∃ w1, w1 = w.alloc (.cells cs 32) := ⟨_, rfl⟩
 have b1 : Below w.heap.size w w1 := by rw [hw1]; exact (Below.refl _ _).alloc (Nat.le_refl _) _
 have x1 : Blk w1 w.heap.size 32 cs := by rw [hw1]; exact Blk.new w _ _
 have CR := eright_any e cs U OO cu co ts a w1 (he.below b1) (hS.e.at_ b1) (hm.below b1 (Nat.le_refl _)) hu
 have hgd := h.good.js e hin
 rw [hgd.1] at CR
 have HR := Lib.hid hgd.1
 have HL := Lib.hid hgd.2.2
 have H := Lib.hid h
 have HE := Lib.hid he
 have HJ := Lib.hid hj
 have HS := Lib.hid hS
 have HX1 := Lib.hid x1
 have HB1 := Lib.hid b1
 have hw1' := hw1.symm
 have h5 := he.five
 have HU5 := Lib.hid h5
 clear h he hu hj hS hm x1 b1 hw1 h5 hgd hin
 go_enter Tryz.func10, Tryz.ntmps10
 go_wp2_with (with_reducible (show wpList _ _ _ (Oper.mk _ (Op.load 32 _) _ _ _ _ :: _) _ _); refine pause ?_)
 unfold Paused
 refine wpList_row_w (by rfl) 32 (.tmp 3) (by rfl) w.heap.size (by rfl) 32 cs _ HX1.out Tryz.underlying32 (by rfl) (ent_load HU5.out) ?_
 go_wp2_with (go_at_call 22; refine pause ?_)
 unfold Paused
 refine CR.mono ?_
 rintro x w2 ⟨rfl, hb2⟩
 have HB2 := Lib.hid (below_next HB1.out hb2)
 have HX2 := Lib.hid (HX1.out.below hb2 HX1.out.lt)
 clear CR hb2 HB1 HX1 hw1'
 clear w1
 obtain ⟨k, hk⟩ : ∃ k : Nat, e.client = (k : Nat) := ⟨e.client.toNat, by have := (Rp.right_ok HR.out).1; omega⟩
 have hk8 : k < 8 := by have := (Rp.right_ok HR.out).2.1; omega
 have hst : e.number ≤ Rp.lastN s.js (k : Nat) := by rw [← hk]; exact HL.out
 have p0 : w2.cell? ⟨w.heap.size, 0, none⟩ = some (.int .i64 (k : Nat)) := by rw [HX2.out.cell, HE.out.cells, ← hk]; rfl
 have p1 : w2.cell? ⟨w.heap.size, 1, none⟩ = some (.int .i64 e.number) := by rw [HX2.out.cell, HE.out.cells]; rfl
 have CL := last_any r A js.length c rf ob js k w2 (by rw [H.out.es]; exact (H.out.below HB2.out).rp) (H.out.below HB2.out).rt (by have := HJ.out; omega) hk8
 rw [H.out.es] at CL
 clear hk hk8
 go_wp2_with (go_at_call 23; refine pause ?_)
 unfold Paused
 refine CL.mono ?_
 rintro x w3 ⟨rfl, hb3⟩
 have HB3 := Lib.hid (below_next HB2.out hb3)
 have HX3 := Lib.hid (HX2.out.below hb3 HX2.out.lt)
 clear CL hb3 HB2 HX2 p0 p1
 clear w2
 have p1 : w3.cell? ⟨w.heap.size, 1, none⟩ = some (.int .i64 e.number) := by rw [HX3.out.cell, HE.out.cells]; rfl
 have q := (HS.out.at_ HB3.out).s
 go_wp2
 go_ret
 exact ⟨rfl, HB3.out⟩
theorem EsK.rt {w : World} {B n c : Nat} {A : Option Addr} {js : List Jt} {l : List En.E} (h : EsK w B (.slice A n c) n js l) (hr : ∀ e ∈ l, En.right e = true) : JrT w A n js :=
 JrT.of_rdk (rdk_own h.own) h.len.symm (fun j hj => (h.ent j hj).ent) (fun j hj => by
  have h1 := Rp.right_ups (hr j.e (by rw [← h.es]; exact List.mem_map.2 ⟨j, hj, rfl⟩))
  omega)
theorem cellsJ_app (a b : List Jt) : cellsJ (a ++ b) = cellsJ a ++ cellsJ b := by unfold cellsJ; rw [List.flatMap_append]
theorem wpList_append_es {ops : Array Oper} {rest : List Oper} {o : Oper} {a : Act} {Q : Exit → Act → World → Prop} (w : World) (hgd : o.guard = none) (s x : Operand)
  (ho : o.op = .call { callee := .builtin .append, args := #[s, x], argTypes := #[22, 22] })
  {B B2 n m : Nat} {va vb : Value} {ja jb : List Jt} {la lb : List En.E} (hA : EsK w B va n ja la) (hB : EsK w B2 vb m jb lb) (hs : a.eval s = va) (hx : a.eval x = vb) (hr : ∀ e ∈ lb, En.right e = true) (hm : n + m ≤ 1000) (hb : B ≤ w.heap.size)
  (h : ∀ v' w', EsK w' B v' (n + m) (ja ++ jb) (la ++ lb) → KeptP (fun k => some k = va.ownBlock) w w' → wpList Tryz.prog ops Q rest (a.put o.dst v') w') : wpList Tryz.prog ops Q (o :: rest) a w := by
 obtain ⟨ip, hip, hpz, hps, hpb⟩ := info_parts ent_info
 have hfin : ∀ v' w', w'.ownsRow B 32 5 v' (n + m) (cellsJ ja ++ cellsJ jb) → KeptP (fun k => some k = va.ownBlock) w w' → EsK w' B v' (n + m) (ja ++ jb) (la ++ lb) := fun v' w' h1 h2 =>
  ⟨by rw [List.length_append, hA.len, hB.len], by rw [cellsJ_app]; exact h1, by rw [List.map_append, hA.es, hB.es], fun j hj => by
   rcases List.mem_append.1 hj with hj | hj
   ·exact (hA.ent j hj).kept h2 (NoK.own hA.own)
   ·exact (hB.ent j hj).kept h2 (NoK.own hA.own)⟩
 rcases hB.own.2 with ⟨rfl, h0⟩ | ⟨g, cap, cur, rfl, _⟩
 ·refine wpList_append_own_none hgd s x 22 ho B 32 ip 5 Tryz.underlying22 hip va n (cellsJ ja) hs hA.own hx (h va w (hfin va w ?_ (KeptP.refl _ _)) (KeptP.refl _ _))
  have h1 : cellsJ jb = [] := List.eq_nil_of_length_eq_zero (by rw [hB.own.1, h0])
  rw [h1, List.append_nil, h0]
  exact hA.own
 ·have hrt := hB.rt hr
  refine wpList_append_own w hgd s x 22 ho B 32 ip (.agg zJ) 5 72 Tryz.underlying22 hip hpz hps hpb (by rfl) (by decide) va n (cellsJ ja) hs hA.own ⟨g, 0, none⟩ m cap (cellsJ jb) hx hB.own.1 (fun j u hj => ?_) (cellsJ_one hrt) (by unfold maxLen; omega) (by omega) hb (fun v' w' h1 h2 _ => h v' w' (hfin v' w' h1 (KeptP.of_grown h2)) (KeptP.of_grown h2))
  rw [Addr.add_mid]
  exact hrt.cell (by
   have h1 := (List.getElem?_eq_some_iff.1 hj).1
   rw [hB.own.1] at h1
   omega) hj
end Go.Proofs.YtgcgomdhdgjpdaaGreatDoor
