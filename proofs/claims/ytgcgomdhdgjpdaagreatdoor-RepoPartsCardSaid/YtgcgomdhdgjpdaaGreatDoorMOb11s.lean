/- An object's cells laid by the program: structs and slices built of aggregates, a row of one's own behind a store elsewhere. -/
import Derived.Test.YtgcgomdhdgjpdaaGreatDoorMOct11s
import Derived.Laws.Tables
import Derived.Great.BuildSlice
import Derived.Laws.ResultCell
import Derived.Laws.Cover1
namespace Go.Proofs.YtgcgomdhdgjpdaaGreatDoor
open Go Go.RowKit
theorem splice_from (off : Nat) : ∀ (xs old pre post : List Value) (n : Nat), old.length = xs.length → pre.length = off + n →
  (xs.zipIdx n).foldl (fun (cs : Array Value) (x : Value × Nat) => cs.setIfInBounds (off + x.2) x.1) (pre ++ old ++ post).toArray = (pre ++ xs ++ post).toArray
 | [], old, pre, post, n, h, _ => by
  obtain rfl : old = [] := List.eq_nil_of_length_eq_zero h
  rfl
 | x :: xs, [], pre, post, n, h, _ => by simp at h
 | x :: xs, o :: old, pre, post, n, h, hp => by
  have e : (pre ++ o :: old ++ post).toArray.setIfInBounds (off + n) x = ((pre ++ [x]) ++ old ++ post).toArray := by
   apply Array.ext'
   rw [Array.toList_setIfInBounds]
   show (pre ++ o :: old ++ post).set (off + n) x = _
   rw [List.append_assoc, List.set_append_right _ _ (by omega), show off + n - pre.length = 0 by omega]
   simp
  rw [List.zipIdx_cons, List.foldl_cons, e, splice_from off xs old (pre ++ [x]) post (n + 1) (by simpa using h) (by simp; omega)]
  simp
theorem fill_part (place : Nat → Option (Nat × Nat)) (i off size : Nat) (v : Value) (rest : List (Nat × Value)) (xs old pre post : List Value) (hp : place i = some (off, size)) (hv : v.cells = xs.toArray) (hx : xs.length = size) (ho : old.length = size) (hpre : pre.length = off) :
  Instr.fill place (pre ++ old ++ post).toArray ((i, v) :: rest) = Instr.fill place (pre ++ xs ++ post).toArray rest := by
 have h1 : ¬ (xs.toArray.size ≠ size) := by simp [hx]
 have h2 : ¬ (off + xs.toArray.size > (pre ++ old ++ post).toArray.size) := by simp; omega
 have h3 : xs.toArray.zipIdx.foldl (fun (cs : Array Value) (x : Value × Nat) => cs.setIfInBounds (off + x.2) x.1) (pre ++ old ++ post).toArray = (pre ++ xs ++ post).toArray := by
  rw [← Array.foldl_toList]
  have : xs.toArray.zipIdx.toList = xs.zipIdx 0 := by simp
  rw [this]
  exact splice_from off xs old pre post 0 (by omega) (by omega)
 rw [Instr.fill, hp]
 simp only [hv]
 rw [if_neg (by simp only [Bool.or_eq_true, decide_eq_true_eq, not_or]; exact ⟨by simpa using h1, h2⟩)]
 exact congrArg (fun c => Instr.fill place c rest) h3
theorem fill_done (place : Nat → Option (Nat × Nat)) (cs : Array Value) : Instr.fill place cs [] = some cs := rfl
theorem wpList_buildK {P : Program} {ops : Array Oper} {rest : List Oper} {o : Oper} {a : Act} {w : World} {Q : Exit → Act → World → Prop} (hg : o.guard = none) (t : TypeId) (parts : Array (Nat × Operand)) (ho : o.op = .build t parts) (vals : List (Nat × Value))
  (hv : (parts.map fun (i, x) => (i, a.eval x)).toList = vals) (cells : Array Value) (h : P.built t vals = some cells) (hk : wpList P ops Q rest (a.put o.dst (.agg cells)) w) : wpList P ops Q (o :: rest) a w :=
 wpList_plain hg fun K hK => by
  refine wp_build t parts ho (by rw [hv, h]; rfl) ?_
  rw [hv, h]
  exact hK _ _ hk
theorem wpList_buildSliceK {P : Program} {ops : Array Oper} {rest : List Oper} {o : Oper} {a : Act} {w : World} {Q : Exit → Act → World → Prop} (hg : o.guard = none) (t e : TypeId) (len : Nat) (parts : Array (Nat × Operand)) (ho : o.op = .buildSlice t len parts)
  (cells : Array Value) (ie : TypeInfo) (z : Value) (hu : P.underlying t = some (.slice e)) (hie : P.info? e = some ie) (hz : ie.zero = some z) (hsmall : ¬ len * ie.size > 2 ^ 24) (hpos : ¬ len * ie.size = 0)
  (vals : List (Nat × Value)) (hv : (parts.map fun (i, x) => (i, a.eval x)).toList = vals)
  (hf : Instr.fill (fun i => some (i * ie.size, ie.size)) ((Array.range (len * ie.size)).map (z.cells[· % z.cells.size]!)) vals = some cells)
  (h : wpList P ops Q rest (a.put o.dst (.slice (some ⟨w.heap.size, 0, none⟩) len len)) (w.alloc (.cells cells e))) : wpList P ops Q (o :: rest) a w :=
 wpList_buildSlice hg t e len parts ho cells ie z hu hie hz hsmall hpos (by rw [hv]; exact hf) h
theorem built_of {P : Program} {t : TypeId} {fields : Array Field} {zc : Array Value} {places : List (Nat × Nat)} (hu : P.underlying t = some (.struct fields)) (hz : ((P.info? t).bind (·.zero)).map (·.cells) = some zc)
  (hp : fields.toList.mapM (fun f => (P.info? f.type).map fun i => (f.offset, i.size)) = some places) (parts : List (Nat × Value)) : P.built t parts = Instr.fill (places.toArray[·]?) zc parts := by
 cases hi : P.info? t with
 | none => simp [hi] at hz
 | some it =>
  cases hzz : it.zero with
  | none => simp [hi, hzz] at hz
  | some z =>
   have hzc : z.cells = zc := by simpa [hi, hzz] using hz
   simp [Program.built, hi, hu, hzz, hp, hzc]
theorem ownsRow_far {w : World} {base : Nat} {e : TypeId} {size n : Nat} {v : Value} {xs : List Value} (h : w.ownsRow base e size v n xs) {p : Addr} (hp : p.block < base) (u : Value) : (w.setCell p u).ownsRow base e size v n xs := by
 refine ⟨h.1, ?_⟩
 rcases h.2 with hn | ⟨g, cap, cur, rfl, hb, hgg, hr⟩
 ·exact .inl hn
 ·exact .inr ⟨g, cap, cur, rfl, hb, by rw [Below.heap_setCell w p u g (by omega)]; exact hgg, hr⟩
def cellsOb (k : Int) (t e p : Value) (x : List Nat) : List Value := .int .i64 k :: t :: e :: (cellsB x ++ [p])
abbrev nilV : Value := .slice none 0 0
theorem cellsOb_size (k : Int) (t e p : Value) (x : List Nat) (hx : x.length = 32) : (cellsOb k t e p x).toArray.size = 36 := by simp [cellsOb, cellsB_len, hx]
theorem results_cell_row2 {P : Program} {fn : Func} {p u : Tmp} {ty : TypeId} (h : fn.results = #[.cell p ty, .tmp u]) (tmps : Array Value) (w : World) (g : Nat) (t : TypeId) (cs : Array Value) (d : TypeDesc) (y : Value)
  (hp : tmps.getD p undef = .pointer (some ⟨g, 0, none⟩)) (hy : tmps.getD u undef = y) (hg : Blk w g t cs) (hu : P.underlying ty = some d) (hd : (match d with | .struct _ | .array _ _ => true | _ => false) = true) (hi : (P.info? ty).map (·.size) = some cs.size) :
  (results fn tmps).run P w = .ok (.tuple #[.agg cs, y]) w := by
 rw [results_cell_tmp h, hp, hy]
 have h2 := run_loadVar_row (P := P) w g t ty cs (0, 0) d hg hu hd hi
 simp only [asAddr, Sem.run_pure, Result.andThen_ok, h2]
theorem own_slice {w : World} {base : Nat} {e : TypeId} {size n : Nat} {v : Value} {xs : List Value} (h : w.ownsRow base e size v n xs) : ∃ A c, v = .slice A n c := by
 rcases h.2 with ⟨rfl, rfl⟩ | ⟨g, cap, cur, rfl, _⟩
 ·exact ⟨none, 0, rfl⟩
 ·exact ⟨_, _, rfl⟩
theorem own_farRow {w : World} {base : Nat} {e : TypeId} {size n : Nat} {v : Value} {xs : List Value} (h : w.ownsRow base e size v n xs) {g : Nat} (hg : ∀ k, v.ownBlock = some k → k ≠ g) (cs : Array Value) : (w.setRow g cs).ownsRow base e size v n xs := by
 refine ⟨h.1, ?_⟩
 rcases h.2 with hn | ⟨k, cap, cur, rfl, hb, hgg, hr⟩
 ·exact .inl hn
 ·exact .inr ⟨k, cap, cur, rfl, hb, by rw [setRow_other w g k cs (hg k rfl)]; exact hgg, hr⟩
theorem rdk_own {w : World} {base : Nat} {e : TypeId} {size n : Nat} {v : Value} {xs : List Value} (h : w.ownsRow base e size v n xs) : RdK w v n xs := by
 rcases h.2 with ⟨rfl, rfl⟩ | ⟨g, cap, cur, rfl, hb, hgg, hc, _⟩
 ·exact RdK.nil _ _
 ·exact ⟨_, _, rfl, hc, fun _ => ⟨g, 0, rfl, (Array.getElem?_eq_some_iff.1 hgg).1, fun j u hu => by
   have := h.cells rfl j u hu
   rw [Addr.add_mid] at this
   exact this⟩⟩
theorem cellsOb_get35 (k : Int) (t e p : Value) (x : List Nat) (hx : x.length = 32) : (cellsOb k t e p x).toArray[35]? = some p := by
 rw [List.getElem?_toArray, cellsOb, show (35 : Nat) = 32 + 1 + 1 + 1 from rfl, List.getElem?_cons_succ, List.getElem?_cons_succ, List.getElem?_cons_succ, List.getElem?_append_right (by rw [cellsB_len, hx]; omega), cellsB_len, hx]
 rfl
theorem cellsE1_one (e : Ent) : ∀ v ∈ cellsE1 e, v.oneCell' = true := by
 intro v hv
 rcases List.mem_cons.1 hv with rfl | hv
 ·rfl
 ·exact cellsB_one _ v hv
theorem arr_one {l : List Value} (h : ∀ v ∈ l, v.oneCell' = true) : l.toArray.all (·.oneCell') = true := by
 rw [Array.all_eq_true_iff_forall_mem]
 exact fun v hv => h v (by simpa using hv)
theorem fill_one (n : Nat) (zc : Array Value) (xs : List Value) (hx : xs.length = n) (_hz : zc.size = n) : Instr.fill (fun i => some (i * n, n)) ((Array.range (1 * n)).map (zc[· % zc.size]!)) [(0, .agg xs.toArray)] = some xs.toArray := by
 obtain ⟨old, ho⟩ : ∃ old : List Value, (Array.range (1 * n)).map (zc[· % zc.size]!) = old.toArray := ⟨_, (Array.toArray_toList ..).symm⟩
 have hl : old.length = n := by
  have := congrArg Array.size ho
  simpa using this.symm
 rw [ho]
 have h := fill_part (fun i => some (i * n, n)) 0 0 n (.agg xs.toArray) [] xs old [] [] (by simp) rfl hx hl rfl
 rw [List.nil_append, List.append_nil, List.nil_append, List.append_nil] at h
 exact h
def okc (c : Nat) : Bool := decide (33 ≤ c) && decide (c ≤ 126) && !(c == 47)
def nameOk (l : List UInt8) : Bool := decide (1 ≤ l.length) && decide (l.length ≤ 12) && l.all (fun c => okc c.toNat)
theorem nm_take {s : ByteArray} {k : Nat} (h : k < s.size) (h1 : (s.data.toList.take k).all (fun c => okc c.toNat) = true) (h2 : okc s[k].toNat = true) : (s.data.toList.take (k + 1)).all (fun c => okc c.toNat) = true := by
 rw [List.take_succ_eq_append_getElem (by simpa using h), List.all_append, h1, Bool.true_and, List.all_cons, List.all_nil, Bool.and_true]
 exact h2
theorem nm_not {s : ByteArray} {k : Nat} (h : k < s.size) (h2 : okc s[k].toNat = false) : s.data.toList.all (fun c => okc c.toNat) = false := by
 rw [List.all_eq_false]
 exact ⟨s[k], by simp [ByteArray.getElem_eq_getElem_data], by simp [h2]⟩
set_option maxHeartbeats 1000000 in
theorem rname_any (s : ByteArray) (w : World) (hs : s.size ≤ 1099511627776) :
  Calls Tryz.prog 190 #[.string s] w fun e w' => e = .returned (.bool (nameOk s.data.toList)) ∧ w' = w := by
 have hl : s.data.toList.length = s.size := by simp
 by_cases h1 : s.size < 1
 ·have HV := Lib.hid (show nameOk s.data.toList = false by unfold nameOk; rw [hl, decide_eq_false (show ¬ 1 ≤ s.size by omega)]; rfl)
  have g1 : ((s.size : Nat) : Int) < 1 := by omega
  clear hl
  go_enter Tryz.func190, Tryz.ntmps190
  go_wp2
  go_ret
  exact ⟨by rw [HV.out]; rfl, rfl⟩
 by_cases h2 : 12 < s.size
 ·have HV := Lib.hid (show nameOk s.data.toList = false by unfold nameOk; rw [hl, decide_eq_false (show ¬ s.size ≤ 12 by omega), Bool.and_false, Bool.false_and])
  have g1 : ¬ ((s.size : Nat) : Int) < 1 := by omega
  have g2 : (12 : Int) < ((s.size : Nat) : Int) := by omega
  clear hl
  go_enter Tryz.func190, Tryz.ntmps190
  go_wp2
  go_ret
  exact ⟨by rw [HV.out]; rfl, rfl⟩
 have g1 : ¬ ((s.size : Nat) : Int) < 1 := by omega
 have g2 : ¬ (12 : Int) < ((s.size : Nat) : Int) := by omega
 have HN := Lib.hid (fun (b : Bool) (h : s.data.toList.all (fun c => okc c.toNat) = b) => show nameOk s.data.toList = b by unfold nameOk; rw [hl, decide_eq_true (show 1 ≤ s.size by omega), decide_eq_true (show s.size ≤ 12 by omega), h]; rfl)
 clear hl
 go_enter Tryz.func190, Tryz.ntmps190
 go_wp2
 go_loopw [14] (fun i wr => ∃ k : Nat, k ≤ s.size ∧ i = .int .i64 k ∧ Hid ((s.data.toList.take k).all (fun c => okc c.toNat) = true) ∧ wr = w) (fun i _ => s.size - (intOf i).toNat)
 case atStart => exact ⟨0, Nat.zero_le _, rfl, Lib.hid rfl, rfl⟩
 case round =>
  obtain ⟨k, hk, rfl, HK, rfl⟩ := hrel
  by_cases hlt : k < s.size
  ·have HO := Lib.hid (fun (h : okc s[k].toNat = true) => show (s.data.toList.take (k + 1)).all (fun c => okc c.toNat) = true from nm_take hlt HK.out h)
   have HX := Lib.hid (fun (h : okc s[k].toNat = false) => HN.out false (nm_not hlt h))
   have i0 : ((k : Nat) : Int) < ((s.size : Nat) : Int) := by omega
   have i1 : (0 : Int) ≤ ((k : Nat) : Int) := by omega
   by_cases c1 : s[k].toNat < 33
   ·have HF := Lib.hid (HX.out (by unfold okc; rw [decide_eq_false (show ¬ 33 ≤ s[k].toNat by omega)]; rfl))
    have q1 : ((s[k].toNat : Nat) : Int) < 33 := by omega
    clear c1
    go_wp2
    go_ret
    exact ⟨by rw [HF.out]; rfl, rfl⟩
   by_cases c2 : 126 < s[k].toNat
   ·have HF := Lib.hid (HX.out (by unfold okc; rw [decide_eq_false (show ¬ s[k].toNat ≤ 126 by omega), Bool.and_false, Bool.false_and]))
    have q1 : ¬ ((s[k].toNat : Nat) : Int) < 33 := by omega
    have q2 : (126 : Int) < ((s[k].toNat : Nat) : Int) := by omega
    clear c1 c2
    go_wp2
    go_ret
    exact ⟨by rw [HF.out]; rfl, rfl⟩
   have q1 : ¬ ((s[k].toNat : Nat) : Int) < 33 := by omega
   have q2 : ¬ (126 : Int) < ((s[k].toNat : Nat) : Int) := by omega
   by_cases c3 : s[k].toNat = 47
   ·have HF := Lib.hid (HX.out (by unfold okc; rw [c3]; rfl))
    have q3 : (((s[k].toNat : Nat) : Int) == 47) = true := by simp; omega
    clear c1 c2 c3
    go_wp2
    go_ret
    exact ⟨by rw [HF.out]; rfl, rfl⟩
   ·have HF := Lib.hid (HO.out (by unfold okc; rw [decide_eq_true (show 33 ≤ s[k].toNat by omega), decide_eq_true (show s[k].toNat ≤ 126 by omega)]; simp [c3]))
    have q3 : (((s[k].toNat : Nat) : Int) == 47) = false := by simp; omega
    clear c1 c2 c3
    go_wp2
    go_roundw
    case rel => exact ⟨k + 1, by omega, by go_num, HF, (by first | rfl | trivial)⟩
    case measure => simp [intOf]; omega
  ·have HF := Lib.hid (HN.out true (by have h := HK.out; rwa [List.take_of_length_le (by simp; omega)] at h))
   go_wp2
   go_ret
   exact ⟨by rw [HF.out]; rfl, rfl⟩
def nameAt (es : List Ent) (i : Nat) : List UInt8 := ((es[i]?).map (fun e => e.name.toList)).getD []
def okAt (es : List Ent) (i : Nat) : Bool := nameOk (nameAt es i) && (decide (i = 0) || Op.bytesLess (nameAt es (i - 1)) (nameAt es i))
def okTo (es : List Ent) (k : Nat) : Bool := (List.range k).all (okAt es)
def entsOk (es : List Ent) : Bool := decide (es.length ≤ 8) && okTo es es.length
theorem okTo_succ (es : List Ent) (k : Nat) : okTo es (k + 1) = (okTo es k && okAt es k) := by simp [okTo, List.range_succ]
theorem okTo_false {es : List Ent} {k n : Nat} (h : okAt es k = false) (hk : k < n) : okTo es n = false := by
 unfold okTo
 rw [List.all_eq_false]
 exact ⟨k, by simpa using hk, by simp [h]⟩
theorem nameAt_is {es : List Ent} {i : Nat} (h : i < es.length) : nameAt es i = es[i].name.toList := by simp [nameAt, h]
theorem toList_data (s : ByteArray) : s.toList = s.data.toList := ByteArray.toList_eq s
set_option maxRecDepth 100000 in
set_option maxHeartbeats 1000000 in
theorem rents_any (A : Option Addr) (c : Nat) (es : List Ent) (w : World) (h : RdK w (.slice A es.length c) es.length (cellsE es)) (hf : ∀ e ∈ es, Id32 e.id) (hn : ∀ e ∈ es, e.name.size ≤ 1099511627776) :
  Calls Tryz.prog 182 #[.slice A es.length c] w fun e w' => e = .returned (.bool (entsOk es)) ∧ Below w.heap.size w w' := by
 have HH := Lib.hid h
 have HF := Lib.hid hf
 have HN := Lib.hid hn
 clear h hf hn
 by_cases h8 : (8 : Int) < es.length
 ·have HV := Lib.hid (show entsOk es = false by unfold entsOk; rw [decide_eq_false (by omega)]; rfl)
  go_enter Tryz.func182, Tryz.ntmps182
  go_wp2
  go_ret
  exact ⟨by rw [HV.out]; rfl, Below.refl _ _⟩
 have HE := Lib.hid (fun (b : Bool) (hb : okTo es es.length = b) => show entsOk es = b by unfold entsOk; rw [decide_eq_true (by omega), hb]; rfl)
 go_enter Tryz.func182, Tryz.ntmps182
 go_wp2
 go_loopw [10] (fun i wr => ∃ k : Nat, k ≤ es.length ∧ i = .int .i64 k ∧ Hid (okTo es k = true) ∧ Hid (Below w.heap.size w wr)) (fun i _ => es.length - (intOf i).toNat)
 case atStart => exact ⟨0, Nat.zero_le _, rfl, Lib.hid rfl, Lib.hid (Below.refl _ _)⟩
 case round =>
  obtain ⟨k, hk, rfl, HK, HB⟩ := hrel
  by_cases hlt : k < es.length
  ·obtain ⟨sb, so, rfl, _, hsr⟩ := (HH.out.below HB.out (Nat.le_refl _)).ent rfl HF.out hlt
   have HSR := Lib.hid hsr
   have HID := Lib.hid (HF.out _ (List.getElem_mem hlt))
   have HNS := Lib.hid (HN.out _ (List.getElem_mem hlt))
   have HNA := Lib.hid (nameAt_is hlt)
   have HPR : Hid (0 < k → ∃ (q : ByteArray), nameAt es (k - 1) = q.toList ∧ wr.cell? ⟨sb, so + (k - 1) * 33, none⟩ = some (.string q)) := Lib.hid (fun h0 => by
    obtain ⟨b2, o2, hA2, _, hr2⟩ := (HH.out.below HB.out (Nat.le_refl _)).ent rfl HF.out (show k - 1 < es.length by omega)
    injection hA2 with hA2
    injection hA2 with hb2 ho2
    subst hb2 ho2
    exact ⟨_, nameAt_is (by omega), by have := hr2 0 _ rfl; rwa [Nat.add_zero] at this⟩)
   clear hsr
   obtain ⟨en, hen⟩ : ∃ en, en = es[k] := ⟨_, rfl⟩
   rw [← hen] at HSR HID HNS HNA
   clear hen
   have i1 : ((k : Nat) : Int) < es.length := by omega
   have i2 : (0 : Int) ≤ ((k : Nat) : Int) := by omega
   go_wp2_with (with_reducible (show wpList _ _ _ (Oper.mk _ (Op.load 245 _) _ _ _ _ :: _) _ _); refine pause ?_)
   unfold Paused
   refine wpList_mid_w (by rfl) 245 (.tmp 13) (by rfl) sb (so + k * 33) (by rfl) _ _ HSR.out Tryz.underlying245 (by rfl) (by rw [cellsE1_len HID.out]; kernel_rfl) ?_
   go_wp2_with (with_reducible (show wpList _ _ _ (Oper.mk _ (Op.store 245 _ _) _ _ _ _ :: _) _ _); refine pause ?_)
   unfold Paused
   change wpList _ _ _ _ _ (wr.alloc (.cells (cellsE1 ⟨⟨#[]⟩, List.replicate 32 0⟩).toArray 245))
   refine wpList_store_row (by rfl) 245 (.tmp 4) (.tmp 14) (by rfl) wr.heap.size (cellsE1 en).toArray (by rfl) (by rfl) 245 (cellsE1 ⟨⟨#[]⟩, List.replicate 32 0⟩).toArray (Blk.new wr _ _) (by rw [List.size_toArray, cellsE1_len HID.out]; kernel_rfl) (by rw [List.size_toArray, List.size_toArray, cellsE1_len HID.out]; rfl) (arr_one (cellsE1_one en)) ?_
   have hbe : Below wr.heap.size wr ((wr.alloc (.cells (cellsE1 ⟨⟨#[]⟩, List.replicate 32 0⟩).toArray 245)).setRow wr.heap.size (cellsE1 en).toArray) := below_row ((Below.refl _ _).alloc (Nat.le_refl _) _) (Nat.le_refl _) _
   have HBa := Lib.hid (below_next HB.out hbe)
   have HXa := Lib.hid ((Blk.new wr 245 (cellsE1 ⟨⟨#[]⟩, List.replicate 32 0⟩).toArray).row (cellsE1 en).toArray)
   have HPa : Hid (0 < k → ∃ (q : ByteArray), nameAt es (k - 1) = q.toList ∧ ((wr.alloc (.cells (cellsE1 ⟨⟨#[]⟩, List.replicate 32 0⟩).toArray 245)).setRow wr.heap.size (cellsE1 en).toArray).cell? ⟨sb, so + (k - 1) * 33, none⟩ = some (.string q)) := Lib.hid (fun h0 => by
    obtain ⟨q, h1, h2⟩ := HPR.out h0
    exact ⟨q, h1, (hbe.cell (p := ⟨sb, so + (k - 1) * 33, none⟩) (block_lt_of_cell h2)).trans h2⟩)
   clear hbe
   generalize World.setRow _ wr.heap.size (cellsE1 en).toArray = wa at HBa HXa HPa ⊢
   generalize wr.heap.size = gx at HXa ⊢
   simp only [Act.put]
   have d0 : wa.cell? ⟨gx, 0, none⟩ = some (.string en.name) := HXa.out.cell 0
   have CN := fun w => rname_any en.name w HNS.out
   have HNE : Hid (nameAt es k = en.name.data.toList) := Lib.hid (by rw [HNA.out, toList_data])
   have HNL : Hid (nameAt es k = en.name.toList) := HNA
   obtain ⟨bn, hbn⟩ : ∃ bn, bn = nameOk en.name.data.toList := ⟨_, rfl⟩
   rw [← hbn] at CN
   have HBN := Lib.hid hbn
   clear hbn
   cases bn
   ·have HV := Lib.hid (HE.out false (okTo_false (k := k) (by unfold okAt; rw [HNE.out, ← HBN.out]; rfl) hlt))
    go_wp2
    go_quiet (first | (go_at_call 190; exact Calls.quiet_of_same (CN _)))
    go_wp2
    go_ret
    exact ⟨by rw [HV.out]; rfl, below_drewN HBa.out _⟩
   by_cases h0 : k = 0
   ·subst h0
    have HO := Lib.hid (show okTo es 1 = true by rw [okTo_succ, HK.out]; unfold okAt; rw [HNE.out, ← HBN.out]; rfl)
    go_wp2
    go_quiet (first | (go_at_call 190; exact Calls.quiet_of_same (CN _)))
    go_wp2
    have HBn := Lib.hid (below_drewN HBa.out nq)
    go_roundw
    case rel => exact ⟨1, by omega, by go_num, HO, HBn⟩
    case measure => simp [intOf]; omega
   ·obtain ⟨q, hq1, hq2⟩ := HPa.out (by omega)
    have HQ1 := Lib.hid hq1
    have i3 : (0 : Int) < ((k : Nat) : Int) := by omega
    have i3n : 0 < k := by omega
    have i4 : wrap64 ((k : Int) - 1) = ((k - 1 : Nat) : Int) := by rw [IntWalk.wrap64_in _ (by omega)]; omega
    have i4b : IntKind.i64.wrap ((k : Int) - 1) = ((k - 1 : Nat) : Int) := (IntWalk.i64_left _).trans i4
    have i5 : ((k - 1 : Nat) : Int) < es.length := by omega
    have i6 : (0 : Int) ≤ ((k - 1 : Nat) : Int) := by omega
    obtain ⟨bl, hbl⟩ : ∃ bl, bl = Op.bytesLess q.toList en.name.toList := ⟨_, rfl⟩
    have HBL := Lib.hid hbl
    have hbl2 := hbl.symm
    clear hq1 hbl
    cases bl
    ·have HV := Lib.hid (HE.out false (okTo_false (k := k) (by unfold okAt; rw [HQ1.out, HNL.out, ← HBL.out, decide_eq_false h0]; simp) hlt))
     go_wp2
     go_quiet (first | (go_at_call 190; exact Calls.quiet_of_same (CN _)))
     go_wp2
     go_ret
     exact ⟨by rw [HV.out]; rfl, below_drewN HBa.out _⟩
    ·have HO := Lib.hid (show okTo es (k + 1) = true by
      have hA : nameOk (nameAt es k) = true := by rw [HNE.out]; exact HBN.out.symm
      have hB : Op.bytesLess (nameAt es (k - 1)) (nameAt es k) = true := by rw [HQ1.out, HNL.out]; exact HBL.out.symm
      rw [okTo_succ, HK.out]; unfold okAt; rw [hA, hB]; simp)
     go_wp2
     go_quiet (first | (go_at_call 190; exact Calls.quiet_of_same (CN _)))
     go_wp2
     have HBn := Lib.hid (below_drewN HBa.out nq)
     go_roundw
     case rel => exact ⟨k + 1, by omega, by go_num, HO, HBn⟩
     case measure => simp [intOf]; omega
  ·have hke : k = es.length := by omega
   subst hke
   have HV := Lib.hid (HE.out true HK.out)
   go_wp2
   go_ret
   exact ⟨by rw [HV.out]; rfl, HB.out⟩
def aimsB (k : Int) : Bool := decide (k = 3) || decide (k = 4)
noncomputable def Ob.strange (o : Ob) : Bool :=
 (decide (0 < o.text.length) && decide (o.kind = 2)) || (decide (0 < o.ents.length) && !decide (o.kind = 2)) || (!(eqv o.target zeros32) && !aimsB o.kind) || (decide (0 < o.pars.length) && !decide (o.kind = 3))
theorem aims_any (k : Int) (w : World) : Calls Tryz.prog 173 #[.int .i64 k] w fun e w' => e = .returned (.bool (aimsB k)) ∧ w = w' := by
 by_cases h3 : k = 3
 ·subst h3
  go_enter Tryz.func173, Tryz.ntmps173
  go_wp2
  go_ret
  exact ⟨rfl, rfl⟩
 by_cases h4 : k = 4
 ·subst h4
  go_enter Tryz.func173, Tryz.ntmps173
  go_wp2
  go_ret
  exact ⟨rfl, rfl⟩
 ·have b3 : (k == 3) = false := by simp [h3]
  have b4 : (k == 4) = false := by simp [h4]
  have HV := Lib.hid (show aimsB k = false by unfold aimsB; rw [decide_eq_false h3, decide_eq_false h4]; rfl)
  clear h3 h4
  go_enter Tryz.func173, Tryz.ntmps173
  go_wp2
  go_ret
  exact ⟨by rw [HV.out]; rfl, rfl⟩
set_option maxRecDepth 100000 in
set_option maxHeartbeats 16000000 in
theorem strange_any (o : Ob) (cs : Array Value) (T E P : Option Addr) (tc ec pc : Nat) (w : World) (h : ObC w o cs T tc E ec P pc) (hf : o.Fit) :
    Calls Tryz.prog 181 #[.agg cs] w fun e w' => e = .returned (.bool o.strange) ∧ Below w.heap.size w w' := by
  obtain ⟨w2, hw2⟩ : ∃ w2, w2 = w.alloc (.cells cs 183) := ⟨_, rfl⟩
  have HBE := Lib.hid (show Below w.heap.size w w2 from hw2 ▸ (Below.refl _ _).alloc (Nat.le_refl _) _)
  have B1 : Blk w2 w.heap.size 183 cs := hw2 ▸ Blk.new w _ cs
  have a0 : w2.cell? ⟨w.heap.size, 0, none⟩ = some (.int .i64 o.kind) := (B1.cell 0).trans h.c0
  have a1 : w2.cell? ⟨w.heap.size, 1, none⟩ = some (.slice T o.text.length tc) := (B1.cell 1).trans h.c1
  have a2 : w2.cell? ⟨w.heap.size, 2, none⟩ = some (.slice E o.ents.length ec) := (B1.cell 2).trans h.c2
  have a3 : w2.cell? ⟨w.heap.size, 35, none⟩ = some (.slice P o.pars.length pc) := (B1.cell 35).trans (h.c35 hf)
  have M1 := Lib.hid (h.mid B1)
  have N1 := Lib.hid (show (Tryz.prog.info? 41).map (·.size) = some (cellsB o.target).length by rw [cellsP1_len hf.target]; kernel_rfl)
  have HQ := Lib.hid (id_eq w2 o.target zeros32 hf.target zeros_id)
  have hz : (cellsB zeros32).toArray = #[.int .u8 0, .int .u8 0, .int .u8 0, .int .u8 0, .int .u8 0, .int .u8 0, .int .u8 0, .int .u8 0, .int .u8 0, .int .u8 0, .int .u8 0, .int .u8 0, .int .u8 0, .int .u8 0, .int .u8 0, .int .u8 0, .int .u8 0, .int .u8 0, .int .u8 0, .int .u8 0, .int .u8 0, .int .u8 0, .int .u8 0, .int .u8 0, .int .u8 0, .int .u8 0, .int .u8 0, .int .u8 0, .int .u8 0, .int .u8 0, .int .u8 0, .int .u8 0] := rfl
  have CA := aims_any o.kind w2
  have hw3 := hw2.symm
  have HR : Hid (((decide (0 < o.text.length) && decide (o.kind = 2)) || (decide (0 < o.ents.length) && !decide (o.kind = 2)) || (!(eqv o.target zeros32) && !aimsB o.kind) || (decide (0 < o.pars.length) && !decide (o.kind = 3))) = o.strange) := Lib.hid rfl
  clear h B1 hw2 hf
  generalize o.strange = r at HR ⊢
  generalize o.kind = k at *
  generalize eqv o.target zeros32 = rz at HR HQ
  generalize cellsB o.target = cta at *
  generalize o.text.length = n1 at *
  generalize o.ents.length = n2 at *
  generalize o.pars.length = n3 at *
  rcases (show k = 2 ∨ k = 3 ∨ k = 4 ∨ (k ≠ 2 ∧ k ≠ 3 ∧ k ≠ 4) by omega) with hk | hk | hk | hk
  rotate_left 3
  · have b2 : (k == 2) = false := by simp [hk.1]
    have c2 : (k != 2) = true := by simp [hk.1]
    have c3 : (k != 3) = true := by simp [hk.2.1]
    have ha : aimsB k = false := by unfold aimsB; rw [decide_eq_false hk.2.1, decide_eq_false hk.2.2]; rfl
    rw [ha] at CA HR
    rw [decide_eq_false hk.1, decide_eq_false hk.2.1] at HR
    clear hk ha
    rcases Nat.eq_zero_or_pos n1 with rfl | p1 <;> rcases Nat.eq_zero_or_pos n2 with rfl | p2 <;> rcases Nat.eq_zero_or_pos n3 with rfl | p3 <;> cases rz
    all_goals (
     try (have g1 : (0 : Int) < (n1 : Int) := by omega)
     try (have g2 : (0 : Int) < (n2 : Int) := by omega)
     try (have g3 : (0 : Int) < (n3 : Int) := by omega)
     try rw [decide_eq_true p1] at HR
     try rw [decide_eq_true p2] at HR
     try rw [decide_eq_true p3] at HR
     first
      | (go_enter Tryz.func181, Tryz.ntmps181
         go_wp2_with (first
           | (with_reducible (show wpList _ _ _ (Oper.mk _ (Op.load 41 _) _ _ _ _ :: _) _ _); refine pause ?_)
           | (go_at_call 173; refine CA.mono ?_; rintro e w' ⟨rfl, rfl⟩))
         unfold Paused
         refine wpList_mid_w (by rfl) 41 (.tmp 24) (by rfl) w.heap.size 3 (by rfl) _ _ M1.out Tryz.underlying41 (by rfl) N1.out ?_
         have q1 := HQ.out
         rw [hz] at q1
         go_wp2_with (go_at_call 173; refine CA.mono ?_; rintro e w' ⟨rfl, rfl⟩)
         go_ret
         exact ⟨by rw [← HR.out]; rfl, HBE.out⟩)
      | (go_enter Tryz.func181, Tryz.ntmps181
         go_wp2
         go_ret
         exact ⟨by rw [← HR.out]; rfl, HBE.out⟩))
  all_goals (
    subst hk
    rcases Nat.eq_zero_or_pos n1 with rfl | p1 <;> rcases Nat.eq_zero_or_pos n2 with rfl | p2 <;> rcases Nat.eq_zero_or_pos n3 with rfl | p3 <;> cases rz
    all_goals (
     try (have g1 : (0 : Int) < (n1 : Int) := by omega)
     try (have g2 : (0 : Int) < (n2 : Int) := by omega)
     try (have g3 : (0 : Int) < (n3 : Int) := by omega)
     try rw [decide_eq_true p1] at HR
     try rw [decide_eq_true p2] at HR
     try rw [decide_eq_true p3] at HR
     first
      | (go_enter Tryz.func181, Tryz.ntmps181
         go_wp2_with (first
           | (with_reducible (show wpList _ _ _ (Oper.mk _ (Op.load 41 _) _ _ _ _ :: _) _ _); refine pause ?_)
           | (go_at_call 173; refine CA.mono ?_; rintro e w' ⟨rfl, rfl⟩))
         unfold Paused
         refine wpList_mid_w (by rfl) 41 (.tmp 24) (by rfl) w.heap.size 3 (by rfl) _ _ M1.out Tryz.underlying41 (by rfl) N1.out ?_
         have q1 := HQ.out
         rw [hz] at q1
         go_wp2_with (go_at_call 173; refine CA.mono ?_; rintro e w' ⟨rfl, rfl⟩)
         go_ret
         exact ⟨by rw [← HR.out]; rfl, HBE.out⟩)
      | (go_enter Tryz.func181, Tryz.ntmps181
         go_wp2
         go_ret
         exact ⟨by rw [← HR.out]; rfl, HBE.out⟩)))
end Go.Proofs.YtgcgomdhdgjpdaaGreatDoor
