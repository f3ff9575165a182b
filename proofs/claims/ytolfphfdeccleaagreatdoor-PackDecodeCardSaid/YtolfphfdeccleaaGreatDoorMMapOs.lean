/- Maps from ids to any values, as functions: as maps from whole numbers (MapF). -/
import Derived.Test.YtolfphfdeccleaaGreatDoorMOct14s
import Derived.Maps.OwnSet
import Derived.DeepKeys4
import Derived.Test.YtolfphfdeccleaaGreatDoorMOb26s
namespace Go.Proofs.YtolfphfdeccleaaGreatDoor
open Go Go.RowKit Go.Maps
/-- every value reads as itself -/
def selfO (v : Value) : Option (DataW Value × List MemPlace) := some (.held v, [])
theorem selfO_mk (v : Value) : selfO v = some (.held v, []) := by unfold selfO; rfl
theorem oid_law : Keyed Tryz.prog 49 :=
  Keyed.of_law (deep_law_laid (by kernel_rfl) (m := 2) (by omega) (by rw [show Tryz.prog.types.size = 239 from by kernel_rfl]; decide) (by kernel_rfl) (by rw [Tryz.underlying49]))
/-- what an id reads as -/
def oidKey (xs : List Nat) : Lit := .string (keyBytes (xs.map fun (n : Nat) => Lit.int .u8 (n : Int)))
theorem mapM_all {α β : Type} {f : α → Option β} {g : α → β} : ∀ (l : List α), (∀ a ∈ l, f a = some (g a)) → l.mapM f = some (l.map g)
  | [], _ => rfl
  | a :: l, h => by
    rw [List.mapM_cons, h a (by simp), mapM_all l (fun b hb => h b (by simp [hb]))]
    rfl
theorem flatten_ones {α β : Type} (g : α → β) : ∀ (l : List α), (l.map fun a => [g a]).flatten = l.map g
  | [] => rfl
  | a :: l => by rw [List.map_cons, List.flatten_cons, flatten_ones g l]; rfl
theorem u8_wf {x : Nat} (h : x < 256) : (Lit.int .u8 (x : Int)).wf = true := by
  show (decide ((0 : Int) ≤ (x : Int)) && decide ((x : Int) ≤ 255)) = true
  rw [decide_eq_true (by omega), decide_eq_true (by omega)]
  rfl
theorem key_lits {cs : List Value} {m c : Nat} (hl : cs.length = c) (hc : Tryz.prog.cellsOf 49 = c) :
    Tryz.prog.keyLits (m + 1) 49 cs = ((List.range 32).mapM fun i => Tryz.prog.keyLits m 5 ((cs.drop (i * Tryz.prog.cellsOf 5)).take (Tryz.prog.cellsOf 5))).map List.flatten := by
  simp only [Program.keyLits, Tryz.underlying49]
  rw [if_pos (by rw [hl, hc])]
theorem oid_key {xs : List Nat} (h : Id32 xs) : keyOf Tryz.prog 49 (.agg (u8s xs)) = some (oidKey xs) := by
  obtain ⟨hl, hb⟩ := h
  have hc : Tryz.prog.cellsOf 49 = 32 := by kernel_rfl
  have hc1 : Tryz.prog.cellsOf 5 = 1 := by kernel_rfl
  have hk : Tryz.prog.keyType 49 = true := by kernel_rfl
  have hf : (Value.agg (u8s xs)).formed Tryz.prog 49 = true := by
    unfold Value.formed
    rw [Tryz.underlying49]
    simp only
    rw [u8s_size, hl, hc]
    rfl
  obtain ⟨m, hm⟩ : ∃ m, Tryz.prog.types.size = m + 1 := ⟨239 - 1, by kernel_rfl⟩
  have hlen : (Value.agg (u8s xs)).cells.toList.length = 32 := by
    show (u8s xs).toList.length = 32
    simp [u8s, hl]
  have hget : ∀ i, i < 32 → ((Value.agg (u8s xs)).cells.toList.drop (i * 1)).take 1 = [Value.int .u8 ((xs.getD i 0 : Nat) : Int)] := fun i hi => by
    show ((u8s xs).toList.drop (i * 1)).take 1 = _
    rw [Nat.mul_one]
    have e : (u8s xs).toList = xs.map fun (n : Nat) => Value.int .u8 (n : Int) := by simp [u8s]
    have e1 : (xs.drop i).take 1 = [xs.getD i 0] := by
      rw [List.drop_eq_getElem_cons (by omega), List.take_succ_cons, List.take_zero]
      simp [List.getD, hl, hi]
    rw [e, ← List.map_drop, ← List.map_take, e1]
    rfl
  have hone : ∀ i ∈ List.range 32, Tryz.prog.keyLits Tryz.prog.types.size 5 (((Value.agg (u8s xs)).cells.toList.drop (i * 1)).take 1) = some [Lit.int .u8 ((xs.getD i 0 : Nat) : Int)] := fun i hi => by
    have h := hb i
    rw [hget i (List.mem_range.1 hi), hm]
    generalize xs.getD i 0 = y at h ⊢
    have hw : (Lit.int .u8 (y : Int)).wf = true := u8_wf h
    simp [Program.keyLits, Tryz.underlying5, hw]
  unfold keyOf
  rw [Tryz.underlying49]
  simp only
  rw [hk, hf]
  simp only [Bool.and_self, if_true]
  rw [key_lits hlen hc, hc1, mapM_all (g := fun i => [Lit.int .u8 ((xs.getD i 0 : Nat) : Int)]) _ hone]
  simp only [Option.map_some]
  rw [flatten_ones]
  unfold oidKey
  have e : (List.range 32).map (fun i => Lit.int .u8 ((xs.getD i 0 : Nat) : Int)) = xs.map fun (n : Nat) => Lit.int .u8 (n : Int) := by
    apply List.ext_getElem
    · simp [hl]
    · intro i h1 h2
      simp at h1
      simp [List.getD, hl, h1]
  rw [e]
theorem oidKey_lit {xs : List Nat} (h : Id32 xs) : WideAt.IsKeyLit (oidKey xs) := oid_law.key (oid_key h)
theorem oidKey_ne {xs ys : List Nat} (hx : Id32 xs) (hy : Id32 ys) (h : ys ≠ xs) : oidKey ys ≠ oidKey xs := fun e => by
  have h1 := oid_key hx
  have h2 := oid_key hy
  rw [e] at h2
  have h3 := oid_law.inj h2 h1
  injection h3 with h3
  refine h ?_
  have e2 := congrArg Array.toList h3
  simp only [u8s] at e2
  apply List.ext_getElem
  · have := congrArg List.length e2; simpa using this
  · intro i i1 i2
    have := congrArg (fun l => l[i]?) e2
    simp [i1, i2] at this
    omega
/-- Block b is a map of at most n entries: f. -/
def MapO (w : World) (b n : Nat) (f : List Nat → Option Value) : Prop :=
  ∃ D : DataW Value, w.ownsMap Tryz.prog 49 selfO b n D ∧ ∀ xs, Id32 xs → has D (oidKey xs) = (f xs).isSome ∧ ∀ z, D.atKey (oidKey xs) (.held z) = .held ((f xs).getD z)
def updO (f : List Nat → Option Value) (x : List Nat) (v : Value) : List Nat → Option Value := fun y => if y = x then some v else f y
section
variable {w w' : World} {b n : Nat} {f : List Nat → Option Value} {t e : TypeId} {z : Value} {x : List Nat}
theorem MapO.made (w : World) : MapO (w.alloc (.map #[] 0)) w.heap.size 0 (fun _ => none) := ⟨_, World.ownsMap_made w _ _ _, fun _i _ => ⟨rfl, fun _ => rfl⟩⟩
theorem MapO.lt (h : MapO w b n f) : b < w.heap.size := by obtain ⟨D, h, _⟩ := h; exact h.lt
theorem MapO.mono (h : MapO w b n f) {n' : Nat} (hn : n ≤ n') : MapO w b n' f := by obtain ⟨D, h, k⟩ := h; exact ⟨D, h.mono hn, k⟩
theorem MapO.kept {row : Option Nat} (h : MapO w b n f) (hg : w.grownBy w' row) (hne : some b ≠ row) : MapO w' b n f := by obtain ⟨D, h, k⟩ := h; exact ⟨D, h.kept hg hne, k⟩
theorem MapO.below (h : MapO w b n f) (hb : Below w.heap.size w w') : MapO w' b n f := h.kept (only_of_below hb none) (by simp)
theorem MapO.block (h : MapO w b n f) (e : w'.heap[b]? = w.heap[b]?) : MapO w' b n f := by
  obtain ⟨D, ⟨es, clock, h1, h2, h3, h4⟩, k⟩ := h
  exact ⟨D, ⟨es, clock, e.trans h1, h2, h3, h4⟩, k⟩
theorem MapO.is (h : MapO w b n f) : ∃ es clock, w.heap[b]? = some (.map es clock) := by
  obtain ⟨D, ⟨es, clock, h1, _⟩, k⟩ := h
  exact ⟨es, clock, h1⟩
theorem MapO.ext (h : MapO w b n f) {g : List Nat → Option Value} (hg : ∀ x, Id32 x → f x = g x) : MapO w b n g := by
  obtain ⟨D, h1, k⟩ := h
  exact ⟨D, h1, fun x hx => by rw [← hg x hx]; exact k x hx⟩
theorem MapO.look_ok (h : MapO w b n f) (ht : Tryz.prog.underlying t = some (.map 49 e)) (hz : (zeroValue e).run Tryz.prog w = .ok z w) (hi : Id32 x) :
    (Instr.lookup t (.map (some b)) (.agg (u8s x)) true).run Tryz.prog w = .ok (.tuple #[(f x).getD z, .bool (f x).isSome]) w := by
  obtain ⟨D, h, k⟩ := h
  obtain ⟨v, ps, hrun, hv⟩ := h.look_ok oid_law ht hz (zd := .held z) (zp := []) (selfO_mk z) (oid_key hi)
  have e0 : DataW.held v = D.atKey (oidKey x) (.held z) := congrArg Prod.fst (Option.some.inj hv)
  rw [(k x hi).2 z] at e0
  have e1 := DataW.held.inj e0
  rw [hrun, e1, (k x hi).1]
theorem MapO.store (h : MapO w b n f) (ht : Tryz.prog.underlying t = some (.map 49 e)) (hn : n < maxLen) (hi : Id32 x) (v : Value) :
    ∃ w', (Instr.mapUpdate t (.map (some b)) (.agg (u8s x)) v).run Tryz.prog w = .ok () w' ∧ MapO w' b (n + 1) (updO f x v) ∧ w.grownBy w' (some b) := by
  obtain ⟨D, h, k⟩ := h
  obtain ⟨w', hrun, h2, hg⟩ := h.update oid_law ht hn (oid_key hi) (val := v) (d := .held v) (ps := []) (selfO_mk v)
  refine ⟨w', hrun, ⟨_, h2, fun y hy => ?_⟩, hg⟩
  unfold updO
  by_cases hyx : y = x
  · subst hyx
    rw [if_pos rfl]
    exact ⟨has_put_same h.isMap (oidKey_lit hi) _, fun z => atKey_put_same h.isMap (oidKey_lit hi) _ _⟩
  · rw [if_neg hyx]
    exact ⟨by rw [has_put_other (oidKey_ne hi hy hyx)]; exact (k y hy).1, fun z => by rw [atKey_put_other (oidKey_ne hi hy hyx)]; exact (k y hy).2 z⟩
end
end Go.Proofs.YtolfphfdeccleaaGreatDoor
/- object.read: no bytes, letters of no kind, blobs, tags. -/
namespace Go.Proofs.YtolfphfdeccleaaGreatDoor
open Go Go.RowKit
theorem InAt.all {w0 w : World} {i r : Nat} {xs : List Nat} (h : InAt w0 w i r xs) : r < w.heap.size ∧ i < w.heap.size ∧ w0.heap.size ≤ w.heap.size := by
  obtain ⟨v, k, hr, hw, h1, h3⟩ := h
  exact ⟨k.r_.lt, k.i_.lt, hw.size⟩
theorem Rst.start {w0 w w3 : World} {i r : Nat} {xs ys : List Nat} {cs : Array Value} (h : InAt w0 w i r xs) (hg : (w.alloc (.cells zOc 145)).grownBy w3 (some r)) (hi : InAt w0 w3 i r ys) {w4 : World} (h4 : w4 = (w3.alloc (.cells zOc 145)).setRow w3.heap.size cs) : Rst w0 w w4 i r w3.heap.size cs ys := by
  have hb : Below w3.heap.size w3 w4 := h4 ▸ below_row ((Below.refl _ _).alloc (Nat.le_refl _) _) (Nat.le_refl _) _
  have ha := h.all
  have hsz : w.heap.size + 1 ≤ w3.heap.size := by have := hg.size; simpa using this
  have hres : Blk w3 w.heap.size 145 zOc := (Blk.new w 145 zOc).grown hg (fun e => by injection e with e; omega)
  refine ⟨hi.below hb, h4 ▸ (Blk.new w3 145 zOc).row cs, hres.below hb hres.lt, ?_, ⟨ha.1, ha.2.1⟩, by omega⟩
  exact (Kpt.of_below ((Below.refl _ _).alloc (Nat.le_refl _) _)).trans ((Kpt.of_grown (S := fun b => b = r) hg rfl).trans (Kpt.of_below hb))
theorem Rst.done {w0 w w' w'' : World} {i r g : Nat} {cs : Array Value} {ys : List Nat} (h : Rst w0 w w' i r g cs ys) (hg : w'.grownBy w'' (some w.heap.size)) : InAt w0 w'' i r ys ∧ Kpt (fun b => b = r) w w'' := by
  obtain ⟨v, k, hr, hw, h1, h2⟩ := h.at_
  have := h.old.1
  have := h.old.2
  refine ⟨⟨v, ⟨k.i_.grown hg (fun e => by injection e with e; omega), k.r_.grown hg (fun e => by injection e with e; omega), k.ne⟩, hr, below_of_only hw hg (by omega), h1, h2⟩, ?_⟩
  exact ⟨hg.os.trans h.kpt.os, hg.tape.trans h.kpt.tape, hg.output.trans h.kpt.output, Nat.le_trans h.kpt.size hg.size, fun b hb hs => (hg.block b (Nat.lt_of_lt_of_le hb h.kpt.size) (fun e => by injection e with e; omega)).trans (h.kpt.block b hb hs)⟩
theorem ObO.below {m : Nat} {w w' : World} {o : Ob} {cs : Array Value} {T E P : Option Addr} {tc ec pc : Nat} (h : ObO m w o cs T tc E ec P pc) (hb : Below w.heap.size w w') : ObO m w' o cs T tc E ec P pc :=
  h.kept (Kpt.of_below hb)
theorem ObO.store {m g : Nat} {w w' : World} {o : Ob} {cs : Array Value} {T E P : Option Addr} {tc ec pc : Nat} (h : ObO (g + 1) w o cs T tc E ec P pc) (hm : m < g) (hg : w.grownBy w' (some m)) : ObO m w' o cs T tc E ec P pc :=
  ⟨h.cells, own_low (h.text.kept hg (own_far h.text (by omega))) (by omega), own_low (h.ents.kept hg (own_far h.ents (by omega))) (by omega), own_low (h.pars.kept hg (own_far h.pars (by omega))) (by omega)⟩
theorem ObO.one {m : Nat} {w : World} {o : Ob} {cs : Array Value} {T E P : Option Addr} {tc ec pc : Nat} (h : ObO m w o cs T tc E ec P pc) : cs.all (·.oneCell') = true := by
  rw [h.cells]
  refine arr_one fun v hv => ?_
  unfold cellsOb at hv
  rcases List.mem_cons.1 hv with rfl | hv; · rfl
  rcases List.mem_cons.1 hv with rfl | hv; · rfl
  rcases List.mem_cons.1 hv with rfl | hv; · rfl
  rcases List.mem_append.1 hv with hv | hv
  · exact cellsB_one _ v hv
  · rw [List.mem_singleton.1 hv]; rfl
abbrev kindS : ByteArray := ⟨#[98, 116, 99, 103]⟩
theorem kind_not : ∀ c : Fin 256, c.val ≠ 98 → c.val ≠ 116 → c.val ≠ 99 → c.val ≠ 103 → Lib.indexByte kindS.data.toList (((c.val : Nat) : Int).toNat.toUInt8) = -1 := by decide +kernel
theorem kind_at (c : Nat) (k : Int) (hk : Lib.indexByte kindS.data.toList (((c : Nat) : Int).toNat.toUInt8) = k) (w : World) : Calls Tryz.prog 91 #[.string kindS, .int .u8 (c : Int)] w fun e w' => e = .returned (.int .i64 k) ∧ w = w' :=
  (Any.strings_IndexByte ixb_lays kindS (c : Int) w).mono fun e w' h => by rw [hk] at h; exact ⟨h.1, h.2.symm⟩
theorem byte_of {xs : List Nat} (h : Oc.bytes xs) : Sha.Byte xs := fun i => by
  rcases Nat.lt_or_ge i xs.length with h1 | h1
  · rw [List.getD, List.getElem?_eq_getElem h1]
    exact h _ (List.getElem_mem h1)
  · rw [List.getD, List.getElem?_eq_none h1]; show 0 < 256; omega
theorem bytes_tail {c : Nat} {ys : List Nat} (h : Oc.bytes (c :: ys)) : Oc.bytes ys := fun x hx => h x (List.mem_cons_of_mem _ hx)
theorem id_take {ys : List Nat} (h : Oc.bytes ys) (hl : 32 ≤ ys.length) : Id32 (ys.take 32) := ⟨by rw [List.length_take]; omega, byte_of (Oc.bytes_take h 32)⟩
set_option maxRecDepth 100000 in
theorem oread_nil (i r : Nat) (a : Nat → Addr) (w0 w : World) (h : InAt w0 w i r []) (hS : PSents w0 a) :
    Calls Tryz.prog 87 #[.pointer (some ⟨i, 0, none⟩)] w fun e w' => ReadPost [] a w0 w i r e w' := by
  have hb : Below w.heap.size w (w.alloc (.cells zOc 145)) := (Below.refl _ _).alloc (Nat.le_refl _) _
  have CN := ibyte_short i r (a 1) w0 (w.alloc (.cells zOc 145)) (h.below hb) hS.1
  have HB := Lib.hid hb
  clear h hS hb
  go_enter Tryz.func87, Tryz.ntmps87
  go_wp2_with (go_at_call 34; refine pause ?_)
  unfold Paused
  change Calls _ _ _ (w.alloc (.cells zOc 145)) _
  refine CN.mono ?_
  rintro e w3 ⟨rfl, hd, hg⟩
  exact ⟨rfl, post_bad (c := 2) rfl ⟨rfl, hd, (Kpt.of_below HB.out).trans (Kpt.of_grown (S := fun b => b = r) hg rfl)⟩⟩
set_option maxRecDepth 100000 in
set_option maxHeartbeats 2000000 in
theorem oread_kind (i r : Nat) (c : Nat) (ys : List Nat) (a : Nat → Addr) (w0 w : World) (h : InAt w0 w i r (c :: ys)) (hb : Oc.bytes (c :: ys)) (hz : (c :: ys).length ≤ 300) (hS : PSents w0 a) (n1 : c ≠ 98) (n2 : c ≠ 116) (n3 : c ≠ 99) (n4 : c ≠ 103) :
    Calls Tryz.prog 87 #[.pointer (some ⟨i, 0, none⟩)] w fun e w' => ReadPost (c :: ys) a w0 w i r e w' := by
  have hc := hb c (List.mem_cons_self ..)
  have CI : ∀ w, Calls Tryz.prog 91 #[.string kindS, .int .u8 (c : Int)] w _ := fun w => kind_at c (-1) (kind_not ⟨c, hc⟩ n1 n2 n3 n4) w
  have q1 := small_conv c hc
  have HP := Lib.hid (show Ob.parse (c :: ys) = .bad 7 by simp only [Ob.parse, if_neg n1, if_neg n2, if_neg n3, if_neg n4])
  clear n1 n2 n3 n4
  have CN := ibyte_ok i r c ys w0 (w.alloc (.cells zOc 145)) (h.below ((Below.refl _ _).alloc (Nat.le_refl _) _)) hb
  have HB := Lib.hid hb
  have HZ := Lib.hid hz
  have HS := Lib.hid hS
  have HIN := Lib.hid h
  clear h hb hz hS
  go_enter Tryz.func87, Tryz.ntmps87
  go_wp2_with (go_at_call 34; refine pause ?_)
  unfold Paused
  change Calls _ _ _ (w.alloc (.cells zOc 145)) _
  refine CN.mono ?_
  rintro e w3 ⟨rfl, hi, hg⟩
  have HI3 := Lib.hid hi
  have HG3 := Lib.hid hg
  clear hi hg CN
  go_wp2_with (first
    | (go_at_call 91; refine (CI _).mono ?_; rintro e w' ⟨rfl, rfl⟩)
    | (with_reducible (show wpList _ _ _ (Oper.mk _ (Op.build _ _) _ _ _ _ :: _) _ _); refine pause ?_))
  unfold Paused
  refine wpList_buildK (by rfl) 145 _ (by rfl) _ (by kernel_rfl) _ (obj_built 0) ?_
  go_wp2_with (with_reducible (show wpList _ _ _ (Oper.mk _ (Op.store 145 _ _) _ _ _ _ :: _) _ _); refine pause ?_)
  unfold Paused
  change wpList _ _ _ _ _ (w3.alloc (.cells zOc 145))
  refine wpList_store_row (by rfl) 145 (.tmp 3) (.tmp 10) (by rfl) w3.heap.size (cellsOb 0 nilV nilV nilV zid).toArray (by rfl) (by rfl) 145 zOc (Blk.new w3 _ _) (by kernel_rfl) (by kernel_rfl) (by kernel_rfl) ?_
  have HRS := Lib.hid (Rst.start HIN.out HG3.out HI3.out (cs := (cellsOb 0 nilV nilV nilV zid).toArray) rfl)
  generalize World.setRow _ w3.heap.size (cellsOb 0 nilV nilV nilV zid).toArray = w4 at HRS ⊢
  generalize w3.heap.size = g at HRS ⊢
  have a0 : w4.cell? ⟨g, 0, none⟩ = some (.int .i64 0) := HRS.out.ob.cell 0
  clear CI
  obtain ⟨vq, kq, hrq, hwq, _, _⟩ := HRS.out.at_
  have pK := (HS.out.at_ hwq).2.2
  have CF := fail_any i r vq (a 6) w4 kq
  clear kq hrq hwq q1
  go_wp2_with (go_at_call 35; refine CF.mono ?_; rintro e w9 ⟨rfl, hd, hg⟩)
  exact ⟨rfl, post_bad HP.out (HRS.out.fails ⟨rfl, hd, hg⟩)⟩
set_option maxRecDepth 100000 in
set_option maxHeartbeats 2000000 in
theorem oread_blob (i r : Nat) (ys : List Nat) (a : Nat → Addr) (w0 w : World) (h : InAt w0 w i r (98 :: ys)) (hb : Oc.bytes (98 :: ys)) (hz : (98 :: ys).length ≤ 300) (hS : PSents w0 a) :
    Calls Tryz.prog 87 #[.pointer (some ⟨i, 0, none⟩)] w fun e w' => ReadPost (98 :: ys) a w0 w i r e w' := by
  have CI : ∀ w, Calls Tryz.prog 91 #[.string kindS, .int .u8 98] w _ := fun w => kind_at 98 0 (by decide +kernel) w
  have CN := ibyte_ok i r 98 ys w0 (w.alloc (.cells zOc 145)) (h.below ((Below.refl _ _).alloc (Nat.le_refl _) _)) hb
  have HB := Lib.hid hb
  have HZ := Lib.hid hz
  have HS := Lib.hid hS
  have HIN := Lib.hid h
  clear h hb hz hS
  go_enter Tryz.func87, Tryz.ntmps87
  go_wp2_with (go_at_call 34; refine pause ?_)
  unfold Paused
  change Calls _ _ _ (w.alloc (.cells zOc 145)) _
  refine CN.mono ?_
  rintro e w3 ⟨rfl, hi, hg⟩
  have HI3 := Lib.hid hi
  have HG3 := Lib.hid hg
  clear hi hg CN
  go_wp2_with (first
    | (go_at_call 91; refine (CI _).mono ?_; rintro e w' ⟨rfl, rfl⟩)
    | (with_reducible (show wpList _ _ _ (Oper.mk _ (Op.build _ _) _ _ _ _ :: _) _ _); refine pause ?_))
  unfold Paused
  refine wpList_buildK (by rfl) 145 _ (by rfl) _ (by kernel_rfl) _ (obj_built 1) ?_
  go_wp2_with (with_reducible (show wpList _ _ _ (Oper.mk _ (Op.store 145 _ _) _ _ _ _ :: _) _ _); refine pause ?_)
  unfold Paused
  change wpList _ _ _ _ _ (w3.alloc (.cells zOc 145))
  refine wpList_store_row (by rfl) 145 (.tmp 3) (.tmp 10) (by rfl) w3.heap.size (cellsOb 1 nilV nilV nilV zid).toArray (by rfl) (by rfl) 145 zOc (Blk.new w3 _ _) (by kernel_rfl) (by kernel_rfl) (by kernel_rfl) ?_
  have HRS := Lib.hid (Rst.start HIN.out HG3.out HI3.out (cs := (cellsOb 1 nilV nilV nilV zid).toArray) rfl)
  generalize World.setRow _ w3.heap.size (cellsOb 1 nilV nilV nilV zid).toArray = w4 at HRS ⊢
  generalize w3.heap.size = g at HRS ⊢
  have a0 : w4.cell? ⟨g, 0, none⟩ = some (.int .i64 1) := HRS.out.ob.cell 0
  clear CI
  have HYB := Lib.hid (bytes_tail HB.out)
  have HYL : Hid (ys.length ≤ 1000000) := Lib.hid (by have := HZ.out; simp only [List.length_cons] at this; omega)
  have CL := left_any i r ys w0 w4 HRS.out.at_
  have CX := onext_ok i r ys.length ys w0 w4 HRS.out.at_ HYB.out (Nat.le_refl _) HYL.out
  rw [List.take_of_length_le (Nat.le_refl _), List.drop_of_length_le (Nat.le_refl _)] at CX
  go_wp2_with (first
    | (go_at_call 100; refine CL.mono ?_; rintro e w' ⟨rfl, rfl⟩)
    | (go_at_call 99; refine pause ?_))
  unfold Paused
  refine CX.mono ?_
  rintro e w6 ⟨v, rfl, hv, hi, hg⟩
  obtain ⟨T, tc, rfl⟩ := own_slice hv
  have HV := Lib.hid (own_low hv (m' := g + 1) HRS.out.ob.lt)
  have HR6 := Lib.hid (HRS.out.read hg hi)
  have q1 : w6.cell? ⟨g, 1, none⟩ = some nilV := HR6.out.ob.cell 1
  have z1 : w6.frozen? ⟨g, 1, none⟩ = false := HR6.out.ob.frozen 1
  have HR7 : Hid (Rst w0 w (w6.setCell ⟨g, 1, none⟩ (.slice T ys.length tc)) i r g (cellsOb 1 (.slice T ys.length tc) nilV nilV zid).toArray []) := Lib.hid (HR6.out.put (grown_cell _ _ _ _) (by have := HR6.out.ob.set_ 1 (.slice T ys.length tc); rwa [cellsOb_k1] at this))
  have HO7 : Hid (ObO (g + 1) (w6.setCell ⟨g, 1, none⟩ (.slice T ys.length tc)) ⟨1, ys, [], zid, []⟩ (cellsOb 1 (.slice T ys.length tc) nilV nilV zid).toArray T tc none 0 none 0) := Lib.hid ⟨rfl, HV.out.kept (grown_cell _ _ _ _) (own_far HV.out (Nat.lt_succ_self g)), World.ownsRow_nil _ _ _ _, World.ownsRow_nil _ _ _ _⟩
  have HFT : Hid (Ob.Fit ⟨1, ys, [], zid, []⟩) := Lib.hid ⟨byte_of HYB.out, fun _ h => (by cases h), zid_id, fun _ h => (by cases h)⟩
  have HHD : Hid (Ob.Held ⟨1, ys, [], zid, []⟩) := Lib.hid ⟨fun _ h => (by cases h), by have := HYL.out; show ys.length ≤ _; omega⟩
  have HPR : Hid (Ob.parse (98 :: ys) = Prs.fin ⟨1, ys, [], zid, []⟩) := Lib.hid rfl
  clear hv hi hg CL CX
  go_wp2_with (with_reducible (show wpList _ _ _ (Oper.mk _ (Op.load 145 _) _ _ _ _ :: _) _ _); refine pause ?_)
  unfold Paused
  generalize w6.setCell ⟨g, 1, none⟩ (.slice T ys.length tc) = w7 at HR7 HO7 ⊢
  have CR := right_any _ _ _ _ _ _ _ _ w7 HO7.out.obc HFT.out HHD.out
  obtain ⟨br, hbr⟩ : ∃ br, br = Ob.right ⟨1, ys, [], zid, []⟩ := ⟨_, rfl⟩
  rw [← hbr] at CR
  have HBR := Lib.hid hbr
  clear hbr
  refine wpList_row_w (by rfl) 145 (.tmp 3) (by rfl) g (by rfl) 145 _ _ HR7.out.ob Tryz.underlying145 (by rfl) (by rw [cellsOb_size _ _ _ _ _ HFT.out.target.1]; kernel_rfl) ?_
  go_wp2_with (go_at_call 101; refine pause ?_)
  unfold Paused
  refine CR.mono ?_
  rintro e w8 ⟨rfl, hb8⟩
  have HRS8 := Lib.hid (HR7.out.below hb8)
  have HOO8 := Lib.hid (HO7.out.below hb8)
  clear hb8 CR
  cases br
  · obtain ⟨vq, kq, hrq, hwq, _, _⟩ := HRS8.out.at_
    have pF := (HS.out.at_ hwq).2.1
    have CF := fail_any i r vq (a 3) w8 kq
    have HPX := Lib.hid (HPR.out.trans (show Prs.fin ⟨1, ys, [], zid, []⟩ = .bad 4 by unfold Prs.fin; rw [← HBR.out]; rfl))
    clear kq hrq hwq
    go_wp2_with (go_at_call 35; refine CF.mono ?_; rintro e w9 ⟨rfl, hd, hg⟩)
    exact ⟨rfl, post_bad HPX.out (HRS8.out.fails ⟨rfl, hd, hg⟩)⟩
  · have HPX := Lib.hid (HPR.out.trans (show Prs.fin ⟨1, ys, [], zid, []⟩ = .ok ⟨1, ys, [], zid, []⟩ by unfold Prs.fin; rw [← HBR.out]; rfl))
    go_wp2_with (with_reducible (show wpList _ _ _ (Oper.mk _ (Op.load 145 _) _ _ _ _ :: _) _ _); refine pause ?_)
    unfold Paused
    refine wpList_row_w (by rfl) 145 (.tmp 3) (by rfl) g (by rfl) 145 _ _ HRS8.out.ob Tryz.underlying145 (by rfl) (by rw [cellsOb_size _ _ _ _ _ HFT.out.target.1]; kernel_rfl) ?_
    refine wpList_store_row (by rfl) 145 (.tmp 2) (.tmp 80) (by rfl) w.heap.size _ (by rfl) (by rfl) 145 zOc HRS8.out.res (by rw [cellsOb_size _ _ _ _ _ HFT.out.target.1]; kernel_rfl) (by rw [cellsOb_size _ _ _ _ _ HFT.out.target.1]; rfl) (ObO.one HOO8.out) ?_
    have HB9 := Lib.hid (HRS8.out.res.row (cellsOb 1 (.slice T ys.length tc) nilV nilV zid).toArray)
    have HG9 := Lib.hid (show w8.grownBy (w8.setRow w.heap.size (cellsOb 1 (.slice T ys.length tc) nilV nilV zid).toArray) (some w.heap.size) from only_setRow (World.grownBy.refl w8 _) (Or.inl rfl) _)
    generalize World.setRow _ w.heap.size (cellsOb 1 (.slice T ys.length tc) nilV nilV zid).toArray = w9 at HB9 HG9 ⊢
    go_wp2
    exact bodyPost_ret (v := .agg (cellsOb 1 (.slice T ys.length tc) nilV nilV zid).toArray) (resultsO (t := 2) rfl (by rfl) HB9.out (cellsOb_size _ _ _ _ _ HFT.out.target.1)) rfl (post_ok HPX.out rfl HFT.out HHD.out (HOO8.out.store HRS8.out.gt HG9.out) (HRS8.out.done HG9.out).1 (HRS8.out.done HG9.out).2)
set_option maxRecDepth 100000 in
set_option maxHeartbeats 2000000 in
theorem oread_tag0 (i r : Nat) (ys : List Nat) (a : Nat → Addr) (w0 w : World) (h : InAt w0 w i r (103 :: ys)) (hb : Oc.bytes (103 :: ys)) (hz : (103 :: ys).length ≤ 300) (hS : PSents w0 a) (hs : ys.length < 32) :
    Calls Tryz.prog 87 #[.pointer (some ⟨i, 0, none⟩)] w fun e w' => ReadPost (103 :: ys) a w0 w i r e w' := by
  have CI : ∀ w, Calls Tryz.prog 91 #[.string kindS, .int .u8 103] w _ := fun w => kind_at 103 3 (by decide +kernel) w
  have HSH := Lib.hid hs
  clear hs
  have CN := ibyte_ok i r 103 ys w0 (w.alloc (.cells zOc 145)) (h.below ((Below.refl _ _).alloc (Nat.le_refl _) _)) hb
  have HB := Lib.hid hb
  have HZ := Lib.hid hz
  have HS := Lib.hid hS
  have HIN := Lib.hid h
  clear h hb hz hS
  go_enter Tryz.func87, Tryz.ntmps87
  go_wp2_with (go_at_call 34; refine pause ?_)
  unfold Paused
  change Calls _ _ _ (w.alloc (.cells zOc 145)) _
  refine CN.mono ?_
  rintro e w3 ⟨rfl, hi, hg⟩
  have HI3 := Lib.hid hi
  have HG3 := Lib.hid hg
  clear hi hg CN
  go_wp2_with (first
    | (go_at_call 91; refine (CI _).mono ?_; rintro e w' ⟨rfl, rfl⟩)
    | (with_reducible (show wpList _ _ _ (Oper.mk _ (Op.build _ _) _ _ _ _ :: _) _ _); refine pause ?_))
  unfold Paused
  refine wpList_buildK (by rfl) 145 _ (by rfl) _ (by kernel_rfl) _ (obj_built 4) ?_
  go_wp2_with (with_reducible (show wpList _ _ _ (Oper.mk _ (Op.store 145 _ _) _ _ _ _ :: _) _ _); refine pause ?_)
  unfold Paused
  change wpList _ _ _ _ _ (w3.alloc (.cells zOc 145))
  refine wpList_store_row (by rfl) 145 (.tmp 3) (.tmp 10) (by rfl) w3.heap.size (cellsOb 4 nilV nilV nilV zid).toArray (by rfl) (by rfl) 145 zOc (Blk.new w3 _ _) (by kernel_rfl) (by kernel_rfl) (by kernel_rfl) ?_
  have HRS := Lib.hid (Rst.start HIN.out HG3.out HI3.out (cs := (cellsOb 4 nilV nilV nilV zid).toArray) rfl)
  generalize World.setRow _ w3.heap.size (cellsOb 4 nilV nilV nilV zid).toArray = w4 at HRS ⊢
  generalize w3.heap.size = g at HRS ⊢
  have a0 : w4.cell? ⟨g, 0, none⟩ = some (.int .i64 4) := HRS.out.ob.cell 0
  clear CI
  have HPR := Lib.hid (show Ob.parse (103 :: ys) = .bad 2 from (show (if ys.length < 32 then Prs.bad 2 else Prs.fin ⟨4, ys.drop 32, [], ys.take 32, []⟩) = _ from if_pos HSH.out))
  have pS := (HS.out.at_ HRS.out.at_.bel.1).1
  have CO := oid_short i r (a 1) ys w0 w4 HRS.out.at_ HSH.out pS
  go_wp2_with (go_at_call 82; refine CO.mono ?_; rintro e w9 ⟨rfl, hd, hg⟩)
  exact ⟨rfl, post_bad HPR.out (HRS.out.fails ⟨rfl, hd, hg⟩)⟩
set_option maxRecDepth 100000 in
set_option maxHeartbeats 2000000 in
theorem oread_tag (i r : Nat) (ys : List Nat) (a : Nat → Addr) (w0 w : World) (h : InAt w0 w i r (103 :: ys)) (hb : Oc.bytes (103 :: ys)) (hz : (103 :: ys).length ≤ 300) (hS : PSents w0 a) (hs : 32 ≤ ys.length) :
    Calls Tryz.prog 87 #[.pointer (some ⟨i, 0, none⟩)] w fun e w' => ReadPost (103 :: ys) a w0 w i r e w' := by
  have CI : ∀ w, Calls Tryz.prog 91 #[.string kindS, .int .u8 103] w _ := fun w => kind_at 103 3 (by decide +kernel) w
  have HSH := Lib.hid hs
  clear hs
  have CN := ibyte_ok i r 103 ys w0 (w.alloc (.cells zOc 145)) (h.below ((Below.refl _ _).alloc (Nat.le_refl _) _)) hb
  have HB := Lib.hid hb
  have HZ := Lib.hid hz
  have HS := Lib.hid hS
  have HIN := Lib.hid h
  clear h hb hz hS
  go_enter Tryz.func87, Tryz.ntmps87
  go_wp2_with (go_at_call 34; refine pause ?_)
  unfold Paused
  change Calls _ _ _ (w.alloc (.cells zOc 145)) _
  refine CN.mono ?_
  rintro e w3 ⟨rfl, hi, hg⟩
  have HI3 := Lib.hid hi
  have HG3 := Lib.hid hg
  clear hi hg CN
  go_wp2_with (first
    | (go_at_call 91; refine (CI _).mono ?_; rintro e w' ⟨rfl, rfl⟩)
    | (with_reducible (show wpList _ _ _ (Oper.mk _ (Op.build _ _) _ _ _ _ :: _) _ _); refine pause ?_))
  unfold Paused
  refine wpList_buildK (by rfl) 145 _ (by rfl) _ (by kernel_rfl) _ (obj_built 4) ?_
  go_wp2_with (with_reducible (show wpList _ _ _ (Oper.mk _ (Op.store 145 _ _) _ _ _ _ :: _) _ _); refine pause ?_)
  unfold Paused
  change wpList _ _ _ _ _ (w3.alloc (.cells zOc 145))
  refine wpList_store_row (by rfl) 145 (.tmp 3) (.tmp 10) (by rfl) w3.heap.size (cellsOb 4 nilV nilV nilV zid).toArray (by rfl) (by rfl) 145 zOc (Blk.new w3 _ _) (by kernel_rfl) (by kernel_rfl) (by kernel_rfl) ?_
  have HRS := Lib.hid (Rst.start HIN.out HG3.out HI3.out (cs := (cellsOb 4 nilV nilV nilV zid).toArray) rfl)
  generalize World.setRow _ w3.heap.size (cellsOb 4 nilV nilV nilV zid).toArray = w4 at HRS ⊢
  generalize w3.heap.size = g at HRS ⊢
  have a0 : w4.cell? ⟨g, 0, none⟩ = some (.int .i64 4) := HRS.out.ob.cell 0
  clear CI
  have HYB := Lib.hid (bytes_tail HB.out)
  have HPR := Lib.hid (show Ob.parse (103 :: ys) = Prs.fin ⟨4, ys.drop 32, [], ys.take 32, []⟩ from (show (if ys.length < 32 then Prs.bad 2 else Prs.fin ⟨4, ys.drop 32, [], ys.take 32, []⟩) = _ from if_neg (Nat.not_lt.2 HSH.out)))
  have HTI := Lib.hid (id_take HYB.out HSH.out)
  have CO := oid_ok i r ys w0 w4 HRS.out.at_ HSH.out
  have HDB := Lib.hid (Oc.bytes_drop HYB.out 32)
  have HYL : Hid ((ys.drop 32).length ≤ 1000000) := Lib.hid (by have := HZ.out; rw [List.length_drop]; simp only [List.length_cons] at this; omega)
  generalize ys.take 32 = tg at HPR HTI CO
  generalize ys.drop 32 = us at HPR HDB HYL CO
  go_wp2_with (go_at_call 82; refine pause ?_)
  unfold Paused
  refine CO.mono ?_
  rintro e w5 ⟨rfl, hi, hg⟩
  have HR5 := Lib.hid (HRS.out.read hg hi)
  clear hi hg CO
  go_wp2_with (with_reducible (show wpList _ _ _ (Oper.mk _ (Op.store 49 _ _) _ _ _ _ :: _) _ _); refine pause ?_)
  unfold Paused
  refine wpList_store_mid (by rfl) 49 (.tmp 68) (.tmp 67) (by rfl) g 3 (u8s tg) (by rfl) (by rfl) (there_of HR5.out.ob (by rw [cellsOb_size _ _ _ _ _ zid_id.1, u8s_size, HTI.out.1]; omega)) (by rw [u8s_size, HTI.out.1]; exact oid_size) (u8s_one _) ?_
  have HR6 : Hid (Rst w0 w (w5.setCells g 3 (u8s tg).toList) i r g (cellsOb 4 nilV nilV nilV tg).toArray us) := Lib.hid (HR5.out.put (grown_cells g _ 3 w5 w5 (World.grownBy.refl _ _)) (blk_cells (t := 145) [nilV] (u8s tg).toList (cellsB zid) [.int .i64 4, nilV, nilV] 3 w5 (by rw [cellsB_len, zid_id.1, Array.length_toList, u8s_size, HTI.out.1]) rfl HR5.out.ob))
  generalize w5.setCells g 3 (u8s tg).toList = w6 at HR6 ⊢
  have CL := left_any i r us w0 w6 HR6.out.at_
  have CX := onext_ok i r us.length us w0 w6 HR6.out.at_ HDB.out (Nat.le_refl _) HYL.out
  rw [List.take_of_length_le (Nat.le_refl _), List.drop_of_length_le (Nat.le_refl _)] at CX
  go_wp2_with (first
    | (go_at_call 100; refine CL.mono ?_; rintro e w' ⟨rfl, rfl⟩)
    | (go_at_call 99; refine pause ?_))
  unfold Paused
  refine CX.mono ?_
  rintro e w7 ⟨v, rfl, hv, hi, hg⟩
  obtain ⟨T, tc, rfl⟩ := own_slice hv
  have HV := Lib.hid (own_low hv (m' := g + 1) HR6.out.ob.lt)
  have HR7 := Lib.hid (HR6.out.read hg hi)
  have q1 : w7.cell? ⟨g, 1, none⟩ = some nilV := HR7.out.ob.cell 1
  have z1 : w7.frozen? ⟨g, 1, none⟩ = false := HR7.out.ob.frozen 1
  have HR9 : Hid (Rst w0 w (w7.setCell ⟨g, 1, none⟩ (.slice T us.length tc)) i r g (cellsOb 4 (.slice T us.length tc) nilV nilV tg).toArray []) := Lib.hid (HR7.out.put (grown_cell _ _ _ _) (by have := HR7.out.ob.set_ 1 (.slice T us.length tc); rwa [cellsOb_k1] at this))
  have HO9 : Hid (ObO (g + 1) (w7.setCell ⟨g, 1, none⟩ (.slice T us.length tc)) ⟨4, us, [], tg, []⟩ (cellsOb 4 (.slice T us.length tc) nilV nilV tg).toArray T tc none 0 none 0) := Lib.hid ⟨rfl, HV.out.kept (grown_cell _ _ _ _) (own_far HV.out (Nat.lt_succ_self g)), World.ownsRow_nil _ _ _ _, World.ownsRow_nil _ _ _ _⟩
  have HFT : Hid (Ob.Fit ⟨4, us, [], tg, []⟩) := Lib.hid ⟨byte_of HDB.out, fun _ h => (by cases h), HTI.out, fun _ h => (by cases h)⟩
  have HHD : Hid (Ob.Held ⟨4, us, [], tg, []⟩) := Lib.hid ⟨fun _ h => (by cases h), by have := HYL.out; show us.length ≤ _; omega⟩
  clear hv hi hg CL CX
  go_wp2_with (with_reducible (show wpList _ _ _ (Oper.mk _ (Op.load 145 _) _ _ _ _ :: _) _ _); refine pause ?_)
  unfold Paused
  generalize w7.setCell ⟨g, 1, none⟩ (.slice T us.length tc) = wt at HR9 HO9 ⊢
  have CR := right_any _ _ _ _ _ _ _ _ wt HO9.out.obc HFT.out HHD.out
  obtain ⟨br, hbr⟩ : ∃ br, br = Ob.right ⟨4, us, [], tg, []⟩ := ⟨_, rfl⟩
  rw [← hbr] at CR
  have HBR := Lib.hid hbr
  clear hbr
  refine wpList_row_w (by rfl) 145 (.tmp 3) (by rfl) g (by rfl) 145 _ _ HR9.out.ob Tryz.underlying145 (by rfl) (by rw [cellsOb_size _ _ _ _ _ HFT.out.target.1]; kernel_rfl) ?_
  go_wp2_with (go_at_call 101; refine pause ?_)
  unfold Paused
  refine CR.mono ?_
  rintro e w8 ⟨rfl, hb8⟩
  have HRS8 := Lib.hid (HR9.out.below hb8)
  have HOO8 := Lib.hid (HO9.out.below hb8)
  clear hb8 CR
  cases br
  · obtain ⟨vq, kq, hrq, hwq, _, _⟩ := HRS8.out.at_
    have pF := (HS.out.at_ hwq).2.1
    have CF := fail_any i r vq (a 3) w8 kq
    have HPX := Lib.hid (HPR.out.trans (show Prs.fin ⟨4, us, [], tg, []⟩ = .bad 4 by unfold Prs.fin; rw [← HBR.out]; rfl))
    clear kq hrq hwq
    go_wp2_with (go_at_call 35; refine CF.mono ?_; rintro e w9 ⟨rfl, hd, hg⟩)
    exact ⟨rfl, post_bad HPX.out (HRS8.out.fails ⟨rfl, hd, hg⟩)⟩
  · have HPX := Lib.hid (HPR.out.trans (show Prs.fin ⟨4, us, [], tg, []⟩ = .ok ⟨4, us, [], tg, []⟩ by unfold Prs.fin; rw [← HBR.out]; rfl))
    go_wp2_with (with_reducible (show wpList _ _ _ (Oper.mk _ (Op.load 145 _) _ _ _ _ :: _) _ _); refine pause ?_)
    unfold Paused
    refine wpList_row_w (by rfl) 145 (.tmp 3) (by rfl) g (by rfl) 145 _ _ HRS8.out.ob Tryz.underlying145 (by rfl) (by rw [cellsOb_size _ _ _ _ _ HFT.out.target.1]; kernel_rfl) ?_
    refine wpList_store_row (by rfl) 145 (.tmp 2) (.tmp 80) (by rfl) w.heap.size _ (by rfl) (by rfl) 145 zOc HRS8.out.res (by rw [cellsOb_size _ _ _ _ _ HFT.out.target.1]; kernel_rfl) (by rw [cellsOb_size _ _ _ _ _ HFT.out.target.1]; rfl) (ObO.one HOO8.out) ?_
    have HB9 := Lib.hid (HRS8.out.res.row (cellsOb 4 (.slice T us.length tc) nilV nilV tg).toArray)
    have HG9 := Lib.hid (show w8.grownBy (w8.setRow w.heap.size (cellsOb 4 (.slice T us.length tc) nilV nilV tg).toArray) (some w.heap.size) from only_setRow (World.grownBy.refl w8 _) (Or.inl rfl) _)
    generalize World.setRow _ w.heap.size (cellsOb 4 (.slice T us.length tc) nilV nilV tg).toArray = w9 at HB9 HG9 ⊢
    go_wp2
    exact bodyPost_ret (v := .agg (cellsOb 4 (.slice T us.length tc) nilV nilV tg).toArray) (resultsO (t := 2) rfl (by rfl) HB9.out (cellsOb_size _ _ _ _ _ HFT.out.target.1)) rfl (post_ok HPX.out rfl HFT.out HHD.out (HOO8.out.store HRS8.out.gt HG9.out) (HRS8.out.done HG9.out).1 (HRS8.out.done HG9.out).2)
end Go.Proofs.YtolfphfdeccleaaGreatDoor
