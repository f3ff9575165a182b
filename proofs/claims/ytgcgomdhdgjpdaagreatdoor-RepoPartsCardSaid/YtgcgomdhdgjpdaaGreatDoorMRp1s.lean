/- Maps that may be nil, ranged over and counted: from texts, from ids. -/
import Derived.Test.YtgcgomdhdgjpdaaGreatDoorMLawOpenEns
import Derived.Laws.IdiomRangeMap
import Derived.Test.YtgcgomdhdgjpdaaGreatDoorMBases
import Derived.Shelf.Small.Strs
import Derived.Test.YtgcgomdhdgjpdaaGreatDoorMLawOpen3s
namespace Go.Proofs.YtgcgomdhdgjpdaaGreatDoor
open Go Go.RowKit Go.Maps
def Cnt {K V : Type} (ok : K → Prop) (f : K → Option V) (n : Nat) : Prop := ∃ l : List K, l.Nodup ∧ (∀ k ∈ l, ok k) ∧ (∀ k, ok k → (k ∈ l ↔ (f k).isSome = true)) ∧ l.length = n
theorem nodup_sub {K : Type} : ∀ (l m : List K), l.Nodup → (∀ x ∈ l, x ∈ m) → l.length ≤ m.length
 | [], _, _, _ => Nat.zero_le _
 | x :: l, m, h, hs => by
  obtain ⟨a, b, rfl⟩ := List.append_of_mem (hs x (List.mem_cons_self ..))
  have hn := List.nodup_cons.1 h
  have h1 := nodup_sub l (a ++ b) hn.2 (fun y hy => by
   have h2 := hs y (List.mem_cons_of_mem _ hy)
   rcases List.mem_append.1 h2 with h2 | h2
   ·exact List.mem_append.2 (Or.inl h2)
   ·rcases List.mem_cons.1 h2 with rfl | h2
    ·exact absurd hy hn.1
    ·exact List.mem_append.2 (Or.inr h2))
  simp only [List.length_append, List.length_cons] at h1 ⊢
  omega
theorem Cnt.uniq {K V : Type} {ok : K → Prop} {f : K → Option V} {n m : Nat} (h : Cnt ok f n) (h' : Cnt ok f m) : n = m := by
 obtain ⟨l, a1, a2, a3, rfl⟩ := h
 obtain ⟨l', b1, b2, b3, rfl⟩ := h'
 have h1 := nodup_sub l l' a1 (fun x hx => (b3 x (a2 x hx)).2 ((a3 x (a2 x hx)).1 hx))
 have h2 := nodup_sub l' l b1 (fun x hx => (a3 x (b2 x hx)).2 ((b3 x (b2 x hx)).1 hx))
 omega
theorem Cnt.nil {K V : Type} (ok : K → Prop) {f : K → Option V} (h : ∀ k, ok k → f k = none) : Cnt ok f 0 :=
 ⟨[], List.nodup_nil, fun _ h => (by cases h), fun k hk => ⟨fun h => (by cases h), fun hs => (by rw [h k hk] at hs; cases hs)⟩, rfl⟩
theorem keys_list {P : Program} {k : TypeId} {R : Value → Option (DataW Value × List MemPlace)} {w : World} {b n : Nat} {D : DataW Value} (h : w.ownsMap P k R b n D) (K : Keyed P k) :
  ∃ ls : List Lit, ls.Pairwise (· ≠ ·) ∧ (∀ l ∈ ls, ∃ v, keyOf P k v = some l) ∧ (∀ kl, (∃ v, keyOf P k v = some kl) → (has D kl = true ↔ kl ∈ ls)) ∧ ls.length = Maps.size D := by
 obtain ⟨es, clock, _, F, _, rfl⟩ := h
 have hp := Go.WideShapes.sorted_perm (es.toList.map (Go.WideElems.rg P k R))
 have hk : ∀ p ∈ es.toList.map (Go.WideElems.rg P k R), ∃ v, keyOf P k v = some p.1 := fun p hpm => by
  obtain ⟨x, hx, rfl⟩ := List.mem_map.1 hpm
  obtain ⟨y, hy⟩ := F.reads x hx
  exact ⟨x.key, by rw [Go.WideElems.rd_key hy]; unfold Go.WideElems.rg; rw [hy]; rfl⟩
 refine ⟨(es.toList.map (Go.WideElems.rg P k R)).map (·.1), ?_, fun l hl => ?_, fun kl hkl => ?_, ?_⟩
 ·rw [List.pairwise_map]
  exact Maps.fit_apart K F
 ·obtain ⟨p, hp', rfl⟩ := List.mem_map.1 hl
  exact hk p hp'
 ·rw [has_eq, List.any_eq_true]
  constructor
  ·rintro ⟨p, hp1, hs⟩
   have h1 := WideAt.sameKey_eq hs
   exact List.mem_map.2 ⟨p, hp.mem_iff.1 hp1, h1⟩
  ·intro hm
   obtain ⟨p, hp1, rfl⟩ := List.mem_map.1 hm
   obtain ⟨v, hv⟩ := hkl
   exact ⟨p, hp.mem_iff.2 hp1, WideAt.sameKey_self (K.key hv)⟩
 ·rw [List.length_map]
  exact hp.length_eq.symm
theorem list_of {K : Type} {Q : K → Prop} {g : K → Lit} : ∀ (ls : List Lit), (∀ l ∈ ls, ∃ x, Q x ∧ l = g x) → ∃ xs : List K, ls = xs.map g ∧ ∀ x ∈ xs, Q x
 | [], _ => ⟨[], rfl, fun _ h => by cases h⟩
 | l :: ls, h => by
  obtain ⟨x, hx, rfl⟩ := h l (List.mem_cons_self ..)
  obtain ⟨xs, rfl, hq⟩ := list_of ls (fun m hm => h m (List.mem_cons_of_mem _ hm))
  exact ⟨x :: xs, rfl, fun y hy => by
   rcases List.mem_cons.1 hy with rfl | hy
   ·exact hx
   ·exact hq y hy⟩
theorem nodup_of_map {K : Type} {g : K → Lit} {xs : List K} (h : (xs.map g).Pairwise (· ≠ ·)) : xs.Nodup := by
 rw [List.pairwise_map] at h
 exact List.Pairwise.imp (fun {a b} hn e => hn (by rw [e])) h
def okS (i : ByteArray) : Prop := i.size ≤ maxLen
theorem MapS.len {w : World} {b n : Nat} {f : ByteArray → Option Value} {t e : TypeId} (h : MapS w b n f) (ht : Tryz.prog.underlying t = some (.map 9 e)) (ty : TypeId) :
  ∃ c : Nat, (Builtin.len_ #[t] ty #[.map (some b)]).run Tryz.prog w = .ok (.int .i64 (c : Int)) w ∧ Cnt okS f c ∧ c ≤ n := by
 obtain ⟨D, h, k⟩ := h
 refine ⟨Maps.size D, h.len ht ty, ?_, h.size_le⟩
 obtain ⟨ls, h1, h2, h3, h4⟩ := keys_list h str_law
 obtain ⟨xs, rfl, hq⟩ := list_of (Q := okS) (g := fun i : ByteArray => Lit.string i.data.toList) ls (fun l hl => by
  obtain ⟨v, hv⟩ := h2 l hl
  obtain ⟨s, rfl, rfl, hs⟩ := Go.WideMaps.string_of_keyOf Tryz.underlying9 hv
  exact ⟨s, hs, rfl⟩)
 refine ⟨xs, nodup_of_map h1, hq, fun i hi => ?_, by rw [← h4, List.length_map]⟩
 rw [← (k i hi).1, h3 _ ⟨_, skey_of hi⟩]
 constructor
 ·exact fun hm => List.mem_map.2 ⟨i, hm, rfl⟩
 ·intro hm
  obtain ⟨j, hj, e⟩ := List.mem_map.1 hm
  injection e with e
  obtain rfl : j = i := ByteArray.ext (Array.toList_inj.1 e)
  exact hj
theorem MapO.len {w : World} {b n : Nat} {f : List Nat → Option Value} {t e : TypeId} (h : MapO w b n f) (ht : Tryz.prog.underlying t = some (.map 41 e)) (ty : TypeId) :
  ∃ c : Nat, (Builtin.len_ #[t] ty #[.map (some b)]).run Tryz.prog w = .ok (.int .i64 (c : Int)) w ∧ Cnt Id32 f c ∧ c ≤ n := by
 obtain ⟨D, h, k⟩ := h
 refine ⟨Maps.size D, h.len ht ty, ?_, h.size_le⟩
 obtain ⟨ls, h1, h2, h3, h4⟩ := keys_list h oid_law
 obtain ⟨xs, rfl, hq⟩ := list_of (Q := Id32) (g := oidKey) ls (fun l hl => by
  obtain ⟨v, hv⟩ := h2 l hl
  obtain ⟨x, hx, rfl, rfl⟩ := oid_key_inv hv
  exact ⟨x, hx, rfl⟩)
 refine ⟨xs, nodup_of_map h1, hq, fun i hi => ?_, by rw [← h4, List.length_map]⟩
 rw [← (k i hi).1, h3 _ ⟨_, oid_key hi⟩]
 constructor
 ·exact fun hm => List.mem_map.2 ⟨i, hm, rfl⟩
 ·intro hm
  obtain ⟨j, hj, e⟩ := List.mem_map.1 hm
  by_cases hji : j = i
  ·subst hji; exact hj
  ·exact absurd e (oidKey_ne hi (hq j hj) hji)
def RngS (w : World) (b r n : Nat) (f : ByteArray → Option Value) (left : ByteArray → Bool) (cnt : Nat) : Prop :=
 ∃ (D : DataW Value) (lf : Lit → Bool), w.ranges Tryz.prog 9 selfS b r n D lf cnt ∧ (∀ i : ByteArray, i.size ≤ maxLen → has D (.string i.data.toList) = (f i).isSome ∧ ∀ z, D.atKey (.string i.data.toList) (.held z) = .held ((f i).getD z)) ∧ ∀ i : ByteArray, i.size ≤ maxLen → left i = lf (.string i.data.toList)
section
variable {w w' : World} {b r n cnt : Nat} {f : ByteArray → Option Value} {left : ByteArray → Bool} {t e : TypeId}
theorem RngS.left_eq (h : RngS w b r n f left cnt) : w.rangeLeft b r = cnt := by obtain ⟨D, lf, h1, _⟩ := h; exact h1.left_eq
theorem RngS.ne (h : RngS w b r n f left cnt) : r ≠ b := by obtain ⟨D, lf, h1, _⟩ := h; exact h1.ne
theorem RngS.lt (h : RngS w b r n f left cnt) : r < w.heap.size := by obtain ⟨D, lf, h1, _⟩ := h; exact h1.lt
theorem RngS.kept {row : Option Nat} (h : RngS w b r n f left cnt) (hg : w.grownBy w' row) (hb : some b ≠ row) (hr : some r ≠ row) : RngS w' b r n f left cnt := by
 obtain ⟨D, lf, h1, h2⟩ := h; exact ⟨D, lf, h1.kept hg hb hr, h2⟩
theorem RngS.below (h : RngS w b r n f left cnt) (hb : Below w.heap.size w w') : RngS w' b r n f left cnt := h.kept (only_of_below hb none) (by simp) (by simp)
theorem RngS.few (h : RngS w b r n f left cnt) : cnt ≤ n := by
 obtain ⟨D, lf, h1, _⟩ := h
 obtain ⟨es, clock, since, seen, c0, _, _, hs, _, _, _, hc, _⟩ := h1
 rw [← hc]
 refine Nat.le_trans ?_ hs
 unfold leftOf
 exact Array.size_filter_le
theorem MapS.range (h : MapS w b n f) (ht : Tryz.prog.underlying t = some (.map 9 e)) :
  ∃ w' cnt, (Instr.range t (.map (some b))).run Tryz.prog w = .ok (.pointer (some ⟨w.heap.size, 0, none⟩)) w' ∧ RngS w' b w.heap.size n f (fun x => (f x).isSome) cnt ∧ w.grownBy w' none ∧ w'.heap.size = w.heap.size + 1 := by
 obtain ⟨D, h, k⟩ := h
 obtain ⟨w', h1, h2, h3, h4⟩ := h.range str_law ht
 exact ⟨w', _, h1, ⟨D, _, h2, k, fun x hx => ((k x hx).1).symm⟩, h3, h4⟩
set_option maxRecDepth 100000 in
theorem RngS.next (h : RngS w b r n f left cnt) (ty : TypeId) :
  (cnt = 0 ∧ (∀ x : ByteArray, x.size ≤ maxLen → left x = false) ∧ (Instr.next (.pointer (some ⟨r, 0, none⟩)) false ty).run Tryz.prog w = .ok (.tuple #[.bool false]) w) ∨
  ∃ (x : ByteArray) (v : Value) (w' : World) (cnt' : Nat), x.size ≤ maxLen ∧ left x = true ∧ f x = some v ∧ (Instr.next (.pointer (some ⟨r, 0, none⟩)) false ty).run Tryz.prog w = .ok (.tuple #[.bool true, .string x, v]) w' ∧ RngS w' b r n f (fun y => left y && !decide (y = x)) cnt' ∧ cnt' < cnt ∧ w.grownBy w' (some r) ∧ w'.heap.size = w.heap.size ∧ (Instr.entry (.pointer (some ⟨r, 0, none⟩))).run Tryz.prog w' = .ok (.tuple #[.string x, v]) w' := by
 obtain ⟨D, lf, h1, h2, h3⟩ := h
 rcases h1.next str_law ty with ⟨e1, e2, e3⟩ | ⟨key, v, kl, y, w', cnt', e1, e2, e3, e4, e5, e6, e7, e8, e9, e10⟩
 ·exact Or.inl ⟨e1, fun x hx => by rw [h3 x hx]; exact e2 _, e3⟩
 ·obtain ⟨x, rfl, rfl, hx⟩ := Go.WideMaps.string_of_keyOf Tryz.underlying9 e1
  obtain rfl : (DataW.held v, []) = y := by have h := e3; rw [selfS_mk] at h; injection h
  have hv := (h2 x hx).2 v
  rw [e4] at hv
  have hf : (f x).isSome = true := by rw [← (h2 x hx).1]; exact has_true_of_atKey e4
  obtain ⟨u, hu⟩ := Option.isSome_iff_exists.1 hf
  have hu2 := (h2 x hx).2 u
  rw [e4, hu] at hu2
  have e0 := DataW.held.inj hu2
  simp only [Option.getD_some] at e0
  refine Or.inr ⟨x, v, w', cnt', hx, by rw [h3 x hx]; exact e2, by rw [hu, e0], e5, ⟨D, _, e6, h2, fun z hz => ?_⟩, e7, e8, e9, e10⟩
  show (left z && !decide (z = x)) = (lf (.string z.data.toList) && !(Lit.string z.data.toList).sameKey (.string x.data.toList))
  rw [h3 z hz]
  congr 1
  by_cases hzx : z = x
  ·subst hzx
   rw [WideAt.sameKey_self (skey_lit hz)]
   simp
  ·cases hs : (Lit.string z.data.toList).sameKey (.string x.data.toList)
   ·simp [hzx]
   ·exact absurd (WideAt.sameKey_eq hs) (skey_ne hzx)
end
end Go.Proofs.YtgcgomdhdgjpdaaGreatDoor
/- The library's contracts that layer 3 leans on, laid at this program's numbers. -/
namespace Go.Proofs.YtgcgomdhdgjpdaaGreatDoor
open Go Go.RowKit
section
open Go.Shelf
def ixb_ren : Go.Shelf.Ren := ⟨fun | 137 => 137 | 217 => 167 | 266 => 184 | n => n, fun | 9 => 9 | 5 => 5 | 3 => 3 | n => n, fun | n => n⟩
theorem ixb_lays : Go.Proofs.Lays.n137 Tryz.prog ixb_ren := {
 mixed := by kernel_rfl
 f137 := Tryz.func137.trans (congrArg some (by kernel_rfl))
 f217 := Tryz.func167.trans (congrArg some (by kernel_rfl))
 f266 := Tryz.func184.trans (congrArg some (by kernel_rfl))
 t3 := Tryz.underlying3
 a3 := Tryz.isAgg3
 z3 := Tryz.sizeOf3
 v3 := Tryz.zeroValue3
 t5 := Tryz.underlying5
 a5 := Tryz.isAgg5
 z5 := Tryz.sizeOf5
 v5 := Tryz.zeroValue5
 t9 := Tryz.underlying9
 a9 := Tryz.isAgg9
 z9 := Tryz.sizeOf9
 v9 := Tryz.zeroValue9 }
end
namespace Oc
def size (c : Nat) : Int := if c = 98 then 1 else if c = 119 then 4 else if c = 113 then 8 else if c = 111 then 0 else if c = 116 then 0 else -1
def nsize (c : Nat) : Int := if c = 98 then 1 else if c = 119 then 4 else if c = 113 then 8 else 0
def most (c : Nat) : Int := if c = 98 then 255 else if c = 119 then 4294967295 else if c = 113 then 4611686018427387903 else 0
def isL (c : UInt8) : Bool := decide (0 ≤ size c.toNat)
def known (l : List UInt8) : Bool := l.all isL
theorem known_take {s : ByteArray} {k : Nat} (h : k < s.size) (h1 : known (s.data.toList.take k) = true) (h2 : isL s[k] = true) : known (s.data.toList.take (k + 1)) = true := by
 rw [List.take_succ_eq_append_getElem (by simpa using h)]
 unfold known at h1 ⊢
 rw [List.all_append, h1, Bool.true_and, List.all_cons, List.all_nil, Bool.and_true]
 exact h2
theorem known_not {s : ByteArray} {k : Nat} (h : k < s.size) (h2 : isL s[k] = false) : known s.data.toList = false := by
 unfold known
 rw [List.all_eq_false]
 exact ⟨s[k], by simp [ByteArray.getElem_eq_getElem_data], by simp [h2]⟩
def num : Nat → Nat → List Nat
 | 0, _ => []
 | s + 1, n => num s (n / 256) ++ [n % 256]
end Oc
abbrev letS : ByteArray := ⟨#[98, 119, 113, 111, 116]⟩
theorem let_val : ∀ c : Fin 256, decide (Lib.indexByte letS.data.toList (((c.val : Nat) : Int).toNat.toUInt8) < 0) = decide (Oc.size c.val < 0) := by decide +kernel
theorem ret_b {a b : Bool} (h : a = b) : Ending.returned (.bool a) = .returned (.bool b) := by rw [h]
theorem ret_ii {a b x y : Int} (h : a = b ∧ x = y) : Ending.returned (.tuple #[.int .i64 a, .int .i64 x]) = .returned (.tuple #[.int .i64 b, .int .i64 y]) := by rw [h.1, h.2]
theorem number_any (c : Nat) (w : World) :
  Calls Tryz.prog 138 #[.int .u8 ((c : Nat) : Int)] w fun e w' => e = .returned (.tuple #[.int .i64 (Oc.nsize c), .int .i64 (Oc.most c)]) ∧ w = w' := by
 rcases Nat.decEq c 98 with h1 | h1
 ·rcases Nat.decEq c 119 with h2 | h2
  ·rcases Nat.decEq c 113 with h3 | h3
   ·have HV := Lib.hid (show Oc.nsize c = 0 ∧ Oc.most c = 0 from ⟨by unfold Oc.nsize; rw [if_neg h1, if_neg h2, if_neg h3], by unfold Oc.most; rw [if_neg h1, if_neg h2, if_neg h3]⟩)
    go_enter Tryz.func138, Tryz.ntmps138
    go_wp2
    go_ret2
    exact ⟨ret_ii ⟨HV.out.1.symm, HV.out.2.symm⟩, rfl⟩
   ·subst h3
    go_enter Tryz.func138, Tryz.ntmps138
    go_wp2
    go_ret2
    exact ⟨rfl, rfl⟩
  ·subst h2
   go_enter Tryz.func138, Tryz.ntmps138
   go_wp2
   go_ret2
   exact ⟨rfl, rfl⟩
 ·subst h1
  go_enter Tryz.func138, Tryz.ntmps138
  go_wp2
  go_ret2
  exact ⟨rfl, rfl⟩
theorem known_any (s : ByteArray) (w : World) (hs : s.size ≤ 1099511627776) :
  Calls Tryz.prog 106 #[.string s] w fun e w' => e = .returned (.bool (Oc.known s.data.toList)) ∧ w = w' := by
 go_enter Tryz.func106, Tryz.ntmps106
 go_wp2
 go_loopw [6] (fun i wr => ∃ k : Nat, k ≤ s.size ∧ i = .int .i64 k ∧ Hid (Oc.known (s.data.toList.take k) = true) ∧ wr = w) (fun i _ => s.size - (intOf i).toNat)
 case atStart => exact ⟨0, Nat.zero_le _, rfl, Lib.hid rfl, rfl⟩
 case round =>
  obtain ⟨k, hk, rfl, HK, rfl⟩ := hrel
  by_cases hlt : k < s.size
  ·have hv : decide (Lib.indexByte letS.data.toList (((s[k].toNat : Nat) : Int).toNat.toUInt8) < 0) = decide (Oc.size s[k].toNat < 0) := let_val ⟨s[k].toNat, s[k].toNat_lt⟩
   have C1 : ∀ w, Calls Tryz.prog 137 #[.string letS, .int .u8 ((s[k].toNat : Nat) : Int)] w _ := fun w => Any.strings_IndexByte ixb_lays letS (s[k].toNat : Int) w
   generalize Lib.indexByte letS.data.toList (((s[k].toNat : Nat) : Int).toNat.toUInt8) = x at hv C1
   by_cases hx : x < 0
   ·have H := Lib.hid (Oc.known_not hlt (by unfold Oc.isL; rw [decide_eq_true hx] at hv; have := of_decide_eq_true hv.symm; exact decide_eq_false (by omega)))
    clear hv
    go_wp2_with (go_at_call 137; refine (C1 _).mono ?_; rintro e w' ⟨rfl, rfl⟩)
    go_ret
    exact ⟨ret_b H.out.symm, rfl⟩
   ·have H := Lib.hid (Oc.known_take hlt HK.out (by unfold Oc.isL; rw [decide_eq_false hx] at hv; have := of_decide_eq_false hv.symm; exact decide_eq_true (by omega)))
    clear hv
    go_wp2_with (go_at_call 137; refine (C1 _).mono ?_; rintro e w' ⟨rfl, rfl⟩)
    go_roundw
    case rel => exact ⟨k + 1, by omega, by go_num, H, (by first | rfl | trivial)⟩
    case measure => simp [intOf]; omega
  ·have e : s.data.toList.take k = s.data.toList := List.take_of_length_le (by simp; omega)
   have H := Lib.hid (e ▸ HK.out)
   go_wp2
   go_ret
   exact ⟨ret_b H.out.symm, rfl⟩
end Go.Proofs.YtgcgomdhdgjpdaaGreatDoor
/- Layer 2's numbers as bytes: octets.putNumber, and the document's own Num. -/
namespace Go.Proofs.YtgcgomdhdgjpdaaGreatDoor
open Go Go.RowKit
namespace Oc
def nums (s n : Nat) : List Nat := (List.range s).map fun i => n / 2^(8 * (s - 1 - i)) % 256
theorem nums_len (s n : Nat) : (nums s n).length = s := by simp [nums]
theorem nums_succ {s n m : Nat} (h : m < s) : (nums s n).take m ++ [n / 2^(8 * (s - 1 - m)) % 256] = (nums s n).take (m + 1) := by
 have h2 : m < (nums s n).length := by rw [nums_len]; exact h
 rw [List.take_succ_eq_append_getElem h2]
 simp [nums]
end Oc
def Others (w w' : World) : Prop := ∀ (p : Nat) (cs : Array Value) (T : TypeId) (z : Nat × Nat), T ≠ 5 → w.heap[p]? = some (Obj.cells cs T z) → w'.heap[p]? = some (Obj.cells cs T z)
theorem Others.refl (w : World) : Others w w := fun _ _ _ _ _ h => h
theorem Others.trans {a b c : World} (h : Others a b) (k : Others b c) : Others a c := fun p cs T z n e => k p cs T z n (h p cs T z n e)
theorem Others.alloc {a b : World} (h : Others a b) (o : Obj) : Others a (b.alloc o) := fun p cs T z n e => by
 have h1 := h p cs T z n e
 rw [heap_alloc_old _ _ (Array.getElem?_eq_some_iff.1 h1).1]
 exact h1
theorem Others.own {a b c : World} {B size n : Nat} {v : Value} {xs : List Value} (h : Others a b) (ho : b.ownsRow B 5 size v n xs) (k : b.grownBy c v.ownBlock) : Others a c := fun p cs T z hT e => by
 have h1 := h p cs T z hT e
 rw [k.block p (Array.getElem?_eq_some_iff.1 h1).1 ?_]
 ·exact h1
 ·intro hp
  rcases ho.2 with ⟨rfl, _⟩ | ⟨g, cap, cur, rfl, _, hh, _⟩
  ·cases hp
  ·cases hp
   rw [hh] at h1
   cases h1
   exact hT rfl
set_option maxRecDepth 100000 in
theorem putNumber_any (v0 : Value) (ys0 : List Nat) (B s n : Nat) (wb w : World) (hB : wb.heap.size = B) (hP0 : Pad B wb v0 ys0 w) (hs : s ≤ 8) (_hn : n ≤ 4611686018427387903) (hz : ys0.length ≤ 1099511627776) :
  Calls Tryz.prog 139 #[v0, .int .i64 (s : Int), .int .i64 (n : Int)] w fun e w' => ∃ v', e = .returned v' ∧ Pad B wb v' (ys0 ++ Oc.nums s n) w' ∧ Others w w' := by
 have HPS : Hid (Pad B wb v0 (ys0 ++ (Oc.nums s n).take 0) w) := Lib.hid (by simpa using hP0)
 have HS0 := Lib.hid hB
 clear hP0 hB
 go_enter Tryz.func139, Tryz.ntmps139
 have W0 : IntKind.i64.wrap ((s : Int) - 1) = (s : Int) - 1 := IntWalk.i64_in _ (by omega)
 go_wp2
 go_loopw [0, 7] (fun v i wr => ∃ m : Nat, m ≤ s ∧ i = .int .i64 ((s : Int) - 1 - (m : Int)) ∧ Pad B wb v (ys0 ++ (Oc.nums s n).take m) wr ∧ Others w wr) (fun _ i _ => (intOf i + 1).toNat)
 case atStart => exact ⟨0, by omega, by simp, HPS.out, Others.refl _⟩
 case round =>
  obtain ⟨m, hm, rfl, hP, ho⟩ := hrel
  have HPJ := Lib.hid hP
  have HOT := Lib.hid ho
  clear ho
  obtain ⟨A3, c3, rfl⟩ := hP.len
  clear hP
  have hyl : (ys0 ++ (Oc.nums s n).take m).length ≤ 1099511627776 + 8 := by
   rw [List.length_append, List.length_take, Oc.nums_len]; omega
  have HYS : Hid (m < s → (ys0 ++ (Oc.nums s n).take m) ++ [n / 2^(8 * (s - 1 - m)) % 256] = ys0 ++ (Oc.nums s n).take (m + 1)) := Lib.hid (fun h => by rw [List.append_assoc, Oc.nums_succ h])
  have HY8 : Hid (m = s → (ys0 ++ (Oc.nums s n).take m) = ys0 ++ Oc.nums s n) := Lib.hid (fun h => by rw [h, List.take_of_length_le (by rw [Oc.nums_len]; exact Nat.le_refl _)])
  generalize ys0 ++ (Oc.nums s n).take m = ys at HPJ hyl HYS HY8 ⊢
  obtain ⟨m3, hm3⟩ : ∃ m3, m3 = ys.length := ⟨_, rfl⟩
  rw [← hm3] at hyl ⊢
  have HM3 := Lib.hid hm3
  clear hm3
  by_cases hlt : m < s
  ·obtain ⟨k, hk⟩ : ∃ k : Nat, k = s - 1 - m := ⟨_, rfl⟩
   have hki : (s : Int) - 1 - (m : Int) = (k : Int) := by omega
   rw [← hk] at HYS
   rw [hki]
   have hk7 : k ≤ 7 := by omega
   obtain ⟨x, hx⟩ : ∃ x, x = n / 2^(8 * k) % 256 := ⟨_, rfl⟩
   rw [← hx] at HYS
   have HX : Hid ((n : Int) / 2^(8*k) % 256 = (x : Int)) := Lib.hid (by rw [hx]; simp)
   clear hx
   have HK := Lib.hid hk
   clear hk hki
   have HOA : Hid ((wr.alloc (.cells (u8s [x]) 5)).ownsRow B 5 1 (.slice A3 m3 c3) ys.length (cellsB ys)) := Lib.hid (ownsRow_alloc (by have h := HPJ.out.own; rw [← HM3.out] at h ⊢; exact h) _)
   have HB3 := Lib.hid (HPJ.out.bel.alloc (HS0.out ▸ HPJ.out.bel.size) (.cells (u8s [x]) 5))
   have HRM := Lib.hid (rd_of_lit wr [x] 5 (by simp))
   have HZ2 := Lib.hid (show ys.length + [x].length ≤ 70368744177664 by rw [← HM3.out]; simp; omega)
   go_wp2_with (rw [HX.out]; refine wpList_appendB rfl (.tmp 14) (.tmp 20) rfl B _ ys rfl HOA.out (HS0.out ▸ HB3.out.size) _ rfl [x] HRM.out HZ2.out ?_; intro v2 w2 ho2 hg2; rw [HYS.out hlt] at ho2; have HP2 : Hid (Pad B wb v2 (ys0 ++ (Oc.nums s n).take (m + 1)) w2) := Lib.hid ⟨ho2, below_ownB HS0.out HB3.out HOA.out hg2⟩; have HO2 : Hid (Others w w2) := Lib.hid ((HOT.out.alloc _).own HOA.out hg2); clear ho2 hg2)
   go_roundw
   case rel => exact ⟨m + 1, by omega, by have := HK.out; go_num, HP2.out, HO2.out⟩
   case measure => simp [intOf]
  ·obtain rfl : m = s := by omega
   have HPF : Hid (Pad B wb (.slice A3 m3 c3) (ys0 ++ Oc.nums m n) wr) := Lib.hid (by have h := HPJ.out; rw [HY8.out rfl] at h HM3; rw [← HM3.out] at h; exact h)
   clear HY8 HYS hlt
   have W1 : ¬ (0 : Int) ≤ (m : Int) - 1 - (m : Int) := by omega
   go_wp2
   go_ret
   exact ⟨_, rfl, HPF.out, HOT.out⟩
namespace Oc
end Oc
end Go.Proofs.YtgcgomdhdgjpdaaGreatDoor
/- One field of layer 2: whether it has bytes (octets.fits), and which (octets.put). -/
namespace Go.Proofs.YtgcgomdhdgjpdaaGreatDoor
open Go Go.RowKit
namespace Oc
def fits (c : Nat) (n : Int) (l : Nat) : Bool := if c = 111 then decide (l = 32) else if c = 116 then decide (l ≤ 65535) else decide (0 ≤ n) && decide (n ≤ most c)
def enc (c : Nat) (n : Int) (bs : List Nat) : List Nat := if c = 111 then bs else if c = 116 then nums 2 bs.length ++ bs else nums (nsize c).toNat n.toNat
theorem nsize_nat (c : Nat) : ∃ s : Nat, nsize c = s ∧ s ≤ 8 := by
 unfold nsize
 by_cases h1 : c = 98
 ·rw [if_pos h1]; exact ⟨1, rfl, by decide⟩
 rw [if_neg h1]
 by_cases h2 : c = 119
 ·rw [if_pos h2]; exact ⟨4, rfl, by decide⟩
 rw [if_neg h2]
 by_cases h3 : c = 113
 ·rw [if_pos h3]; exact ⟨8, rfl, by decide⟩
 rw [if_neg h3]; exact ⟨0, rfl, by decide⟩
theorem most_le (c : Nat) : most c ≤ 4611686018427387903 := by
 unfold most
 by_cases h1 : c = 98
 ·rw [if_pos h1]; decide
 rw [if_neg h1]
 by_cases h2 : c = 119
 ·rw [if_pos h2]; decide
 rw [if_neg h2]
 by_cases h3 : c = 113
 ·rw [if_pos h3]; decide
 rw [if_neg h3]; decide
end Oc
theorem fits_any (c : Nat) (n : Int) (A : Option Addr) (l cap : Nat) (w : World) :
  Calls Tryz.prog 107 #[.int .u8 ((c : Nat) : Int), .agg #[.int .i64 n, .slice A l cap]] w fun e w' => e = .returned (.bool (Oc.fits c n l)) ∧ w' = w.alloc (.cells #[.int .i64 n, .slice A l cap] 151) := by
 rcases Nat.decEq c 111 with h1 | h1
 ·rcases Nat.decEq c 116 with h2 | h2
  ·have b1 : ((c : Int) == 111) = false := by simp; omega
   have b2 : ((c : Int) == 116) = false := by simp; omega
   have HV : Oc.fits c n l = (decide (0 ≤ n) && decide (n ≤ Oc.most c)) := by unfold Oc.fits; rw [if_neg h1, if_neg h2]
   have C1 := number_any c
   generalize Oc.most c = mx at HV C1
   generalize Oc.nsize c = sx at C1
   by_cases h3 : 0 ≤ n
   ·by_cases h4 : n ≤ mx
    ·have H := Lib.hid (show Oc.fits c n l = true by rw [HV, decide_eq_true h3, decide_eq_true h4]; rfl)
     clear HV
     go_enter Tryz.func107, Tryz.ntmps107
     go_wp2_with (go_at_call 138; refine (C1 _).mono ?_; rintro e w' ⟨rfl, rfl⟩)
     go_ret
     exact ⟨ret_b H.out.symm, rfl⟩
    ·have H := Lib.hid (show Oc.fits c n l = false by rw [HV, decide_eq_false h4, Bool.and_false])
     clear HV
     go_enter Tryz.func107, Tryz.ntmps107
     go_wp2_with (go_at_call 138; refine (C1 _).mono ?_; rintro e w' ⟨rfl, rfl⟩)
     go_ret
     exact ⟨ret_b (by rw [H.out]; exact decide_eq_false (by omega)), rfl⟩
   ·have H := Lib.hid (show Oc.fits c n l = false by rw [HV, decide_eq_false h3, Bool.false_and])
    clear HV
    go_enter Tryz.func107, Tryz.ntmps107
    go_wp2_with (go_at_call 138; refine (C1 _).mono ?_; rintro e w' ⟨rfl, rfl⟩)
    go_ret
    exact ⟨ret_b H.out.symm, rfl⟩
  ·subst h2
   by_cases h3 : l ≤ 65535
   ·have H := Lib.hid (show Oc.fits 116 n l = true from decide_eq_true h3)
    go_enter Tryz.func107, Tryz.ntmps107
    go_wp2
    go_ret
    exact ⟨ret_b (by rw [H.out]; exact decide_eq_true (by omega)), rfl⟩
   ·have H := Lib.hid (show Oc.fits 116 n l = false from decide_eq_false h3)
    go_enter Tryz.func107, Tryz.ntmps107
    go_wp2
    go_ret
    exact ⟨ret_b (by rw [H.out]; exact decide_eq_false (by omega)), rfl⟩
 ·subst h1
  by_cases h3 : l = 32
  ·have H := Lib.hid (show Oc.fits 111 n l = true from decide_eq_true h3)
   subst h3
   go_enter Tryz.func107, Tryz.ntmps107
   go_wp2
   go_ret
   exact ⟨ret_b H.out.symm, rfl⟩
  ·have H := Lib.hid (show Oc.fits 111 n l = false from decide_eq_false h3)
   have b3 : ((l : Int) == 32) = false := by simp; omega
   go_enter Tryz.func107, Tryz.ntmps107
   go_wp2
   go_ret
   exact ⟨ret_b H.out.symm, rfl⟩
end Go.Proofs.YtgcgomdhdgjpdaaGreatDoor
