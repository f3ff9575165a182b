/- The mathematics of layer 3: parts of a text, which bytes and texts are names, which texts are below which, short texts. -/
import Derived.Lib.SplitLaws
import Derived.Lib.Bytealg
import Derived.Test.YtgcgomdhdgjpdaaGreatDoorMOb3s
import Derived.Test.YtgcgomdhdgjpdaaGreatDoorMOct5s
import Derived.Test.YtgcgomdhdgjpdaaGreatDoorMOb30s
import Derived.Test.YtgcgomdhdgjpdaaGreatDoorMBases
import Derived.Test.YtgcgomdhdgjpdaaGreatDoorMRp1s
import Derived.ChangeAlike
import Derived.WalkSpells
import Derived.Laws.EntriesVeiled
namespace Go.Proofs.YtgcgomdhdgjpdaaGreatDoor.Nm
open Go Go.Lib
def grow (acc : List (List UInt8)) (c : UInt8) : List (List UInt8) := if c = 47 then acc ++ [[]] else acc.dropLast ++ [acc.getLastD [] ++ [c]]
def parts (l : List UInt8) : List (List UInt8) := l.foldl grow [[]]
def partsR : List UInt8 → List (List UInt8)
 | [] => [[]]
 | c :: l => if c = 47 then [] :: partsR l else (c :: (partsR l).headD []) :: (partsR l).tail
theorem partsR_ne (l : List UInt8) : partsR l ≠ [] := by
 cases l with
 | nil => simp [partsR]
 | cons c l => unfold partsR; split <;> simp
theorem foldl_grow : ∀ (l : List UInt8) (acc : List (List UInt8)) (p : List UInt8), l.foldl grow (acc ++ [p]) = acc ++ ((p ++ (partsR l).headD []) :: (partsR l).tail)
 | [], acc, p => by simp [partsR]
 | c :: l, acc, p => by
  rw [List.foldl_cons]
  by_cases h : c = 47
  ·rw [show grow (acc ++ [p]) c = (acc ++ [p]) ++ [[]] by simp [grow, h], foldl_grow l (acc ++ [p]) []]
   obtain ⟨x, r, e⟩ := List.exists_cons_of_ne_nil (partsR_ne l)
   simp [partsR, h, e]
  ·rw [show grow (acc ++ [p]) c = acc ++ [p ++ [c]] by simp [grow, h], foldl_grow l acc (p ++ [c])]
   simp [partsR, h]
theorem parts_eq (l : List UInt8) : parts l = partsR l := by
 have h := foldl_grow l [] []
 obtain ⟨x, r, e⟩ := List.exists_cons_of_ne_nil (partsR_ne l)
 simp [e] at h
 rw [parts, h, e]
theorem index_cons (c : UInt8) (l : List UInt8) : index (c :: l) [47] = if c = 47 then 0 else if index l [47] == -1 then -1 else index l [47] + 1 := by
 rw [index]
 by_cases h : c = 47
 ·simp [h, List.isPrefixOf]
 ·rw [if_neg h, if_neg]
  simp [List.isPrefixOf]
  exact fun e => h e.symm
theorem split_parts : ∀ (l : List UInt8) (k : Nat), l.count 47 ≤ k → splitK [47] 0 k l = partsR l
 | [], k, _ => by cases k <;> simp [splitK, partsR, index]
 | c :: l, k, hk => by
  have ix := index_cons c l
  by_cases h : c = 47
  ·rw [if_pos h] at ix
   rw [h, List.count_cons_self] at hk
   obtain ⟨k', rfl⟩ : ∃ k', k = k' + 1 := ⟨k - 1, by omega⟩
   rw [splitK, ix]
   simp [partsR, h, split_parts l k' (by omega)]
  ·rw [if_neg h] at ix
   rw [List.count_cons_of_ne (by simpa using h)] at hk
   have ih := split_parts l k hk
   by_cases hm : (index l [47] == -1) = true
   ·rw [if_pos hm] at ix
    have e1 : splitK [47] 0 k l = [l] := by cases k with | zero => rfl | succ k => rw [splitK, if_pos hm]
    have e2 : splitK [47] 0 k (c :: l) = [c :: l] := by cases k with | zero => rfl | succ k => rw [splitK, if_pos (by rw [ix]; rfl)]
    rw [e2, partsR, if_neg h, ← ih, e1]; rfl
   ·rw [if_neg hm] at ix
    have hge := index_ge l [47]
    have hne : index l [47] ≠ -1 := fun e => hm (by simp [e])
    obtain ⟨i, hi⟩ : ∃ i : Nat, index l [47] = i := ⟨(index l [47]).toNat, by omega⟩
    have hc : 1 ≤ l.count 47 := by
     have := count_hit (s := l) (sub := [47]) (by simp) hi
     rw [count_one] at this; omega
    obtain ⟨k', rfl⟩ : ∃ k', k = k' + 1 := ⟨k - 1, by omega⟩
    rw [splitK, if_neg hm, hi] at ih
    have hm2 : ¬ (index (c :: l) [47] == -1) = true := by rw [ix, hi]; simp; omega
    rw [splitK, if_neg hm2, ix, hi, partsR, if_neg h, ← ih]
    have e : ((i : Int) + 1).toNat = i + 1 := by omega
    simp [e]
theorem splitB_parts (s : ByteArray) : (splitB ⟨#[47]⟩ 0 (countB s ⟨#[47]⟩) s).map (·.data.toList) = parts s.data.toList := by
 rw [splitB_data, parts_eq]
 exact split_parts _ _ (by show _ ≤ count _ [47]; rw [count_one]; exact Nat.le_refl _)
def cut (s : ByteArray) : List ByteArray := splitB ⟨#[47]⟩ 0 (countB s ⟨#[47]⟩) s
theorem cut_parts (s : ByteArray) : (cut s).map (·.data.toList) = parts s.data.toList := splitB_parts s
theorem cut_len (s : ByteArray) : (cut s).length = countB s ⟨#[47]⟩ + 1 := splitB_all _ (Nat.le_refl _) 0 _ s rfl
theorem parts_len (s : ByteArray) : (parts s.data.toList).length = countB s ⟨#[47]⟩ + 1 := by rw [← cut_parts, List.length_map, cut_len]
theorem any_cut (p : List UInt8 → Bool) (s : ByteArray) : (cut s).any (fun x => p x.data.toList) = (parts s.data.toList).any p := by rw [← cut_parts, List.any_map]; rfl
theorem splitB_size (sep : ByteArray) (save : Nat) : ∀ (k : Nat) (s : ByteArray), ∀ x ∈ splitB sep save k s, x.size ≤ s.size
 | 0, s, x, hx => by simp [splitB] at hx; subst hx; exact Nat.le_refl _
 | k + 1, s, x, hx => by
  unfold splitB at hx
  split at hx
  ·simp at hx; subst hx; exact Nat.le_refl _
  ·rcases List.mem_cons.1 hx with rfl | hx
   ·rw [ByteArray.size_extract]; omega
   ·have := splitB_size sep save k _ x hx
    rw [ByteArray.size_extract] at this; omega
theorem cut_size (s : ByteArray) (x : ByteArray) (hx : x ∈ cut s) : x.size ≤ s.size := splitB_size _ _ _ _ x hx
def lettr (c : UInt8) : Bool := decide (97 ≤ (c.toNat : Int)) && decide ((c.toNat : Int) ≤ 122)
def figr (c : UInt8) : Bool := decide (48 ≤ (c.toNat : Int)) && decide ((c.toNat : Int) ≤ 57)
def among (more : List UInt8) (c : UInt8) : Bool := decide (0 ≤ indexByte more c)
def plain (more : List UInt8) (c : UInt8) : Bool := lettr c || figr c || among more c
def allL (p : UInt8 → Bool) (l : List UInt8) : Bool := l.all p
def bad (p : List UInt8) : Bool := !(allL (plain [45, 46]) p) || allL (among [46]) p
def ref (l : List UInt8) : Bool := decide (l.length ≤ 24) && decide (2 ≤ (parts l).length) && !((parts l).any bad)
end Go.Proofs.YtgcgomdhdgjpdaaGreatDoor.Nm
/- Which entries are right, and what they are as bytes, said plainly. -/
namespace Go.Proofs.YtgcgomdhdgjpdaaGreatDoor
open Go Go.RowKit
namespace En
noncomputable def once (l : List (ByteArray × Bool)) : Bool := @decide ((∀ p ∈ l, p.2 = true) ∧ (l.map (·.1)).Nodup) (Classical.propDecidable _)
theorem once_iff (l : List (ByteArray × Bool)) : once l = true ↔ ((∀ p ∈ l, p.2 = true) ∧ (l.map (·.1)).Nodup) := @decide_eq_true_iff _ (Classical.propDecidable _)
theorem once_nil : once [] = true := (once_iff _).2 ⟨fun _ h => (by cases h), List.nodup_nil⟩
theorem once_snoc {l : List (ByteArray × Bool)} {p : ByteArray × Bool} (h : once l = true) (h1 : p.2 = true) (h2 : p.1 ∉ l.map (·.1)) : once (l ++ [p]) = true := by
 rw [once_iff] at h ⊢
 refine ⟨fun q hq => ?_, ?_⟩
 ·rcases List.mem_append.1 hq with hq | hq
  ·exact h.1 q hq
  ·rw [List.mem_singleton.1 hq]; exact h1
 ·rw [List.map_append, List.nodup_append]
  refine ⟨h.2, by simp, fun a ha b hb e => ?_⟩
  simp only [List.map_cons, List.map_nil, List.mem_singleton] at hb
  subst e hb
  exact h2 ha
theorem once_bad {l : List (ByteArray × Bool)} {k : Nat} (hk : k < l.length) (h1 : l[k].2 = false) : once l = false := by
 cases h : once l with
 | false => rfl
 | true => rw [((once_iff l).1 h).1 _ (List.getElem_mem hk)] at h1; cases h1
theorem once_twice {l : List (ByteArray × Bool)} {k : Nat} (hk : k < l.length) (h1 : l[k].1 ∈ (l.take k).map (·.1)) : once l = false := by
 cases h : once l with
 | false => rfl
 | true =>
  have h2 := ((once_iff l).1 h).2
  rw [← List.take_append_drop k l, List.map_append, List.nodup_append] at h2
  refine absurd rfl (h2.2.2 _ h1 _ (List.mem_map.2 ⟨l[k], ?_, rfl⟩))
  rw [List.drop_eq_getElem_cons hk]
  exact List.mem_cons_self ..
noncomputable def objOk (x : List Nat) : Bool := @decide (x.length ≤ 300 ∧ ∃ o, Ob.parse x = .ok o) (Classical.propDecidable _)
theorem objOk_iff (x : List Nat) : objOk x = true ↔ (x.length ≤ 300 ∧ ∃ o, Ob.parse x = .ok o) := @decide_eq_true_iff _ (Classical.propDecidable _)
noncomputable def upKey (u : Up) : ByteArray × Bool := (u.ref, Nm.ref u.ref.data.toList && !(eqv u.old u.new))
noncomputable def obKey (x : List Nat) : ByteArray × Bool := (textOf x, objOk x)
noncomputable def upsOk (us : List Up) : Bool := decide (1 ≤ us.length) && (decide (us.length ≤ 8) && once (us.map upKey))
noncomputable def objsOk (os : List (List Nat)) : Bool := decide (os.length ≤ 64) && once (os.map obKey)
noncomputable def formed (e : E) : Bool :=
 decide (0 ≤ e.client) && (decide (e.client < 8) && (decide (1 ≤ e.number) && (decide (e.number ≤ 1099511627776) && (decide (0 ≤ e.answer) && (decide (e.answer ≤ 10) &&
  (if e.answer = 0 then upsOk e.ups && objsOk e.objs else decide (e.ups.length = 0) && decide (e.objs.length = 0)))))))
def laidUps (us : List Up) : List Nat := us.flatMap fun u => Oc.nums 2 (strB u.ref).length ++ strB u.ref ++ u.old ++ u.new
def laidObjs (os : List (List Nat)) : List Nat := os.flatMap fun t => Oc.nums 2 t.length ++ t
def laid (e : E) : List Nat :=
 Oc.nums 1 e.client.toNat ++ (Oc.nums 8 e.number.toNat ++ (Oc.nums 1 e.answer.toNat ++ (Oc.nums 1 e.ups.length ++ (laidUps e.ups ++ (Oc.nums 1 e.objs.length ++ laidObjs e.objs)))))
noncomputable def right (e : E) : Bool := formed e && decide ((laid e).length ≤ 2800)
inductive Rs where
 | bad (e : Nat)
 | ok (b : List Nat)
noncomputable def bytes (e : E) : Rs := if formed e = true then (if (laid e).length ≤ 2800 then .ok (laid e) else .bad 13) else .bad 4
end En
end Go.Proofs.YtgcgomdhdgjpdaaGreatDoor
/- The walks of layer 3's tests on bytes: letters and figures, closures that tell which bytes a name may have, and whether a text has only such bytes. -/
namespace Go.Proofs.YtgcgomdhdgjpdaaGreatDoor
open Go Go.RowKit
theorem ret_bool {a b : Bool} (h : a = b) : Ending.returned (.bool a) = .returned (.bool b) := by rw [h]
theorem lettr_yes {c : UInt8} (h1 : 97 ≤ (c.toNat : Int)) (h2 : (c.toNat : Int) ≤ 122) : Nm.lettr c = true := by unfold Nm.lettr; rw [decide_eq_true h1, decide_eq_true h2]; rfl
theorem lettr_low {c : UInt8} (h1 : ¬ 97 ≤ (c.toNat : Int)) : Nm.lettr c = false := by unfold Nm.lettr; rw [decide_eq_false h1]; rfl
theorem lettr_high {c : UInt8} (h2 : ¬ (c.toNat : Int) ≤ 122) : Nm.lettr c = false := by unfold Nm.lettr; rw [decide_eq_false h2, Bool.and_false]
theorem figr_yes {c : UInt8} (h1 : 48 ≤ (c.toNat : Int)) (h2 : (c.toNat : Int) ≤ 57) : Nm.figr c = true := by unfold Nm.figr; rw [decide_eq_true h1, decide_eq_true h2]; rfl
theorem figr_low {c : UInt8} (h1 : ¬ 48 ≤ (c.toNat : Int)) : Nm.figr c = false := by unfold Nm.figr; rw [decide_eq_false h1]; rfl
theorem figr_high {c : UInt8} (h2 : ¬ (c.toNat : Int) ≤ 57) : Nm.figr c = false := by unfold Nm.figr; rw [decide_eq_false h2, Bool.and_false]
theorem letter_any (c : UInt8) (w : World) :
  Calls Tryz.prog 157 #[.int .u8 (c.toNat : Int)] w fun e w' => e = .returned (.bool (Nm.lettr c)) ∧ w = w' := by
 by_cases h1 : 97 ≤ (c.toNat : Int)
 ·by_cases h2 : (c.toNat : Int) ≤ 122
  ·have H := Lib.hid (lettr_yes h1 h2)
   go_enter Tryz.func157, Tryz.ntmps157
   go_wp2
   go_ret
   exact ⟨ret_bool H.out.symm, rfl⟩
  ·have H := Lib.hid (lettr_high h2)
   go_enter Tryz.func157, Tryz.ntmps157
   go_wp2
   go_ret
   exact ⟨ret_bool H.out.symm, rfl⟩
 ·have H := Lib.hid (lettr_low h1)
  go_enter Tryz.func157, Tryz.ntmps157
  go_wp2
  go_ret
  exact ⟨ret_bool H.out.symm, rfl⟩
theorem figure_any (c : UInt8) (w : World) :
  Calls Tryz.prog 158 #[.int .u8 (c.toNat : Int)] w fun e w' => e = .returned (.bool (Nm.figr c)) ∧ w = w' := by
 by_cases h1 : 48 ≤ (c.toNat : Int)
 ·by_cases h2 : (c.toNat : Int) ≤ 57
  ·have H := Lib.hid (figr_yes h1 h2)
   go_enter Tryz.func158, Tryz.ntmps158
   go_wp2
   go_ret
   exact ⟨ret_bool H.out.symm, rfl⟩
  ·have H := Lib.hid (figr_high h2)
   go_enter Tryz.func158, Tryz.ntmps158
   go_wp2
   go_ret
   exact ⟨ret_bool H.out.symm, rfl⟩
 ·have H := Lib.hid (figr_low h1)
  go_enter Tryz.func158, Tryz.ntmps158
  go_wp2
  go_ret
  exact ⟨ret_bool H.out.symm, rfl⟩
theorem oneOf_any (bytes : ByteArray) (w : World) :
  Calls Tryz.prog 155 #[.string bytes] w fun e w' => e = .returned (.func (.func 176) #[] #[.pointer (some ⟨w.heap.size, 0, none⟩)]) ∧ w.alloc (.cells #[.string bytes] 9) = w' := by
 go_enter Tryz.func155, Tryz.ntmps155
 go_wp2
 go_ret
 exact ⟨rfl, rfl⟩
theorem oneOf1_any (c : UInt8) (bytes : ByteArray) (B : Nat) (w : World) (hc : w.cell? ⟨B, 0, none⟩ = some (.string bytes)) :
  Calls Tryz.prog 176 #[.int .u8 (c.toNat : Int), .pointer (some ⟨B, 0, none⟩)] w fun e w' => e = .returned (.bool (Nm.among bytes.data.toList c)) ∧ w = w' := by
 go_enter Tryz.func176, Tryz.ntmps176
 go_wp2_with (go_at_call 137; refine (Any.strings_IndexByte ixb_lays bytes (c.toNat : Int) _).mono ?_; rintro e w' ⟨rfl, rfl⟩)
 go_ret
 exact ⟨ret_bool rfl, rfl⟩
theorem plainOr_any (more : ByteArray) (w : World) :
  Calls Tryz.prog 134 #[.string more] w fun e w' => e = .returned (.func (.func 156) #[] #[.pointer (some ⟨w.heap.size + 1, 0, none⟩)]) ∧
   (w.alloc (.cells #[.string more] 9)).alloc (.cells #[.func (.func 176) #[] #[.pointer (some ⟨w.heap.size, 0, none⟩)]] 214) = w' := by
 go_enter Tryz.func134, Tryz.ntmps134
 go_wp2_with (go_at_call 155; refine (oneOf_any more _).mono ?_; rintro e w' ⟨rfl, rfl⟩)
 go_ret
 exact ⟨by simp, rfl⟩
theorem plainOr1_any (c : UInt8) (more : ByteArray) (B B' : Nat) (w : World) (h1 : w.cell? ⟨B, 0, none⟩ = some (.func (.func 176) #[] #[.pointer (some ⟨B', 0, none⟩)])) (h2 : w.cell? ⟨B', 0, none⟩ = some (.string more)) :
  Calls Tryz.prog 156 #[.int .u8 (c.toNat : Int), .pointer (some ⟨B, 0, none⟩)] w fun e w' => e = .returned (.bool (Nm.plain more.data.toList c)) ∧ w = w' := by
 cases hl : Nm.lettr c
 ·cases hf : Nm.figr c
  ·have H := Lib.hid (show Nm.plain more.data.toList c = Nm.among more.data.toList c by simp [Nm.plain, hl, hf])
   have C1 := hl ▸ letter_any c
   have C2 := hf ▸ figure_any c
   clear hl hf
   go_enter Tryz.func156, Tryz.ntmps156
   go_wp2_with (first
    | (go_at_call 157; refine (C1 _).mono ?_; rintro e w' ⟨rfl, rfl⟩)
    | (go_at_call 158; refine (C2 _).mono ?_; rintro e w' ⟨rfl, rfl⟩)
    | (go_at_call 176; refine (oneOf1_any c more B' _ h2).mono ?_; rintro e w' ⟨rfl, rfl⟩))
   go_ret
   exact ⟨ret_bool H.out.symm, rfl⟩
  ·have H := Lib.hid (show Nm.plain more.data.toList c = true by simp [Nm.plain, hl, hf])
   have C1 := hl ▸ letter_any c
   have C2 := hf ▸ figure_any c
   clear hl hf
   go_enter Tryz.func156, Tryz.ntmps156
   go_wp2_with (first
    | (go_at_call 157; refine (C1 _).mono ?_; rintro e w' ⟨rfl, rfl⟩)
    | (go_at_call 158; refine (C2 _).mono ?_; rintro e w' ⟨rfl, rfl⟩))
   go_ret
   exact ⟨ret_bool H.out.symm, rfl⟩
 ·have H := Lib.hid (show Nm.plain more.data.toList c = true by simp [Nm.plain, hl])
  have C1 := hl ▸ letter_any c
  clear hl
  go_enter Tryz.func156, Tryz.ntmps156
  go_wp2_with (first
   | (go_at_call 157; refine (C1 _).mono ?_; rintro e w' ⟨rfl, rfl⟩))
  go_ret
  exact ⟨ret_bool H.out.symm, rfl⟩
def Tells (g : Nat) (lb : Array Value) (p : UInt8 → Bool) (w : World) : Prop :=
 ∀ (W : World) (c : UInt8), Below w.heap.size w W → Calls Tryz.prog g (#[.int .u8 (c.toNat : Int)] ++ lb) W fun e w' => e = .returned (.bool (p c)) ∧ W = w'
theorem plainOr_tells (more : ByteArray) (B B' : Nat) (w : World) (hB : B < w.heap.size) (hB' : B' < w.heap.size) (h1 : w.cell? ⟨B, 0, none⟩ = some (.func (.func 176) #[] #[.pointer (some ⟨B', 0, none⟩)])) (h2 : w.cell? ⟨B', 0, none⟩ = some (.string more)) :
  Tells 156 #[.pointer (some ⟨B, 0, none⟩)] (Nm.plain more.data.toList) w :=
 fun W c hb => plainOr1_any c more B B' W ((hb.cell (p := ⟨B, 0, none⟩) hB).trans h1) ((hb.cell (p := ⟨B', 0, none⟩) hB').trans h2)
theorem oneOf_tells (bytes : ByteArray) (B : Nat) (w : World) (hB : B < w.heap.size) (h1 : w.cell? ⟨B, 0, none⟩ = some (.string bytes)) :
  Tells 176 #[.pointer (some ⟨B, 0, none⟩)] (Nm.among bytes.data.toList) w :=
 fun W c hb => oneOf1_any c bytes B W ((hb.cell (p := ⟨B, 0, none⟩) hB).trans h1)
theorem all_take {s : ByteArray} {p : UInt8 → Bool} {k : Nat} (h : k < s.size) : (s.data.toList.take (k + 1)).all p = ((s.data.toList.take k).all p && p s[k]) := by
 have e : s.data.toList.take (k + 1) = s.data.toList.take k ++ [s[k]] := by rw [List.take_succ_eq_append_getElem (by simpa using h)]; rfl
 rw [e, List.all_append]; simp
theorem all_hit {s : ByteArray} {p : UInt8 → Bool} {k : Nat} (h : k < s.size) (hp : p s[k] = false) : s.data.toList.all p = false := by
 rw [List.all_eq_false]
 exact ⟨s[k], by rw [show s[k] = s.data.toList[k]'(by simpa using h) from rfl]; exact List.getElem_mem _, by simp [hp]⟩
set_option maxHeartbeats 400000 in
theorem all_any (s : ByteArray) (g : Nat) (lb : Array Value) (p : UInt8 → Bool) (eg : ∀ args w, (callFunc g args).run Tryz.prog w = .ok (.enter g args) w) (w : World) (hs : s.size ≤ maxLen) (hp : Tells g lb p w) :
  Calls Tryz.prog 154 #[.string s, .func (.func g) #[] lb] w fun e w' => e = .returned (.bool (Nm.allL p s.data.toList)) ∧ w = w' := by
 unfold maxLen at hs
 have hb := Below.refl w.heap.size w
 go_enter Tryz.func154, Tryz.ntmps154
 go_wp2
 go_loop [8] (fun i => ∃ k : Nat, k ≤ s.size ∧ i = .int .i64 k ∧ (s.data.toList.take k).all p = true) (fun i => s.size - (intOf i).toNat)
 case atStart => exact ⟨0, Nat.zero_le _, rfl, rfl⟩
 case round =>
  obtain ⟨k, hk, rfl, ha⟩ := hrel
  have HA := Lib.hid ha
  clear ha
  by_cases hlt : k < s.size
  ·cases hv : p s[k]
   ·have H := Lib.hid ((show Nm.allL p s.data.toList = false from all_hit hlt hv))
    have C := hv ▸ hp w s[k] hb
    clear hv
    go_wp2_with (go_at_fn g; refine C.mono ?_; rintro e w' ⟨rfl, rfl⟩)
    go_ret
    exact ⟨ret_bool H.out.symm, rfl⟩
   ·have H := Lib.hid (show (s.data.toList.take (k + 1)).all p = true by rw [all_take hlt, HA.out, hv]; rfl)
    have C := hv ▸ hp w s[k] hb
    clear hv
    go_wp2_with (go_at_fn g; refine C.mono ?_; rintro e w' ⟨rfl, rfl⟩)
    go_round
    case rel => exact ⟨k + 1, by omega, by go_num, H.out⟩
    case measure => simp [intOf]; omega
  ·have H := Lib.hid (show Nm.allL p s.data.toList = true by unfold Nm.allL; rw [← HA.out, List.take_of_length_le (by simp; omega)])
   go_wp2
   go_ret
   exact ⟨ret_bool H.out.symm, rfl⟩
end Go.Proofs.YtgcgomdhdgjpdaaGreatDoor
