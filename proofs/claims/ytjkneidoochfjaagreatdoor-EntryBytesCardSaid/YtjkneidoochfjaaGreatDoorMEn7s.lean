/- Which entries are right, and what they are as bytes, said plainly. -/
import Derived.Test.YtjkneidoochfjaaGreatDoorMEn4s
import Derived.Test.YtjkneidoochfjaaGreatDoorMEnT4s
import Derived.Test.YtjkneidoochfjaaGreatDoorMOct5s
import Derived.Test.YtjkneidoochfjaaGreatDoorMOb29s
import Derived.Test.YtjkneidoochfjaaGreatDoorMBases
import Derived.ChangeAlike
import Derived.WalkSpells
import Derived.Laws.EntriesVeiled
namespace Go.Proofs.YtjkneidoochfjaaGreatDoor
open Go Go.RowKit
namespace En
/-- texts, each with a mark: all are marked, and none stands twice -/
noncomputable def once (l : List (ByteArray × Bool)) : Bool := @decide ((∀ p ∈ l, p.2 = true) ∧ (l.map (·.1)).Nodup) (Classical.propDecidable _)
theorem once_iff (l : List (ByteArray × Bool)) : once l = true ↔ ((∀ p ∈ l, p.2 = true) ∧ (l.map (·.1)).Nodup) := @decide_eq_true_iff _ (Classical.propDecidable _)
theorem once_nil : once [] = true := (once_iff _).2 ⟨fun _ h => (by cases h), List.nodup_nil⟩
theorem once_snoc {l : List (ByteArray × Bool)} {p : ByteArray × Bool} (h : once l = true) (h1 : p.2 = true) (h2 : p.1 ∉ l.map (·.1)) : once (l ++ [p]) = true := by
  rw [once_iff] at h ⊢
  refine ⟨fun q hq => ?_, ?_⟩
  · rcases List.mem_append.1 hq with hq | hq
    · exact h.1 q hq
    · rw [List.mem_singleton.1 hq]; exact h1
  · rw [List.map_append, List.nodup_append]
    refine ⟨h.2, by simp, fun a ha b hb e => ?_⟩
    simp only [List.map_cons, List.map_nil, List.mem_singleton] at hb
    subst e hb
    exact h2 ha
theorem once_bad {l : List (ByteArray × Bool)} {k : Nat} (hk : k < l.length) (h1 : l[k].2 = false) : once l = false := by
  cases h : once l with
  | false => rfl
  | true => rw [((once_iff l).1 h).1 _ (List.getElem_mem hk)] at h1; cases h1
theorem once_twice {l : List (ByteArray × Bool)} {k : Nat} (hk : k < l.length) (h1 : l[k].1 ∈ (l.take k).map (·.1)) : once l = false := by
  cases h : once l with
  | false => rfl
  | true =>
    have h2 := ((once_iff l).1 h).2
    rw [← List.take_append_drop k l, List.map_append, List.nodup_append] at h2
    refine absurd rfl (h2.2.2 _ h1 _ (List.mem_map.2 ⟨l[k], ?_, rfl⟩))
    rw [List.drop_eq_getElem_cons hk]
    exact List.mem_cons_self ..
/-- is a text an object's -/
noncomputable def objOk (x : List Nat) : Bool := @decide (x.length ≤ 300 ∧ ∃ o, Ob.parse x = .ok o) (Classical.propDecidable _)
theorem objOk_iff (x : List Nat) : objOk x = true ↔ (x.length ≤ 300 ∧ ∃ o, Ob.parse x = .ok o) := @decide_eq_true_iff _ (Classical.propDecidable _)
noncomputable def upKey (u : Up) : ByteArray × Bool := (u.ref, Nm.ref u.ref.data.toList && !(eqv u.old u.new))
noncomputable def obKey (x : List Nat) : ByteArray × Bool := (textOf x, objOk x)
noncomputable def upsOk (us : List Up) : Bool := decide (1 ≤ us.length) && (decide (us.length ≤ 8) && once (us.map upKey))
noncomputable def objsOk (os : List (List Nat)) : Bool := decide (os.length ≤ 64) && once (os.map obKey)
/-- an entry is right, but for its length -/
noncomputable def formed (e : E) : Bool :=
  decide (0 ≤ e.client) && (decide (e.client < 8) && (decide (1 ≤ e.number) && (decide (e.number ≤ 1099511627776) && (decide (0 ≤ e.answer) && (decide (e.answer ≤ 10) &&
    (if e.answer = 0 then upsOk e.ups && objsOk e.objs else decide (e.ups.length = 0) && decide (e.objs.length = 0)))))))
def laidUps (us : List Up) : List Nat := us.flatMap fun u => Oc.nums 2 (strB u.ref).length ++ strB u.ref ++ u.old ++ u.new
def laidObjs (os : List (List Nat)) : List Nat := os.flatMap fun t => Oc.nums 2 t.length ++ t
/-- an entry's bytes -/
def laid (e : E) : List Nat :=
  Oc.nums 1 e.client.toNat ++ (Oc.nums 8 e.number.toNat ++ (Oc.nums 1 e.answer.toNat ++ (Oc.nums 1 e.ups.length ++ (laidUps e.ups ++ (Oc.nums 1 e.objs.length ++ laidObjs e.objs)))))
noncomputable def right (e : E) : Bool := formed e && decide ((laid e).length ≤ 2800)
/-- what the answers are: the bytes, or the error -/
inductive Rs where
  | bad (e : Nat)
  | ok (b : List Nat)
noncomputable def bytes (e : E) : Rs := if formed e = true then (if (laid e).length ≤ 2800 then .ok (laid e) else .bad 13) else .bad 4
end En
end Go.Proofs.YtjkneidoochfjaaGreatDoor
/- The walks of layer 3's tests on bytes: letters and figures, closures that tell which bytes a name may have, and whether a text has only such bytes. -/
namespace Go.Proofs.YtjkneidoochfjaaGreatDoor
open Go Go.RowKit
theorem ret_bool {a b : Bool} (h : a = b) : Ending.returned (.bool a) = .returned (.bool b) := by rw [h]
theorem lettr_yes {c : UInt8} (h1 : 97 ≤ (c.toNat : Int)) (h2 : (c.toNat : Int) ≤ 122) : Nm.lettr c = true := by unfold Nm.lettr; rw [decide_eq_true h1, decide_eq_true h2]; rfl
theorem lettr_low {c : UInt8} (h1 : ¬ 97 ≤ (c.toNat : Int)) : Nm.lettr c = false := by unfold Nm.lettr; rw [decide_eq_false h1]; rfl
theorem lettr_high {c : UInt8} (h2 : ¬ (c.toNat : Int) ≤ 122) : Nm.lettr c = false := by unfold Nm.lettr; rw [decide_eq_false h2, Bool.and_false]
theorem figr_yes {c : UInt8} (h1 : 48 ≤ (c.toNat : Int)) (h2 : (c.toNat : Int) ≤ 57) : Nm.figr c = true := by unfold Nm.figr; rw [decide_eq_true h1, decide_eq_true h2]; rfl
theorem figr_low {c : UInt8} (h1 : ¬ 48 ≤ (c.toNat : Int)) : Nm.figr c = false := by unfold Nm.figr; rw [decide_eq_false h1]; rfl
theorem figr_high {c : UInt8} (h2 : ¬ (c.toNat : Int) ≤ 57) : Nm.figr c = false := by unfold Nm.figr; rw [decide_eq_false h2, Bool.and_false]
theorem letter_any (c : UInt8) (w : World) :
    Calls Tryz.prog 79 #[.int .u8 (c.toNat : Int)] w fun e w' => e = .returned (.bool (Nm.lettr c)) ∧ w = w' := by
  by_cases h1 : 97 ≤ (c.toNat : Int)
  · by_cases h2 : (c.toNat : Int) ≤ 122
    · have H := Lib.hid (lettr_yes h1 h2)
      go_enter Tryz.func79, Tryz.ntmps79
      go_wp2
      go_ret
      exact ⟨ret_bool H.out.symm, rfl⟩
    · have H := Lib.hid (lettr_high h2)
      go_enter Tryz.func79, Tryz.ntmps79
      go_wp2
      go_ret
      exact ⟨ret_bool H.out.symm, rfl⟩
  · have H := Lib.hid (lettr_low h1)
    go_enter Tryz.func79, Tryz.ntmps79
    go_wp2
    go_ret
    exact ⟨ret_bool H.out.symm, rfl⟩
theorem figure_any (c : UInt8) (w : World) :
    Calls Tryz.prog 80 #[.int .u8 (c.toNat : Int)] w fun e w' => e = .returned (.bool (Nm.figr c)) ∧ w = w' := by
  by_cases h1 : 48 ≤ (c.toNat : Int)
  · by_cases h2 : (c.toNat : Int) ≤ 57
    · have H := Lib.hid (figr_yes h1 h2)
      go_enter Tryz.func80, Tryz.ntmps80
      go_wp2
      go_ret
      exact ⟨ret_bool H.out.symm, rfl⟩
    · have H := Lib.hid (figr_high h2)
      go_enter Tryz.func80, Tryz.ntmps80
      go_wp2
      go_ret
      exact ⟨ret_bool H.out.symm, rfl⟩
  · have H := Lib.hid (figr_low h1)
    go_enter Tryz.func80, Tryz.ntmps80
    go_wp2
    go_ret
    exact ⟨ret_bool H.out.symm, rfl⟩
theorem rletter_any (c : UInt8) (w : World) :
    Calls Tryz.prog 51 #[.int .u8 (c.toNat : Int)] w fun e w' => e = .returned (.bool (Nm.lettr c)) ∧ w = w' := by
  by_cases h1 : 97 ≤ (c.toNat : Int)
  · by_cases h2 : (c.toNat : Int) ≤ 122
    · have H := Lib.hid (lettr_yes h1 h2)
      go_enter Tryz.func51, Tryz.ntmps51
      go_wp2
      go_ret
      exact ⟨ret_bool H.out.symm, rfl⟩
    · have H := Lib.hid (lettr_high h2)
      go_enter Tryz.func51, Tryz.ntmps51
      go_wp2
      go_ret
      exact ⟨ret_bool H.out.symm, rfl⟩
  · have H := Lib.hid (lettr_low h1)
    go_enter Tryz.func51, Tryz.ntmps51
    go_wp2
    go_ret
    exact ⟨ret_bool H.out.symm, rfl⟩
theorem rdigit_any (c : UInt8) (w : World) :
    Calls Tryz.prog 52 #[.int .u8 (c.toNat : Int)] w fun e w' => e = .returned (.bool (Nm.figr c)) ∧ w = w' := by
  by_cases h1 : 48 ≤ (c.toNat : Int)
  · by_cases h2 : (c.toNat : Int) ≤ 57
    · have H := Lib.hid (figr_yes h1 h2)
      go_enter Tryz.func52, Tryz.ntmps52
      go_wp2
      go_ret
      exact ⟨ret_bool H.out.symm, rfl⟩
    · have H := Lib.hid (figr_high h2)
      go_enter Tryz.func52, Tryz.ntmps52
      go_wp2
      go_ret
      exact ⟨ret_bool H.out.symm, rfl⟩
  · have H := Lib.hid (figr_low h1)
    go_enter Tryz.func52, Tryz.ntmps52
    go_wp2
    go_ret
    exact ⟨ret_bool H.out.symm, rfl⟩
/-! closures -/
theorem oneOf_any (bytes : ByteArray) (w : World) :
    Calls Tryz.prog 77 #[.string bytes] w fun e w' => e = .returned (.func (.func 100) #[] #[.pointer (some ⟨w.heap.size, 0, none⟩)]) ∧ w.alloc (.cells #[.string bytes] 9) = w' := by
  go_enter Tryz.func77, Tryz.ntmps77
  go_wp2
  go_ret
  exact ⟨rfl, rfl⟩
theorem oneOf1_any (c : UInt8) (bytes : ByteArray) (B : Nat) (w : World) (hc : w.cell? ⟨B, 0, none⟩ = some (.string bytes)) :
    Calls Tryz.prog 100 #[.int .u8 (c.toNat : Int), .pointer (some ⟨B, 0, none⟩)] w fun e w' => e = .returned (.bool (Nm.among bytes.data.toList c)) ∧ w = w' := by
  go_enter Tryz.func100, Tryz.ntmps100
  go_wp2_with (go_at_call 91; refine (Any.strings_IndexByte ixb_lays bytes (c.toNat : Int) _).mono ?_; rintro e w' ⟨rfl, rfl⟩)
  go_ret
  exact ⟨ret_bool rfl, rfl⟩
theorem plainOr_any (more : ByteArray) (w : World) :
    Calls Tryz.prog 49 #[.string more] w fun e w' => e = .returned (.func (.func 78) #[] #[.pointer (some ⟨w.heap.size + 1, 0, none⟩)]) ∧
      (w.alloc (.cells #[.string more] 9)).alloc (.cells #[.func (.func 100) #[] #[.pointer (some ⟨w.heap.size, 0, none⟩)]] 98) = w' := by
  go_enter Tryz.func49, Tryz.ntmps49
  go_wp2_with (go_at_call 77; refine (oneOf_any more _).mono ?_; rintro e w' ⟨rfl, rfl⟩)

  go_ret
  exact ⟨by simp, rfl⟩
theorem plainOr1_any (c : UInt8) (more : ByteArray) (B B' : Nat) (w : World) (h1 : w.cell? ⟨B, 0, none⟩ = some (.func (.func 100) #[] #[.pointer (some ⟨B', 0, none⟩)])) (h2 : w.cell? ⟨B', 0, none⟩ = some (.string more)) :
    Calls Tryz.prog 78 #[.int .u8 (c.toNat : Int), .pointer (some ⟨B, 0, none⟩)] w fun e w' => e = .returned (.bool (Nm.plain more.data.toList c)) ∧ w = w' := by
  cases hl : Nm.lettr c
  · cases hf : Nm.figr c
    · have H := Lib.hid (show Nm.plain more.data.toList c = Nm.among more.data.toList c by simp [Nm.plain, hl, hf])
      have C1 := hl ▸ letter_any c
      have C2 := hf ▸ figure_any c
      clear hl hf
      go_enter Tryz.func78, Tryz.ntmps78
      go_wp2_with (first
        | (go_at_call 79; refine (C1 _).mono ?_; rintro e w' ⟨rfl, rfl⟩)
        | (go_at_call 80; refine (C2 _).mono ?_; rintro e w' ⟨rfl, rfl⟩)
        | (go_at_call 100; refine (oneOf1_any c more B' _ h2).mono ?_; rintro e w' ⟨rfl, rfl⟩))
      go_ret
      exact ⟨ret_bool H.out.symm, rfl⟩
    · have H := Lib.hid (show Nm.plain more.data.toList c = true by simp [Nm.plain, hl, hf])
      have C1 := hl ▸ letter_any c
      have C2 := hf ▸ figure_any c
      clear hl hf
      go_enter Tryz.func78, Tryz.ntmps78
      go_wp2_with (first
        | (go_at_call 79; refine (C1 _).mono ?_; rintro e w' ⟨rfl, rfl⟩)
        | (go_at_call 80; refine (C2 _).mono ?_; rintro e w' ⟨rfl, rfl⟩))
      go_ret
      exact ⟨ret_bool H.out.symm, rfl⟩
  · have H := Lib.hid (show Nm.plain more.data.toList c = true by simp [Nm.plain, hl])
    have C1 := hl ▸ letter_any c
    clear hl
    go_enter Tryz.func78, Tryz.ntmps78
    go_wp2_with (first
      | (go_at_call 79; refine (C1 _).mono ?_; rintro e w' ⟨rfl, rfl⟩))
    go_ret
    exact ⟨ret_bool H.out.symm, rfl⟩
/-- What a test on bytes is to a text's walk: it answers, and leaves the world alone. -/
def Tells (g : Nat) (lb : Array Value) (p : UInt8 → Bool) (w : World) : Prop :=
  ∀ (W : World) (c : UInt8), Below w.heap.size w W → Calls Tryz.prog g (#[.int .u8 (c.toNat : Int)] ++ lb) W fun e w' => e = .returned (.bool (p c)) ∧ W = w'
theorem plainOr_tells (more : ByteArray) (B B' : Nat) (w : World) (hB : B < w.heap.size) (hB' : B' < w.heap.size) (h1 : w.cell? ⟨B, 0, none⟩ = some (.func (.func 100) #[] #[.pointer (some ⟨B', 0, none⟩)])) (h2 : w.cell? ⟨B', 0, none⟩ = some (.string more)) :
    Tells 78 #[.pointer (some ⟨B, 0, none⟩)] (Nm.plain more.data.toList) w :=
  fun W c hb => plainOr1_any c more B B' W ((hb.cell (p := ⟨B, 0, none⟩) hB).trans h1) ((hb.cell (p := ⟨B', 0, none⟩) hB').trans h2)
theorem oneOf_tells (bytes : ByteArray) (B : Nat) (w : World) (hB : B < w.heap.size) (h1 : w.cell? ⟨B, 0, none⟩ = some (.string bytes)) :
    Tells 100 #[.pointer (some ⟨B, 0, none⟩)] (Nm.among bytes.data.toList) w :=
  fun W c hb => oneOf1_any c bytes B W ((hb.cell (p := ⟨B, 0, none⟩) hB).trans h1)
theorem all_take {s : ByteArray} {p : UInt8 → Bool} {k : Nat} (h : k < s.size) : (s.data.toList.take (k + 1)).all p = ((s.data.toList.take k).all p && p s[k]) := by
  have e : s.data.toList.take (k + 1) = s.data.toList.take k ++ [s[k]] := by rw [List.take_succ_eq_append_getElem (by simpa using h)]; rfl
  rw [e, List.all_append]; simp
theorem all_hit {s : ByteArray} {p : UInt8 → Bool} {k : Nat} (h : k < s.size) (hp : p s[k] = false) : s.data.toList.all p = false := by
  rw [List.all_eq_false]
  exact ⟨s[k], by rw [show s[k] = s.data.toList[k]'(by simpa using h) from rfl]; exact List.getElem_mem _, by simp [hp]⟩
set_option maxHeartbeats 400000 in
theorem all_any (s : ByteArray) (g : Nat) (lb : Array Value) (p : UInt8 → Bool) (eg : ∀ args w, (callFunc g args).run Tryz.prog w = .ok (.enter g args) w) (w : World) (hs : s.size ≤ maxLen) (hp : Tells g lb p w) :
    Calls Tryz.prog 76 #[.string s, .func (.func g) #[] lb] w fun e w' => e = .returned (.bool (Nm.allL p s.data.toList)) ∧ w = w' := by
  unfold maxLen at hs
  have hb := Below.refl w.heap.size w
  go_enter Tryz.func76, Tryz.ntmps76
  go_wp2
  go_loop [8] (fun i => ∃ k : Nat, k ≤ s.size ∧ i = .int .i64 k ∧ (s.data.toList.take k).all p = true) (fun i => s.size - (intOf i).toNat)
  case atStart => exact ⟨0, Nat.zero_le _, rfl, rfl⟩
  case round =>
    obtain ⟨k, hk, rfl, ha⟩ := hrel
    have HA := Lib.hid ha
    clear ha
    by_cases hlt : k < s.size
    · cases hv : p s[k]
      · have H := Lib.hid ((show Nm.allL p s.data.toList = false from all_hit hlt hv))
        have C := hv ▸ hp w s[k] hb
        clear hv
        go_wp2_with (go_at_fn g; refine C.mono ?_; rintro e w' ⟨rfl, rfl⟩)
        go_ret
        exact ⟨ret_bool H.out.symm, rfl⟩
      · have H := Lib.hid (show (s.data.toList.take (k + 1)).all p = true by rw [all_take hlt, HA.out, hv]; rfl)
        have C := hv ▸ hp w s[k] hb
        clear hv
        go_wp2_with (go_at_fn g; refine C.mono ?_; rintro e w' ⟨rfl, rfl⟩)
        go_round
        case rel => exact ⟨k + 1, by omega, by go_num, H.out⟩
        case measure => simp [intOf]; omega
    · have H := Lib.hid (show Nm.allL p s.data.toList = true by unfold Nm.allL; rw [← HA.out, List.take_of_length_le (by simp; omega)])
      go_wp2
      go_ret
      exact ⟨ret_bool H.out.symm, rfl⟩
end Go.Proofs.YtjkneidoochfjaaGreatDoor
/- The walks of layer 3's Parts, Ref and Repo, and of the chapter's example. -/
namespace Go.Proofs.YtjkneidoochfjaaGreatDoor
open Go Go.RowKit
theorem wrongPart_any (v : Value) (w : World) (g : Nat) (lb : Array Value) (hv : v = .func (.func g) #[] lb) :
    Calls Tryz.prog 48 #[v] w fun e w' => e = .returned (.func (.func 75) #[] #[.pointer (some ⟨w.heap.size, 0, none⟩)]) ∧ w.alloc (.cells #[v] 98) = w' := by
  subst hv
  go_enter Tryz.func48, Tryz.ntmps48
  go_wp2
  go_ret
  exact ⟨rfl, rfl⟩
theorem eg37 : ∀ args w, (callFunc 78 args).run Tryz.prog w = .ok (.enter 78 args) w := enters_of Tryz.func78 (by kernel_rfl) rfl
theorem eg48 : ∀ args w, (callFunc 100 args).run Tryz.prog w = .ok (.enter 100 args) w := enters_of Tryz.func100 (by kernel_rfl) rfl
theorem eg41 : ∀ args w, (callFunc 75 args).run Tryz.prog w = .ok (.enter 75 args) w := enters_of Tryz.func75 (by kernel_rfl) rfl
abbrev dotS : ByteArray := ⟨#[46]⟩
theorem wrongPart1_any (s : ByteArray) (hs : s.size ≤ maxLen) (B g : Nat) (lb : Array Value) (p : UInt8 → Bool) (eg : ∀ args w, (callFunc g args).run Tryz.prog w = .ok (.enter g args) w) (w : World)
    (hc : w.cell? ⟨B, 0, none⟩ = some (.func (.func g) #[] lb)) (hp : Tells g lb p w) :
    Calls Tryz.prog 75 #[.string s, .pointer (some ⟨B, 0, none⟩)] w fun e w' => e = .returned (.bool (!(Nm.allL p s.data.toList) || Nm.allL (Nm.among [46]) s.data.toList)) ∧ Below w.heap.size w w' := by
  have C1 := all_any s g lb p eg w hs hp
  cases ha : Nm.allL p s.data.toList
  · rw [ha] at C1
    clear ha
    go_enter Tryz.func75, Tryz.ntmps75
    go_wp2_with (go_at_call 76; refine C1.mono ?_; rintro e w' ⟨rfl, rfl⟩)
    go_ret
    exact ⟨ret_bool rfl, Below.refl _ _⟩
  · rw [ha] at C1
    clear ha
    have T2 := oneOf_tells dotS w.heap.size (w.alloc (.cells #[.string dotS] 9)) (by simp) (by simp)
    have C2 := all_any s 100 _ _ eg48 (w.alloc (.cells #[.string dotS] 9)) hs T2
    clear T2
    rw [show Nm.among dotS.data.toList = Nm.among [46] from rfl] at C2
    generalize Nm.allL (Nm.among [46]) s.data.toList = r at C2 ⊢
    go_enter Tryz.func75, Tryz.ntmps75
    go_wp2_with (first
      | (go_at_call 76; refine C1.mono ?_; rintro e w' ⟨rfl, rfl⟩; clear C1)
      | (go_at_call 77; refine (oneOf_any dotS _).mono ?_; rintro e w' ⟨rfl, rfl⟩)
      | (go_at_call 76; refine C2.mono ?_; rintro e w' ⟨rfl, rfl⟩))
    go_ret
    exact ⟨ret_bool rfl, (Below.refl _ _).alloc (Nat.le_refl _) _⟩
/-- What a test on texts is to a list's walk. -/
def TellsText (g : Nat) (lb : Array Value) (p : ByteArray → Bool) (w : World) : Prop :=
  ∀ (W : World) (x : ByteArray), x.size ≤ maxLen → Below w.heap.size w W → Calls Tryz.prog g (#[.string x] ++ lb) W fun e w' => e = .returned (.bool (p x)) ∧ Below W.heap.size W w'
def Found (r : Bool) (w : World) (e : Ending) (w' : World) : Prop := ∃ i : Int, e = .returned (.int .i64 i) ∧ decide (0 ≤ i) = r ∧ Below w.heap.size w w'
/-- A row of texts in memory. -/
def Row (w : World) (b off : Nat) (zs : List ByteArray) : Prop := b < w.heap.size ∧ ∀ j x, zs[j]? = some x → w.cell? ⟨b, off + j, none⟩ = some (.string x)
theorem Row.below {w w' : World} {b off : Nat} {zs : List ByteArray} (h : Row w b off zs) (hb : Below w.heap.size w w') : Row w' b off zs :=
  ⟨Nat.lt_of_lt_of_le h.1 hb.size, fun j x hx => (hb.cell (p := ⟨b, off + j, none⟩) h.1).trans (h.2 j x hx)⟩
theorem any_none {zs : List ByteArray} {p : ByteArray → Bool} {k : Nat} (h : ∀ j x, j < k → zs[j]? = some x → p x = false) (hk : zs.length ≤ k) : zs.any p = false := by
  rw [List.any_eq_false]
  intro x hx
  obtain ⟨j, hj⟩ := List.mem_iff_getElem?.1 hx
  rw [h j x (by have := (List.getElem?_eq_some_iff.1 hj).1; omega) hj]; simp
theorem any_at {zs : List ByteArray} {p : ByteArray → Bool} {k : Nat} {x : ByteArray} (h : zs[k]? = some x) (hp : p x = true) : zs.any p = true :=
  List.any_eq_true.2 ⟨x, List.mem_iff_getElem?.2 ⟨k, h⟩, hp⟩
def NoneYet (zs : List ByteArray) (p : ByteArray → Bool) (k : Nat) : Prop := ∀ j x, j < k → zs[j]? = some x → p x = false
set_option maxHeartbeats 400000 in
theorem indexFunc_any (g : Nat) (lb : Array Value) (p : ByteArray → Bool) (eg : ∀ args w, (callFunc g args).run Tryz.prog w = .ok (.enter g args) w) (b off c : Nat) (zs : List ByteArray) (w : World)
    (hp : TellsText g lb p w) (hbig : zs.length ≤ 9223372036854775807) (hz : ∀ x ∈ zs, x.size ≤ maxLen) (hr : Row w b off zs) :
    Calls Tryz.prog 74 #[.slice (some ⟨b, off, none⟩) zs.length c, .func (.func g) #[] lb] w (Found (zs.any p) w) := by
  have HZ := Lib.hid hz
  clear hz
  go_enter Tryz.func74, Tryz.ntmps74
  go_wp2
  go_loopw [8] (fun i wr => ∃ k : Nat, k ≤ zs.length ∧ i = .int .i64 k ∧ Hid (NoneYet zs p k) ∧ Hid (Below w.heap.size w wr)) (fun i _ => zs.length - (intOf i).toNat)
  case atStart => exact ⟨0, Nat.zero_le _, rfl, Lib.hid (fun j x hj => absurd hj (Nat.not_lt_zero _)), Lib.hid (Below.refl _ _)⟩
  case round =>
    obtain ⟨k, hk, rfl, HN, HB⟩ := hrel
    by_cases hlt : k < zs.length
    · have hx : zs[k]? = some zs[k] := by simp [hlt]
      have hcell := (hr.below HB.out).2 k _ hx
      have hsz := HZ.out zs[k] (List.getElem_mem hlt)
      have C := hp wr zs[k] hsz HB.out
      have HX := Lib.hid hx
      generalize zs[k] = x at hcell C HX hsz
      clear hx
      cases hv : p x
      · have H := Lib.hid (show NoneYet zs p (k + 1) from fun j y hj hy => by
          rcases Nat.lt_succ_iff_lt_or_eq.1 hj with h | rfl
          · exact HN.out j y h hy
          · rw [HX.out] at hy; obtain rfl := Option.some.inj hy; exact hv)
        rw [hv] at C
        clear hv
        go_wp2_with (go_at_fn g; refine C.mono ?_; rintro e w' ⟨rfl, hb⟩; have HB2 := Lib.hid (HB.out.trans (hb.mono HB.out.size)); clear hb)
        go_roundw
        case rel => exact ⟨k + 1, by omega, by go_num, H, HB2⟩
        case measure => simp [intOf]; omega
      · have H := Lib.hid (any_at HX.out hv)
        rw [hv] at C
        clear hv
        go_wp2_with (go_at_fn g; refine C.mono ?_; rintro e w' ⟨rfl, hb⟩; have HB2 := Lib.hid (HB.out.trans (hb.mono HB.out.size)); clear hb)
        go_ret
        exact ⟨k, rfl, by rw [H.out]; simp, HB2.out⟩
    · have H := Lib.hid (any_none HN.out (by omega))
      go_wp2
      go_ret
      exact ⟨-1, rfl, by rw [H.out]; rfl, HB.out⟩
theorem containsFunc_any (g : Nat) (lb : Array Value) (p : ByteArray → Bool) (eg : ∀ args w, (callFunc g args).run Tryz.prog w = .ok (.enter g args) w) (b off c : Nat) (zs : List ByteArray) (w : World)
    (hp : TellsText g lb p w) (hbig : zs.length ≤ 9223372036854775807) (hz : ∀ x ∈ zs, x.size ≤ maxLen) (hr : Row w b off zs) (r : Bool) (hres : zs.any p = r) :
    Calls Tryz.prog 47 #[.slice (some ⟨b, off, none⟩) zs.length c, .func (.func g) #[] lb] w fun e w' => e = .returned (.bool r) ∧ Below w.heap.size w w' := by
  have C := indexFunc_any g lb p eg b off c zs w hp hbig hz hr
  rw [hres] at C
  clear hz hres
  go_enter Tryz.func47, Tryz.ntmps47
  go_wp2_with (go_at_call 74; refine C.mono ?_; rintro e w' ⟨i, rfl, hi, hb⟩; have HI := Lib.hid hi; clear hi; have HB := Lib.hid hb; clear hb)
  go_ret
  exact ⟨ret_bool HI.out, HB.out⟩
end Go.Proofs.YtjkneidoochfjaaGreatDoor
/- The walks of layer 3's Parts, Ref and Repo, and of the chapter's example. -/
namespace Go.Proofs.YtjkneidoochfjaaGreatDoor
open Go Go.RowKit
/-- The library's variable that Split reads: some number. -/
def MaxAt (w : World) : Prop := 22 < w.heap.size ∧ ∃ m : Int, w.cell? ⟨22, 0, none⟩ = some (.int .i64 m)
theorem MaxAt.below {B : Nat} {w w' : World} (h : MaxAt w) (hb : Below B w w') (hB : w.heap.size ≤ B) : MaxAt w' :=
  ⟨Nat.lt_of_lt_of_le h.1 hb.size, h.2.elim fun m hm => ⟨m, (hb.cell (p := ⟨22, 0, none⟩) (Nat.lt_of_lt_of_le h.1 hB)).trans hm⟩⟩
abbrev slashS : ByteArray := ⟨#[47]⟩
theorem parts_any (s : ByteArray) (w : World) (hm : MaxAt w) (hs : s.size < 4294967281) :
    Calls Tryz.prog 46 #[.string s] w fun e w' => e = .returned (.slice (some ⟨w.heap.size, 0, none⟩) (Nm.cut s).length (Nm.cut s).length) ∧ w.alloc (.cells ((Nm.cut s).map Value.string).toArray 9) = w' := by
  obtain ⟨_, m, hm⟩ := hm
  have C := Tryz.strings_Split s slashS m w hs hm (by decide)
  rw [show Lib.splitB slashS 0 (Lib.countB s slashS) s = Nm.cut s from rfl, show Lib.countB s slashS + 1 = (Nm.cut s).length from (Nm.cut_len s).symm] at C
  generalize Nm.cut s = l at C ⊢
  clear hm hs
  go_enter Tryz.func46, Tryz.ntmps46
  go_wp2_with (go_at_call 73; refine C.mono ?_; rintro e w' ⟨rfl, rfl⟩)
  go_ret
  exact ⟨rfl, rfl⟩
theorem row_new (w : World) (zs : List ByteArray) (t : TypeId) : Row (w.alloc (.cells (zs.map Value.string).toArray t)) w.heap.size 0 zs :=
  ⟨by simp, fun j x hx => by rw [(Blk.new w t _).cell]; simp [hx]⟩
theorem ref_long {s : ByteArray} (h : ¬ s.size ≤ 24) : Nm.ref s.data.toList = false := by
  have e : s.data.toList.length = s.size := by simp
  unfold Nm.ref; rw [e, decide_eq_false h]; rfl
theorem ref_few {s : ByteArray} (h : ¬ 2 ≤ (Nm.cut s).length) : Nm.ref s.data.toList = false := by
  have e : (Nm.parts s.data.toList).length = (Nm.cut s).length := by rw [Nm.parts_len, Nm.cut_len]
  unfold Nm.ref; rw [e, decide_eq_false h, Bool.and_false]; rfl
theorem ref_else {s : ByteArray} (h1 : s.size ≤ 24) (h2 : 2 ≤ (Nm.cut s).length) : Nm.ref s.data.toList = !((Nm.cut s).any fun x => Nm.bad x.data.toList) := by
  have e1 : s.data.toList.length = s.size := by simp
  have e2 : (Nm.parts s.data.toList).length = (Nm.cut s).length := by rw [Nm.parts_len, Nm.cut_len]
  unfold Nm.ref; rw [e1, e2, decide_eq_true h1, decide_eq_true h2, Nm.any_cut]; rfl
abbrev hyphDotS : ByteArray := ⟨#[45, 46]⟩
/-- The test that Ref hands to the library, in a world that holds its blocks. -/
theorem wrong_tells (w : World) (B3 B2 B1 : Nat) (h3 : B3 < w.heap.size) (h2 : B2 < w.heap.size) (h1 : B1 < w.heap.size) (c3 : w.cell? ⟨B3, 0, none⟩ = some (.func (.func 78) #[] #[.pointer (some ⟨B2, 0, none⟩)]))
    (c2 : w.cell? ⟨B2, 0, none⟩ = some (.func (.func 100) #[] #[.pointer (some ⟨B1, 0, none⟩)])) (c1 : w.cell? ⟨B1, 0, none⟩ = some (.string hyphDotS)) :
    TellsText 75 #[.pointer (some ⟨B3, 0, none⟩)] (fun x => Nm.bad x.data.toList) w := fun W x hx hb => by
  have k3 := (hb.cell (p := ⟨B3, 0, none⟩) h3).trans c3
  have k2 := (hb.cell (p := ⟨B2, 0, none⟩) h2).trans c2
  have k1 := (hb.cell (p := ⟨B1, 0, none⟩) h1).trans c1
  have hz := hb.size
  exact wrongPart1_any x hx B3 78 _ _ eg37 W k3 (plainOr_tells hyphDotS B2 B1 W (by omega) (by omega) k2 k1)
set_option maxHeartbeats 400000 in
theorem ref_any (s : ByteArray) (w : World) (hm : MaxAt w) :
    Calls Tryz.prog 26 #[.string s] w fun e w' => e = .returned (.bool (Nm.ref s.data.toList)) ∧ Below w.heap.size w w' := by
  by_cases hs : s.size ≤ 24
  · have CP := parts_any s w hm (by omega)
    have HZ := Lib.hid (Nm.cut_size s)
    have hs' : 0 ≤ s.size := Nat.zero_le _
    by_cases h2 : 2 ≤ (Nm.cut s).length
    · have HR := Lib.hid (ref_else hs h2)
      have hR : Row (w.alloc (.cells ((Nm.cut s).map Value.string).toArray 9)) w.heap.size 0 (Nm.cut s) := row_new _ _ _
      have hl : (Nm.cut s).length ≤ 9223372036854775807 := by
        have := Lib.countB_le slashS (Nat.le_refl _) _ s (Nat.le_refl _)
        rw [Nm.cut_len]; show Lib.countB s slashS + 1 ≤ _; omega
      have hB0 : Below w.heap.size w (w.alloc (.cells ((Nm.cut s).map Value.string).toArray 9)) := (Below.refl _ _).alloc (Nat.le_refl _) _
      have HB0 := Lib.hid hB0
      clear hB0
      have HRow := Lib.hid hR
      clear hR
      generalize Nm.cut s = l at *
      generalize hr : (l.any fun x => Nm.bad x.data.toList) = r at HR
      have HRes := Lib.hid hr
      clear hr
      go_enter Tryz.func26, Tryz.ntmps26
      go_wp2_with fail
      refine CP.mono ?_
      rintro e w1 ⟨rfl, hw1⟩
      rw [hw1] at HB0 HRow
      clear hw1 CP
      go_wp2_with fail
      refine (plainOr_any hyphDotS _).mono ?_
      rintro e w2 ⟨rfl, rfl⟩
      go_wp2_with fail
      refine (wrongPart_any _ _ _ _ rfl).mono ?_
      rintro e w3 ⟨rfl, rfl⟩
      go_wp2_with fail
      have hT := wrong_tells (((w1.alloc (.cells #[.string hyphDotS] 9)).alloc (.cells #[.func (.func 100) #[] #[.pointer (some ⟨w1.heap.size, 0, none⟩)]] 98)).alloc (.cells #[.func (.func 78) #[] #[.pointer (some ⟨w1.heap.size + 1, 0, none⟩)]] 98)) (w1.heap.size + 1 + 1) (w1.heap.size + 1) w1.heap.size
        (by simp) (by simp <;> omega) (by simp <;> omega) ?k1 ?k2 ?k3
      case k1 => have h := (Blk.new ((w1.alloc (.cells #[.string hyphDotS] 9)).alloc (.cells #[.func (.func 100) #[] #[.pointer (some ⟨w1.heap.size, 0, none⟩)]] 98)) 98 #[.func (.func 78) #[] #[.pointer (some ⟨w1.heap.size + 1, 0, none⟩)]]).cell 0; simpa using h
      case k2 => have h := ((Blk.new (w1.alloc (.cells #[.string hyphDotS] 9)) 98 #[.func (.func 100) #[] #[.pointer (some ⟨w1.heap.size, 0, none⟩)]]).alloc (.cells #[.func (.func 78) #[] #[.pointer (some ⟨w1.heap.size + 1, 0, none⟩)]] 98)).cell 0; simpa using h
      case k3 => have h := (((Blk.new w1 9 #[.string hyphDotS]).alloc (.cells #[.func (.func 100) #[] #[.pointer (some ⟨w1.heap.size, 0, none⟩)]] 98)).alloc (.cells #[.func (.func 78) #[] #[.pointer (some ⟨w1.heap.size + 1, 0, none⟩)]] 98)).cell 0; simpa using h
      have hB3 : Below w1.heap.size w1 (((w1.alloc (.cells #[.string hyphDotS] 9)).alloc (.cells #[.func (.func 100) #[] #[.pointer (some ⟨w1.heap.size, 0, none⟩)]] 98)).alloc (.cells #[.func (.func 78) #[] #[.pointer (some ⟨w1.heap.size + 1, 0, none⟩)]] 98)) := by
        refine ((((Below.refl _ _).alloc (Nat.le_refl _) _).alloc ?_ _).alloc ?_ _) <;> simp <;> omega
      generalize ((w1.alloc (.cells #[.string hyphDotS] 9)).alloc (.cells #[.func (.func 100) #[] #[.pointer (some ⟨w1.heap.size, 0, none⟩)]] 98)).alloc (.cells #[.func (.func 78) #[] #[.pointer (some ⟨w1.heap.size + 1, 0, none⟩)]] 98) = w4 at hT hB3 ⊢
      have HB3 := Lib.hid hB3
      clear hB3
      refine (containsFunc_any _ _ _ eg41 w.heap.size 0 l.length l w4 hT hl (fun x hx => by have := HZ.out x hx; unfold maxLen; omega) (HRow.out.below HB3.out) r HRes.out).mono ?_
      rintro e w5 ⟨rfl, hb5⟩
      have HB5 := Lib.hid (HB0.out.trans ((HB3.out.trans (hb5.mono HB3.out.size)).mono HB0.out.size))
      clear hb5 hT
      go_wp2_with fail
      go_ret
      exact ⟨ret_bool HR.out.symm, HB5.out⟩
    · have HR := Lib.hid (ref_few h2)
      clear HZ
      generalize Nm.cut s = l at *
      go_enter Tryz.func26, Tryz.ntmps26
      go_wp2_with (go_at_call 46; refine CP.mono ?_; rintro e w1 ⟨rfl, rfl⟩)
      go_ret
      exact ⟨ret_bool HR.out.symm, (Below.refl _ _).alloc (Nat.le_refl _) _⟩
  · have HR := Lib.hid (ref_long hs)
    go_enter Tryz.func26, Tryz.ntmps26
    go_wp2
    go_ret
    exact ⟨ret_bool HR.out.symm, Below.refl _ _⟩
theorem len_list (s : ByteArray) : s.data.toList.length = s.size := by simp
end Go.Proofs.YtjkneidoochfjaaGreatDoor
