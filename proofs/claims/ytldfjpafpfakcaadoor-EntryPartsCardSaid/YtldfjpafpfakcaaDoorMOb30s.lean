/- object.read of any bytes; object.Parse. -/
import Derived.Test.YtldfjpafpfakcaaDoorMOb29
import Derived.Test.YtldfjpafpfakcaaDoorMEn4s
import Derived.Test.YtldfjpafpfakcaaDoorMOct5s
import Derived.Test.YtldfjpafpfakcaaDoorMBases
import Derived.ChangeAlike
import Derived.WalkSpells
import Derived.Laws.EntriesVeiled
namespace Go.Proofs.YtldfjpafpfakcaaDoor
open Go Go.RowKit
theorem oread_any (i r : Nat) (xs : List Nat) (a : Nat → Addr) (w0 w : World) (h : InAt w0 w i r xs) (hb : Oc.bytes xs) (hz : xs.length ≤ 300) (hS : PSents w0 a) :
    Calls Tryd.prog 24 #[.pointer (some ⟨i, 0, none⟩)] w fun e w' => ReadPost xs a w0 w i r e w' := by
  obtain _ | ⟨c, ys⟩ := xs
  · exact oread_nil i r a w0 w h hS
  · by_cases h1 : c = 98
    · subst h1; exact oread_blob i r ys a w0 w h hb hz hS
    · by_cases h2 : c = 116
      · subst h2; exact oread_tree i r ys a w0 w h hb hz hS
      · by_cases h3 : c = 99
        · subst h3
          rcases Nat.lt_trichotomy ys.length 32 with h4 | h4 | h4
          · exact oread_commit0 i r ys a w0 w h hb hz hS h4
          · exact oread_commit1 i r ys a w0 w h hb hz hS h4
          · exact oread_commit i r ys a w0 w h hb hz hS h4
        · by_cases h4 : c = 103
          · subst h4
            rcases Nat.lt_or_ge ys.length 32 with h5 | h5
            · exact oread_tag0 i r ys a w0 w h hb hz hS h5
            · exact oread_tag i r ys a w0 w h hb hz hS h5
          · exact oread_kind i r c ys a w0 w h hb hz hS h1 h2 h3 h4
theorem ObO.up {m g : Nat} {w w' : World} {o : Ob} {cs : Array Value} {T E P : Option Addr} {tc ec pc : Nat} (h : ObO g w o cs T tc E ec P pc) (hm : m < g) (hg : w.grownBy w' (some m)) : ObO m w' o cs T tc E ec P pc :=
  ⟨h.cells, own_low (h.text.kept hg (own_far h.text hm)) (by omega), own_low (h.ents.kept hg (own_far h.ents hm)) (by omega), own_low (h.pars.kept hg (own_far h.pars hm)) (by omega)⟩
theorem obj_empty : Tryd.prog.built 51 [] = some zOc := by
  rw [built_of iobj_under obj_zero obj_places, zOc_cells]
  exact fill_done _ _
theorem read_enters (args : Array Value) (w : World) : (callFunc 24 args).run Tryd.prog w = .ok (.enter 24 args) w := by kernel_rfl
set_option maxRecDepth 100000 in
theorem oparse_ok (o : Ob) (xs : List Nat) (a : Nat → Addr) (v : Value) (w : World) (hv : Rd w v xs) (hb : Oc.bytes xs) (hz : xs.length ≤ 300) (hS : PSents w a) (hp : Ob.parse xs = .ok o) :
    Calls Tryd.prog 12 #[v] w fun e w' => ∃ cs T tc E ec P pc, e = .returned (.tuple #[.agg cs, .nilIface]) ∧ o.Fit ∧ o.Held ∧ ObO w.heap.size w' o cs T tc E ec P pc ∧ Below w.heap.size w w' := by
  have hv0 := hv
  obtain ⟨A, c, rfl, _⟩ := hv0
  have hwa : Below w.heap.size w (w.alloc (.cells zOc 51)) := (Below.refl _ _).alloc (Nat.le_refl _) _
  have CT := takeO_ok 24 #[] w (w.alloc (.cells zOc 51)) A xs.length c xs (fun m cs w' => ∃ T tc E ec P pc, o.Fit ∧ o.Held ∧ ObO m w' o cs T tc E ec P pc) read_enters hwa hv
    (fun w2 i r _ _ hi _ => (oread_any i r xs a w w2 hi hb hz hS).mono fun e w' hq => by
      obtain ⟨cs, T, tc, E, ec, P, pc, he, h1, h2, h3, h4, h5⟩ := hq.2 o hp
      refine ⟨cs, he, ?_, h3.one, h4, h5, T, tc, E, ec, P, pc, h1, h2, h3⟩
      rw [h3.cells, cellsOb_size _ _ _ _ _ h1.target.1])
    (fun m cs x y ⟨T, tc, E, ec, P, pc, h1, h2, h3⟩ hk => ⟨T, tc, E, ec, P, pc, h1, h2, h3.kept hk⟩)
  have HWA := Lib.hid hwa
  have i1 : ¬ ((xs.length : Int) > 300) := by omega
  clear hwa hv hb hz hS hp
  go_enter Tryd.func12, Tryd.ntmps12
  go_wp2_with (go_at_call 23; refine pause ?_)
  unfold Paused
  change Calls _ _ _ (w.alloc (.cells zOc 51)) _
  refine CT.mono ?_
  rintro e w3 ⟨cs, m, rfl, hs, hm, ⟨T, tc, E, ec, P, pc, hf, hd, ho⟩, hb3⟩
  have HM : Hid (w.heap.size < m) := Lib.hid (by have h := hm; simp at h; omega)
  have HS3 := Lib.hid hs
  have HF := Lib.hid hf
  have HD := Lib.hid hd
  have HO := Lib.hid ho
  have HB3 : Hid (Below w.heap.size w w3) := Lib.hid (HWA.out.trans (hb3.mono (by simp)))
  have HZ3 : Hid (Blk w3 w.heap.size 51 zOc) := Lib.hid ((Blk.new w 51 zOc).below hb3 (by simp))
  clear hs hf hd ho hb3 hm CT
  go_wp2_with (with_reducible (show wpList _ _ _ (Oper.mk _ (Op.store 51 _ _) _ _ _ _ :: _) _ _); refine pause ?_)
  unfold Paused
  refine wpList_store_row (by rfl) 51 (.tmp 2) (.tmp 11) (by rfl) w.heap.size cs (by rfl) (by rfl) 51 zOc HZ3.out (by rw [HS3.out]; kernel_rfl) (by rw [HS3.out]; rfl) (ObO.one HO.out) ?_
  have HR := Lib.hid (HZ3.out.row cs)
  have HG : Hid (w3.grownBy (w3.setRow w.heap.size cs) (some w.heap.size)) := Lib.hid (only_setRow (World.grownBy.refl w3 _) (Or.inl rfl) _)
  have HB : Hid (Below w.heap.size w (w3.setRow w.heap.size cs)) := Lib.hid (below_row HB3.out (Nat.le_refl _) _)
  generalize w3.setRow w.heap.size cs = w4 at HR HG HB ⊢
  go_wp2
  exact bodyPost_ret (v := .tuple #[.agg cs, .nilIface]) (resultsO2 (t := 2) (s := 3) rfl (by rfl) HR.out HS3.out) rfl ⟨cs, T, tc, E, ec, P, pc, rfl, HF.out, HD.out, HO.out.up HM.out HG.out, HB.out⟩
set_option maxRecDepth 100000 in
theorem oparse_bad (n : Nat) (xs : List Nat) (a : Nat → Addr) (v : Value) (w : World) (hv : Rd w v xs) (hb : Oc.bytes xs) (hz : xs.length ≤ 300) (hS : PSents w a) (hp : Ob.parse xs = .bad n) :
    Calls Tryd.prog 12 #[v] w fun e w' => e = .returned (.tuple #[.agg zOc, ev (a (n - 1))]) ∧ Below w.heap.size w w' := by
  have hv0 := hv
  obtain ⟨A, c, rfl, _⟩ := hv0
  have hwa : Below w.heap.size w (w.alloc (.cells zOc 51)) := (Below.refl _ _).alloc (Nat.le_refl _) _
  have CT := takeO_bad 24 #[] w (w.alloc (.cells zOc 51)) A xs.length c xs (a (n - 1)) read_enters hwa hv
    (fun w2 i r _ _ hi _ => (oread_any i r xs a w w2 hi hb hz hS).mono fun e w' hq => hq.1 n hp)
  have HWA := Lib.hid hwa
  have i1 : ¬ ((xs.length : Int) > 300) := by omega
  clear hwa hv hb hz hS hp
  go_enter Tryd.func12, Tryd.ntmps12
  go_wp2_with (go_at_call 23; refine pause ?_)
  unfold Paused
  change Calls _ _ _ (w.alloc (.cells zOc 51)) _
  refine CT.mono ?_
  rintro e w3 ⟨rfl, hb3⟩
  have HB3 : Hid (Below w.heap.size w w3) := Lib.hid (HWA.out.trans (hb3.mono (by simp)))
  have HZ3 : Hid (Blk w3 w.heap.size 51 zOc) := Lib.hid ((Blk.new w 51 zOc).below hb3 (by simp))
  clear hb3 CT
  go_wp2_with (with_reducible (show wpList _ _ _ (Oper.mk _ (Op.store 51 _ _) _ _ _ _ :: _) _ _); refine pause ?_)
  unfold Paused
  refine wpList_store_row (by rfl) 51 (.tmp 2) (.tmp 11) (by rfl) w.heap.size zOc (by rfl) (by rfl) 51 zOc HZ3.out (by kernel_rfl) (by rfl) (by kernel_rfl) ?_
  have HR := Lib.hid (HZ3.out.row zOc)
  have HB : Hid (Below w.heap.size w (w3.setRow w.heap.size zOc)) := Lib.hid (below_row HB3.out (Nat.le_refl _) _)
  generalize w3.setRow w.heap.size zOc = w4 at HR HB ⊢
  go_wp2
  exact bodyPost_ret (v := .tuple #[.agg zOc, ev (a (n - 1))]) (resultsO2 (t := 2) (s := 3) rfl (by rfl) HR.out (by kernel_rfl)) rfl ⟨rfl, HB.out⟩
set_option maxRecDepth 100000 in
theorem oparse_large (aG : Addr) (xs : List Nat) (v : Value) (w : World) (hv : Rd w v xs) (hz : 300 < xs.length) (hS : w.cell? ⟨1, 0, none⟩ = some (ev aG)) :
    Calls Tryd.prog 12 #[v] w fun e w' => e = .returned (.tuple #[.agg zOc, ev aG]) ∧ Below w.heap.size w w' := by
  obtain ⟨A, c, rfl, _⟩ := hv
  have hm : Tryd.prog.follows .mixedOrders = true := by kernel_rfl
  obtain ⟨w6, hw6⟩ : ∃ w6, w6 = w.alloc (.cells zOc 51) := ⟨_, rfl⟩
  have HWA : Hid (Below w.heap.size w w6) := Lib.hid (hw6 ▸ (Below.refl _ _).alloc (Nat.le_refl _) _)
  have HZ6 : Hid (Blk w6 w.heap.size 51 zOc) := Lib.hid (hw6 ▸ Blk.new w 51 zOc)
  have pL : w6.cell? ⟨1, 0, none⟩ = some (ev aG) := (HWA.out.cell (block_lt_of_cell hS)).trans hS
  have e2 := hw6.symm
  have i1 : (xs.length : Int) > 300 := by omega
  clear hS hz hw6
  go_enter Tryd.func12, Tryd.ntmps12
  go_wp2
  refine wp_region_held (S := fun w' => w' = w6.drew) hm ?_
  change wpAnyH _ _ _ _ _ _ _ _ (w.alloc (.cells zOc 51)).drew
  rw [e2]
  refine wpAnyH_take (i := 1) (v := ?_) rfl (by kernel_rfl) (by kernel_rfl) (by kernel_rfl) (fun _ _ _ h => h) (Or.inl ⟨by rfl, ?_⟩) rfl ?_
  rotate_left
  · rintro w' rfl; go_simp; with_reducible rfl
  try simp only [Act.put, List.getElem_toArray, List.getElem_cons_zero, List.getElem_cons_succ, List.setIfInBounds_toArray, List.set_cons_zero, List.set_cons_succ]
  refine all_one (i := 0) (by kernel_rfl) rfl (by rfl) (fun K hK => ?_)
  refine wp_buildK 51 _ (by rfl) [] (by simp) zOc obj_empty ?_
  refine hK _ _ rfl ?_
  try simp only [Act.put, List.getElem_toArray, List.getElem_cons_zero, List.setIfInBounds_toArray, List.set_cons_zero, List.set_cons_succ]
  refine all_one (i := 2) (by kernel_rfl) rfl (by rfl) (fun K hK => ?_)
  refine wp_store_row 51 (.tmp 2) (.tmp 7) (by rfl) w.heap.size zOc (by rfl) (by rfl) 51 zOc HZ6.out.drew (by kernel_rfl) (by rfl) (by kernel_rfl) ?_
  rw [setRow_self w6.drew w.heap.size zOc 51 (0, 0) HZ6.out.drew]
  refine hK _ _ rfl ?_
  try simp only [Act.put, List.getElem_toArray, List.getElem_cons_zero, List.getElem_cons_succ]
  refine all_one (i := 3) (by kernel_rfl) rfl (by rfl) (fun K hK => ?_)
  go_simp
  refine hK _ _ rfl ?_
  try simp only [Act.put, List.getElem_toArray, List.getElem_cons_zero, List.getElem_cons_succ, List.setIfInBounds_toArray, List.set_cons_zero, List.set_cons_succ]
  refine wpAnyH_done (by kernel_rfl) ?_ _
  clear pL
  go_wp2
  exact bodyPost_ret (v := .tuple #[.agg zOc, ev aG]) (resultsO2 (t := 2) (s := 3) rfl (by rfl) HZ6.out.drew (by kernel_rfl)) rfl ⟨rfl, below_drewN HWA.out 1⟩
end Go.Proofs.YtldfjpafpfakcaaDoor
/- An object that is right is what its bytes are parsed as; bytes that are an object are its bytes. -/
namespace Go.Proofs.YtldfjpafpfakcaaDoor
open Go Go.RowKit
end Go.Proofs.YtldfjpafpfakcaaDoor
/- Which entries are right, and what they are as bytes, said plainly. -/
namespace Go.Proofs.YtldfjpafpfakcaaDoor
open Go Go.RowKit
namespace En
/-- texts, each with a mark: all are marked, and none stands twice -/
noncomputable def once (l : List (ByteArray × Bool)) : Bool := @decide ((∀ p ∈ l, p.2 = true) ∧ (l.map (·.1)).Nodup) (Classical.propDecidable _)
theorem once_iff (l : List (ByteArray × Bool)) : once l = true ↔ ((∀ p ∈ l, p.2 = true) ∧ (l.map (·.1)).Nodup) := @decide_eq_true_iff _ (Classical.propDecidable _)
theorem once_nil : once [] = true := (once_iff _).2 ⟨fun _ h => (by cases h), List.nodup_nil⟩
theorem once_snoc {l : List (ByteArray × Bool)} {p : ByteArray × Bool} (h : once l = true) (h1 : p.2 = true) (h2 : p.1 ∉ l.map (·.1)) : once (l ++ [p]) = true := by
  rw [once_iff] at h ⊢
  refine ⟨fun q hq => ?_, ?_⟩
  · rcases List.mem_append.1 hq with hq | hq
    · exact h.1 q hq
    · rw [List.mem_singleton.1 hq]; exact h1
  · rw [List.map_append, List.nodup_append]
    refine ⟨h.2, by simp, fun a ha b hb e => ?_⟩
    simp only [List.map_cons, List.map_nil, List.mem_singleton] at hb
    subst e hb
    exact h2 ha
theorem once_bad {l : List (ByteArray × Bool)} {k : Nat} (hk : k < l.length) (h1 : l[k].2 = false) : once l = false := by
  cases h : once l with
  | false => rfl
  | true => rw [((once_iff l).1 h).1 _ (List.getElem_mem hk)] at h1; cases h1
theorem once_twice {l : List (ByteArray × Bool)} {k : Nat} (hk : k < l.length) (h1 : l[k].1 ∈ (l.take k).map (·.1)) : once l = false := by
  cases h : once l with
  | false => rfl
  | true =>
    have h2 := ((once_iff l).1 h).2
    rw [← List.take_append_drop k l, List.map_append, List.nodup_append] at h2
    refine absurd rfl (h2.2.2 _ h1 _ (List.mem_map.2 ⟨l[k], ?_, rfl⟩))
    rw [List.drop_eq_getElem_cons hk]
    exact List.mem_cons_self ..
/-- is a text an object's -/
noncomputable def objOk (x : List Nat) : Bool := @decide (x.length ≤ 300 ∧ ∃ o, Ob.parse x = .ok o) (Classical.propDecidable _)
theorem objOk_iff (x : List Nat) : objOk x = true ↔ (x.length ≤ 300 ∧ ∃ o, Ob.parse x = .ok o) := @decide_eq_true_iff _ (Classical.propDecidable _)
noncomputable def upKey (u : Up) : ByteArray × Bool := (u.ref, Nm.ref u.ref.data.toList && !(eqv u.old u.new))
noncomputable def obKey (x : List Nat) : ByteArray × Bool := (textOf x, objOk x)
noncomputable def upsOk (us : List Up) : Bool := decide (1 ≤ us.length) && (decide (us.length ≤ 8) && once (us.map upKey))
noncomputable def objsOk (os : List (List Nat)) : Bool := decide (os.length ≤ 64) && once (os.map obKey)
/-- an entry is right, but for its length -/
noncomputable def formed (e : E) : Bool :=
  decide (0 ≤ e.client) && (decide (e.client < 8) && (decide (1 ≤ e.number) && (decide (e.number ≤ 1099511627776) && (decide (0 ≤ e.answer) && (decide (e.answer ≤ 10) &&
    (if e.answer = 0 then upsOk e.ups && objsOk e.objs else decide (e.ups.length = 0) && decide (e.objs.length = 0)))))))
def laidUps (us : List Up) : List Nat := us.flatMap fun u => Oc.nums 2 (strB u.ref).length ++ strB u.ref ++ u.old ++ u.new
def laidObjs (os : List (List Nat)) : List Nat := os.flatMap fun t => Oc.nums 2 t.length ++ t
/-- an entry's bytes -/
def laid (e : E) : List Nat :=
  Oc.nums 1 e.client.toNat ++ (Oc.nums 8 e.number.toNat ++ (Oc.nums 1 e.answer.toNat ++ (Oc.nums 1 e.ups.length ++ (laidUps e.ups ++ (Oc.nums 1 e.objs.length ++ laidObjs e.objs)))))
noncomputable def right (e : E) : Bool := formed e && decide ((laid e).length ≤ 2800)
/-- what the answers are: the bytes, or the error -/
inductive Rs where
  | bad (e : Nat)
  | ok (b : List Nat)
noncomputable def bytes (e : E) : Rs := if formed e = true then (if (laid e).length ≤ 2800 then .ok (laid e) else .bad 13) else .bad 4
end En
end Go.Proofs.YtldfjpafpfakcaaDoor
/- The walks of layer 3's tests on bytes: letters and figures, closures that tell which bytes a name may have, and whether a text has only such bytes. -/
namespace Go.Proofs.YtldfjpafpfakcaaDoor
open Go Go.RowKit
theorem ret_bool {a b : Bool} (h : a = b) : Ending.returned (.bool a) = .returned (.bool b) := by rw [h]
theorem lettr_yes {c : UInt8} (h1 : 97 ≤ (c.toNat : Int)) (h2 : (c.toNat : Int) ≤ 122) : Nm.lettr c = true := by unfold Nm.lettr; rw [decide_eq_true h1, decide_eq_true h2]; rfl
theorem lettr_low {c : UInt8} (h1 : ¬ 97 ≤ (c.toNat : Int)) : Nm.lettr c = false := by unfold Nm.lettr; rw [decide_eq_false h1]; rfl
theorem lettr_high {c : UInt8} (h2 : ¬ (c.toNat : Int) ≤ 122) : Nm.lettr c = false := by unfold Nm.lettr; rw [decide_eq_false h2, Bool.and_false]
theorem figr_yes {c : UInt8} (h1 : 48 ≤ (c.toNat : Int)) (h2 : (c.toNat : Int) ≤ 57) : Nm.figr c = true := by unfold Nm.figr; rw [decide_eq_true h1, decide_eq_true h2]; rfl
theorem figr_low {c : UInt8} (h1 : ¬ 48 ≤ (c.toNat : Int)) : Nm.figr c = false := by unfold Nm.figr; rw [decide_eq_false h1]; rfl
theorem figr_high {c : UInt8} (h2 : ¬ (c.toNat : Int) ≤ 57) : Nm.figr c = false := by unfold Nm.figr; rw [decide_eq_false h2, Bool.and_false]
theorem letter_any (c : UInt8) (w : World) :
    Calls Tryd.prog 79 #[.int .u8 (c.toNat : Int)] w fun e w' => e = .returned (.bool (Nm.lettr c)) ∧ w = w' := by
  by_cases h1 : 97 ≤ (c.toNat : Int)
  · by_cases h2 : (c.toNat : Int) ≤ 122
    · have H := Lib.hid (lettr_yes h1 h2)
      go_enter Tryd.func79, Tryd.ntmps79
      go_wp2
      go_ret
      exact ⟨ret_bool H.out.symm, rfl⟩
    · have H := Lib.hid (lettr_high h2)
      go_enter Tryd.func79, Tryd.ntmps79
      go_wp2
      go_ret
      exact ⟨ret_bool H.out.symm, rfl⟩
  · have H := Lib.hid (lettr_low h1)
    go_enter Tryd.func79, Tryd.ntmps79
    go_wp2
    go_ret
    exact ⟨ret_bool H.out.symm, rfl⟩
theorem figure_any (c : UInt8) (w : World) :
    Calls Tryd.prog 80 #[.int .u8 (c.toNat : Int)] w fun e w' => e = .returned (.bool (Nm.figr c)) ∧ w = w' := by
  by_cases h1 : 48 ≤ (c.toNat : Int)
  · by_cases h2 : (c.toNat : Int) ≤ 57
    · have H := Lib.hid (figr_yes h1 h2)
      go_enter Tryd.func80, Tryd.ntmps80
      go_wp2
      go_ret
      exact ⟨ret_bool H.out.symm, rfl⟩
    · have H := Lib.hid (figr_high h2)
      go_enter Tryd.func80, Tryd.ntmps80
      go_wp2
      go_ret
      exact ⟨ret_bool H.out.symm, rfl⟩
  · have H := Lib.hid (figr_low h1)
    go_enter Tryd.func80, Tryd.ntmps80
    go_wp2
    go_ret
    exact ⟨ret_bool H.out.symm, rfl⟩
/-! closures -/
theorem oneOf_any (bytes : ByteArray) (w : World) :
    Calls Tryd.prog 77 #[.string bytes] w fun e w' => e = .returned (.func (.func 87) #[] #[.pointer (some ⟨w.heap.size, 0, none⟩)]) ∧ w.alloc (.cells #[.string bytes] 9) = w' := by
  go_enter Tryd.func77, Tryd.ntmps77
  go_wp2
  go_ret
  exact ⟨rfl, rfl⟩
theorem oneOf1_any (c : UInt8) (bytes : ByteArray) (B : Nat) (w : World) (hc : w.cell? ⟨B, 0, none⟩ = some (.string bytes)) :
    Calls Tryd.prog 87 #[.int .u8 (c.toNat : Int), .pointer (some ⟨B, 0, none⟩)] w fun e w' => e = .returned (.bool (Nm.among bytes.data.toList c)) ∧ w = w' := by
  go_enter Tryd.func87, Tryd.ntmps87
  go_wp2_with (go_at_call 34; refine (Any.strings_IndexByte ixb_lays bytes (c.toNat : Int) _).mono ?_; rintro e w' ⟨rfl, rfl⟩)
  go_ret
  exact ⟨ret_bool rfl, rfl⟩
theorem plainOr_any (more : ByteArray) (w : World) :
    Calls Tryd.prog 62 #[.string more] w fun e w' => e = .returned (.func (.func 78) #[] #[.pointer (some ⟨w.heap.size + 1, 0, none⟩)]) ∧
      (w.alloc (.cells #[.string more] 9)).alloc (.cells #[.func (.func 87) #[] #[.pointer (some ⟨w.heap.size, 0, none⟩)]] 111) = w' := by
  go_enter Tryd.func62, Tryd.ntmps62
  go_wp2_with (go_at_call 77; refine (oneOf_any more _).mono ?_; rintro e w' ⟨rfl, rfl⟩)

  go_ret
  exact ⟨by simp, rfl⟩
theorem plainOr1_any (c : UInt8) (more : ByteArray) (B B' : Nat) (w : World) (h1 : w.cell? ⟨B, 0, none⟩ = some (.func (.func 87) #[] #[.pointer (some ⟨B', 0, none⟩)])) (h2 : w.cell? ⟨B', 0, none⟩ = some (.string more)) :
    Calls Tryd.prog 78 #[.int .u8 (c.toNat : Int), .pointer (some ⟨B, 0, none⟩)] w fun e w' => e = .returned (.bool (Nm.plain more.data.toList c)) ∧ w = w' := by
  cases hl : Nm.lettr c
  · cases hf : Nm.figr c
    · have H := Lib.hid (show Nm.plain more.data.toList c = Nm.among more.data.toList c by simp [Nm.plain, hl, hf])
      have C1 := hl ▸ letter_any c
      have C2 := hf ▸ figure_any c
      clear hl hf
      go_enter Tryd.func78, Tryd.ntmps78
      go_wp2_with (first
        | (go_at_call 79; refine (C1 _).mono ?_; rintro e w' ⟨rfl, rfl⟩)
        | (go_at_call 80; refine (C2 _).mono ?_; rintro e w' ⟨rfl, rfl⟩)
        | (go_at_call 87; refine (oneOf1_any c more B' _ h2).mono ?_; rintro e w' ⟨rfl, rfl⟩))
      go_ret
      exact ⟨ret_bool H.out.symm, rfl⟩
    · have H := Lib.hid (show Nm.plain more.data.toList c = true by simp [Nm.plain, hl, hf])
      have C1 := hl ▸ letter_any c
      have C2 := hf ▸ figure_any c
      clear hl hf
      go_enter Tryd.func78, Tryd.ntmps78
      go_wp2_with (first
        | (go_at_call 79; refine (C1 _).mono ?_; rintro e w' ⟨rfl, rfl⟩)
        | (go_at_call 80; refine (C2 _).mono ?_; rintro e w' ⟨rfl, rfl⟩))
      go_ret
      exact ⟨ret_bool H.out.symm, rfl⟩
  · have H := Lib.hid (show Nm.plain more.data.toList c = true by simp [Nm.plain, hl])
    have C1 := hl ▸ letter_any c
    clear hl
    go_enter Tryd.func78, Tryd.ntmps78
    go_wp2_with (first
      | (go_at_call 79; refine (C1 _).mono ?_; rintro e w' ⟨rfl, rfl⟩))
    go_ret
    exact ⟨ret_bool H.out.symm, rfl⟩
/-- What a test on bytes is to a text's walk: it answers, and leaves the world alone. -/
def Tells (g : Nat) (lb : Array Value) (p : UInt8 → Bool) (w : World) : Prop :=
  ∀ (W : World) (c : UInt8), Below w.heap.size w W → Calls Tryd.prog g (#[.int .u8 (c.toNat : Int)] ++ lb) W fun e w' => e = .returned (.bool (p c)) ∧ W = w'
theorem plainOr_tells (more : ByteArray) (B B' : Nat) (w : World) (hB : B < w.heap.size) (hB' : B' < w.heap.size) (h1 : w.cell? ⟨B, 0, none⟩ = some (.func (.func 87) #[] #[.pointer (some ⟨B', 0, none⟩)])) (h2 : w.cell? ⟨B', 0, none⟩ = some (.string more)) :
    Tells 78 #[.pointer (some ⟨B, 0, none⟩)] (Nm.plain more.data.toList) w :=
  fun W c hb => plainOr1_any c more B B' W ((hb.cell (p := ⟨B, 0, none⟩) hB).trans h1) ((hb.cell (p := ⟨B', 0, none⟩) hB').trans h2)
theorem oneOf_tells (bytes : ByteArray) (B : Nat) (w : World) (hB : B < w.heap.size) (h1 : w.cell? ⟨B, 0, none⟩ = some (.string bytes)) :
    Tells 87 #[.pointer (some ⟨B, 0, none⟩)] (Nm.among bytes.data.toList) w :=
  fun W c hb => oneOf1_any c bytes B W ((hb.cell (p := ⟨B, 0, none⟩) hB).trans h1)
theorem all_take {s : ByteArray} {p : UInt8 → Bool} {k : Nat} (h : k < s.size) : (s.data.toList.take (k + 1)).all p = ((s.data.toList.take k).all p && p s[k]) := by
  have e : s.data.toList.take (k + 1) = s.data.toList.take k ++ [s[k]] := by rw [List.take_succ_eq_append_getElem (by simpa using h)]; rfl
  rw [e, List.all_append]; simp
theorem all_hit {s : ByteArray} {p : UInt8 → Bool} {k : Nat} (h : k < s.size) (hp : p s[k] = false) : s.data.toList.all p = false := by
  rw [List.all_eq_false]
  exact ⟨s[k], by rw [show s[k] = s.data.toList[k]'(by simpa using h) from rfl]; exact List.getElem_mem _, by simp [hp]⟩
set_option maxHeartbeats 400000 in
theorem all_any (s : ByteArray) (g : Nat) (lb : Array Value) (p : UInt8 → Bool) (eg : ∀ args w, (callFunc g args).run Tryd.prog w = .ok (.enter g args) w) (w : World) (hs : s.size ≤ maxLen) (hp : Tells g lb p w) :
    Calls Tryd.prog 76 #[.string s, .func (.func g) #[] lb] w fun e w' => e = .returned (.bool (Nm.allL p s.data.toList)) ∧ w = w' := by
  unfold maxLen at hs
  have hb := Below.refl w.heap.size w
  go_enter Tryd.func76, Tryd.ntmps76
  go_wp2
  go_loop [8] (fun i => ∃ k : Nat, k ≤ s.size ∧ i = .int .i64 k ∧ (s.data.toList.take k).all p = true) (fun i => s.size - (intOf i).toNat)
  case atStart => exact ⟨0, Nat.zero_le _, rfl, rfl⟩
  case round =>
    obtain ⟨k, hk, rfl, ha⟩ := hrel
    have HA := Lib.hid ha
    clear ha
    by_cases hlt : k < s.size
    · cases hv : p s[k]
      · have H := Lib.hid ((show Nm.allL p s.data.toList = false from all_hit hlt hv))
        have C := hv ▸ hp w s[k] hb
        clear hv
        go_wp2_with (go_at_fn g; refine C.mono ?_; rintro e w' ⟨rfl, rfl⟩)
        go_ret
        exact ⟨ret_bool H.out.symm, rfl⟩
      · have H := Lib.hid (show (s.data.toList.take (k + 1)).all p = true by rw [all_take hlt, HA.out, hv]; rfl)
        have C := hv ▸ hp w s[k] hb
        clear hv
        go_wp2_with (go_at_fn g; refine C.mono ?_; rintro e w' ⟨rfl, rfl⟩)
        go_round
        case rel => exact ⟨k + 1, by omega, by go_num, H.out⟩
        case measure => simp [intOf]; omega
    · have H := Lib.hid (show Nm.allL p s.data.toList = true by unfold Nm.allL; rw [← HA.out, List.take_of_length_le (by simp; omega)])
      go_wp2
      go_ret
      exact ⟨ret_bool H.out.symm, rfl⟩
end Go.Proofs.YtldfjpafpfakcaaDoor
/- The walks of layer 3's Parts, Ref and Repo, and of the chapter's example. -/
namespace Go.Proofs.YtldfjpafpfakcaaDoor
open Go Go.RowKit
theorem wrongPart_any (v : Value) (w : World) (g : Nat) (lb : Array Value) (hv : v = .func (.func g) #[] lb) :
    Calls Tryd.prog 61 #[v] w fun e w' => e = .returned (.func (.func 75) #[] #[.pointer (some ⟨w.heap.size, 0, none⟩)]) ∧ w.alloc (.cells #[v] 111) = w' := by
  subst hv
  go_enter Tryd.func61, Tryd.ntmps61
  go_wp2
  go_ret
  exact ⟨rfl, rfl⟩
theorem eg37 : ∀ args w, (callFunc 78 args).run Tryd.prog w = .ok (.enter 78 args) w := enters_of Tryd.func78 (by kernel_rfl) rfl
theorem eg48 : ∀ args w, (callFunc 87 args).run Tryd.prog w = .ok (.enter 87 args) w := enters_of Tryd.func87 (by kernel_rfl) rfl
theorem eg41 : ∀ args w, (callFunc 75 args).run Tryd.prog w = .ok (.enter 75 args) w := enters_of Tryd.func75 (by kernel_rfl) rfl
abbrev dotS : ByteArray := ⟨#[46]⟩
theorem wrongPart1_any (s : ByteArray) (hs : s.size ≤ maxLen) (B g : Nat) (lb : Array Value) (p : UInt8 → Bool) (eg : ∀ args w, (callFunc g args).run Tryd.prog w = .ok (.enter g args) w) (w : World)
    (hc : w.cell? ⟨B, 0, none⟩ = some (.func (.func g) #[] lb)) (hp : Tells g lb p w) :
    Calls Tryd.prog 75 #[.string s, .pointer (some ⟨B, 0, none⟩)] w fun e w' => e = .returned (.bool (!(Nm.allL p s.data.toList) || Nm.allL (Nm.among [46]) s.data.toList)) ∧ Below w.heap.size w w' := by
  have C1 := all_any s g lb p eg w hs hp
  cases ha : Nm.allL p s.data.toList
  · rw [ha] at C1
    clear ha
    go_enter Tryd.func75, Tryd.ntmps75
    go_wp2_with (go_at_call 76; refine C1.mono ?_; rintro e w' ⟨rfl, rfl⟩)
    go_ret
    exact ⟨ret_bool rfl, Below.refl _ _⟩
  · rw [ha] at C1
    clear ha
    have T2 := oneOf_tells dotS w.heap.size (w.alloc (.cells #[.string dotS] 9)) (by simp) (by simp)
    have C2 := all_any s 87 _ _ eg48 (w.alloc (.cells #[.string dotS] 9)) hs T2
    clear T2
    rw [show Nm.among dotS.data.toList = Nm.among [46] from rfl] at C2
    generalize Nm.allL (Nm.among [46]) s.data.toList = r at C2 ⊢
    go_enter Tryd.func75, Tryd.ntmps75
    go_wp2_with (first
      | (go_at_call 76; refine C1.mono ?_; rintro e w' ⟨rfl, rfl⟩; clear C1)
      | (go_at_call 77; refine (oneOf_any dotS _).mono ?_; rintro e w' ⟨rfl, rfl⟩)
      | (go_at_call 76; refine C2.mono ?_; rintro e w' ⟨rfl, rfl⟩))
    go_ret
    exact ⟨ret_bool rfl, (Below.refl _ _).alloc (Nat.le_refl _) _⟩
/-- What a test on texts is to a list's walk. -/
def TellsText (g : Nat) (lb : Array Value) (p : ByteArray → Bool) (w : World) : Prop :=
  ∀ (W : World) (x : ByteArray), x.size ≤ maxLen → Below w.heap.size w W → Calls Tryd.prog g (#[.string x] ++ lb) W fun e w' => e = .returned (.bool (p x)) ∧ Below W.heap.size W w'
def Found (r : Bool) (w : World) (e : Ending) (w' : World) : Prop := ∃ i : Int, e = .returned (.int .i64 i) ∧ decide (0 ≤ i) = r ∧ Below w.heap.size w w'
/-- A row of texts in memory. -/
def Row (w : World) (b off : Nat) (zs : List ByteArray) : Prop := b < w.heap.size ∧ ∀ j x, zs[j]? = some x → w.cell? ⟨b, off + j, none⟩ = some (.string x)
theorem Row.below {w w' : World} {b off : Nat} {zs : List ByteArray} (h : Row w b off zs) (hb : Below w.heap.size w w') : Row w' b off zs :=
  ⟨Nat.lt_of_lt_of_le h.1 hb.size, fun j x hx => (hb.cell (p := ⟨b, off + j, none⟩) h.1).trans (h.2 j x hx)⟩
theorem any_none {zs : List ByteArray} {p : ByteArray → Bool} {k : Nat} (h : ∀ j x, j < k → zs[j]? = some x → p x = false) (hk : zs.length ≤ k) : zs.any p = false := by
  rw [List.any_eq_false]
  intro x hx
  obtain ⟨j, hj⟩ := List.mem_iff_getElem?.1 hx
  rw [h j x (by have := (List.getElem?_eq_some_iff.1 hj).1; omega) hj]; simp
theorem any_at {zs : List ByteArray} {p : ByteArray → Bool} {k : Nat} {x : ByteArray} (h : zs[k]? = some x) (hp : p x = true) : zs.any p = true :=
  List.any_eq_true.2 ⟨x, List.mem_iff_getElem?.2 ⟨k, h⟩, hp⟩
def NoneYet (zs : List ByteArray) (p : ByteArray → Bool) (k : Nat) : Prop := ∀ j x, j < k → zs[j]? = some x → p x = false
set_option maxHeartbeats 400000 in
theorem indexFunc_any (g : Nat) (lb : Array Value) (p : ByteArray → Bool) (eg : ∀ args w, (callFunc g args).run Tryd.prog w = .ok (.enter g args) w) (b off c : Nat) (zs : List ByteArray) (w : World)
    (hp : TellsText g lb p w) (hbig : zs.length ≤ 9223372036854775807) (hz : ∀ x ∈ zs, x.size ≤ maxLen) (hr : Row w b off zs) :
    Calls Tryd.prog 74 #[.slice (some ⟨b, off, none⟩) zs.length c, .func (.func g) #[] lb] w (Found (zs.any p) w) := by
  have HZ := Lib.hid hz
  clear hz
  go_enter Tryd.func74, Tryd.ntmps74
  go_wp2
  go_loopw [8] (fun i wr => ∃ k : Nat, k ≤ zs.length ∧ i = .int .i64 k ∧ Hid (NoneYet zs p k) ∧ Hid (Below w.heap.size w wr)) (fun i _ => zs.length - (intOf i).toNat)
  case atStart => exact ⟨0, Nat.zero_le _, rfl, Lib.hid (fun j x hj => absurd hj (Nat.not_lt_zero _)), Lib.hid (Below.refl _ _)⟩
  case round =>
    obtain ⟨k, hk, rfl, HN, HB⟩ := hrel
    by_cases hlt : k < zs.length
    · have hx : zs[k]? = some zs[k] := by simp [hlt]
      have hcell := (hr.below HB.out).2 k _ hx
      have hsz := HZ.out zs[k] (List.getElem_mem hlt)
      have C := hp wr zs[k] hsz HB.out
      have HX := Lib.hid hx
      generalize zs[k] = x at hcell C HX hsz
      clear hx
      cases hv : p x
      · have H := Lib.hid (show NoneYet zs p (k + 1) from fun j y hj hy => by
          rcases Nat.lt_succ_iff_lt_or_eq.1 hj with h | rfl
          · exact HN.out j y h hy
          · rw [HX.out] at hy; obtain rfl := Option.some.inj hy; exact hv)
        rw [hv] at C
        clear hv
        go_wp2_with (go_at_fn g; refine C.mono ?_; rintro e w' ⟨rfl, hb⟩; have HB2 := Lib.hid (HB.out.trans (hb.mono HB.out.size)); clear hb)
        go_roundw
        case rel => exact ⟨k + 1, by omega, by go_num, H, HB2⟩
        case measure => simp [intOf]; omega
      · have H := Lib.hid (any_at HX.out hv)
        rw [hv] at C
        clear hv
        go_wp2_with (go_at_fn g; refine C.mono ?_; rintro e w' ⟨rfl, hb⟩; have HB2 := Lib.hid (HB.out.trans (hb.mono HB.out.size)); clear hb)
        go_ret
        exact ⟨k, rfl, by rw [H.out]; simp, HB2.out⟩
    · have H := Lib.hid (any_none HN.out (by omega))
      go_wp2
      go_ret
      exact ⟨-1, rfl, by rw [H.out]; rfl, HB.out⟩
theorem containsFunc_any (g : Nat) (lb : Array Value) (p : ByteArray → Bool) (eg : ∀ args w, (callFunc g args).run Tryd.prog w = .ok (.enter g args) w) (b off c : Nat) (zs : List ByteArray) (w : World)
    (hp : TellsText g lb p w) (hbig : zs.length ≤ 9223372036854775807) (hz : ∀ x ∈ zs, x.size ≤ maxLen) (hr : Row w b off zs) (r : Bool) (hres : zs.any p = r) :
    Calls Tryd.prog 60 #[.slice (some ⟨b, off, none⟩) zs.length c, .func (.func g) #[] lb] w fun e w' => e = .returned (.bool r) ∧ Below w.heap.size w w' := by
  have C := indexFunc_any g lb p eg b off c zs w hp hbig hz hr
  rw [hres] at C
  clear hz hres
  go_enter Tryd.func60, Tryd.ntmps60
  go_wp2_with (go_at_call 74; refine C.mono ?_; rintro e w' ⟨i, rfl, hi, hb⟩; have HI := Lib.hid hi; clear hi; have HB := Lib.hid hb; clear hb)
  go_ret
  exact ⟨ret_bool HI.out, HB.out⟩
end Go.Proofs.YtldfjpafpfakcaaDoor
