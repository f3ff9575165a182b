/- What closure's walk adds: ids that aren't there yet, each with what stands at it. -/
import Derived.Test.YtgcgomdhdgjpdaaGreatDoorMOb20ns
import Derived.Deep.AppendLies
namespace Go.Proofs.YtgcgomdhdgjpdaaGreatDoor
open Go Go.RowKit
namespace Cl
structure Nd where
 id : List Nat
 val : Value
noncomputable def at_ (l : List Nd) (id : List Nat) : Option Nd := l.foldl (fun o p => if id = p.id then some p else o) none
theorem at_snoc (l : List Nd) (p : Nd) (id : List Nat) : at_ (l ++ [p]) id = if id = p.id then some p else at_ l id := by
 unfold at_; rw [List.foldl_append]; rfl
theorem at_from (id : List Nat) : ∀ (l : List Nd) (o : Option Nd) (p : Nd), l.foldl (fun o p => if id = p.id then some p else o) o = some p → (p ∈ l ∧ id = p.id) ∨ o = some p
 | [], _, _, h => Or.inr h
 | q :: l, o, p, h => by
  rw [List.foldl_cons] at h
  rcases at_from id l _ p h with ⟨h1, h2⟩ | h1
  ·exact Or.inl ⟨List.mem_cons_of_mem _ h1, h2⟩
  ·split at h1
   ·rename_i he
    cases h1
    exact Or.inl ⟨List.mem_cons_self .., he⟩
   ·exact Or.inr h1
theorem at_mem {l : List Nd} {id : List Nat} {p : Nd} (h : at_ l id = some p) : p ∈ l ∧ id = p.id := by
 rcases at_from id l none p h with h | h
 ·exact h
 ·cases h
theorem at_keep (id : List Nat) : ∀ (l : List Nd) (p : Nd), (l.foldl (fun o p => if id = p.id then some p else o) (some p)).isSome = true
 | [], _ => rfl
 | q :: l, p => by
  rw [List.foldl_cons]
  split
  ·exact at_keep id l q
  ·exact at_keep id l p
theorem at_has : ∀ {l : List Nd} {id : List Nat} (o : Option Nd), id ∈ l.map (·.id) → (l.foldl (fun o p => if id = p.id then some p else o) o).isSome = true
 | q :: l, id, o, h => by
  rw [List.foldl_cons]
  rw [List.map_cons] at h
  rcases List.mem_cons.1 h with h | h
  ·rw [if_pos h]; exact at_keep id l q
  ·exact at_has _ h
theorem at_iff {l : List Nd} {id : List Nat} : (at_ l id).isSome = true ↔ id ∈ l.map (·.id) := by
 constructor
 ·intro h
  obtain ⟨p, hp⟩ := Option.isSome_iff_exists.1 h
  obtain ⟨h1, h2⟩ := at_mem hp
  exact List.mem_map.2 ⟨p, h1, h2.symm⟩
 ·exact at_has none
noncomputable def ndV (objs : List (List Nat)) (p : Nd) : Value := .agg (ndC (the objs p.id) (knd objs p.id) p.val)
end Cl
theorem nd_zero (w : World) : (zeroValue 191).run Tryz.prog w = .ok (.agg (ndC false 0 (.slice none 0 0))) w := by kernel_rfl
theorem own_in {w : World} {B k z t : Nat} {v : Value} {cs : List Value} (h : w.ownsRow B t z v k cs) {x : Nat} (hx : v.ownBlock = some x) : B ≤ x ∧ x < w.heap.size := by
 rcases h.2 with ⟨hv, _⟩ | ⟨g, cap, cur, hv, hb, hh, _⟩
 ·rw [hv] at hx; simp [Value.ownBlock] at hx
 ·rw [hv] at hx
  obtain rfl : g = x := by simpa [Value.ownBlock] using hx
  exact ⟨hb, (Array.getElem?_eq_some_iff.1 hh).1⟩
theorem cl_own_slice {w : World} {B k z t : Nat} {v : Value} {cs : List Value} (h : w.ownsRow B t z v k cs) : ∃ A c, v = .slice A k c := by
 rcases h.2 with ⟨hv, hn⟩ | ⟨g, cap, cur, hv, _⟩
 ·exact ⟨none, 0, by rw [hv, hn]⟩
 ·exact ⟨_, cap, hv⟩
theorem own_below {w w' : World} {B k z t : Nat} {v : Value} {cs : List Value} (h : w.ownsRow B t z v k cs) (hb : Below w.heap.size w w') : w'.ownsRow B t z v k cs :=
 h.kept (only_of_below hb none) (by cases hv : v.ownBlock with | none => exact Or.inl rfl | some g => exact Or.inr (by simp))
theorem own_grow {w w' : World} {B k z t : Nat} {v : Value} {cs : List Value} {row : Option Nat} (h : w.ownsRow B t z v k cs) (hg : w.grownBy w' row) (hr : ∀ x, v.ownBlock = some x → row ≠ some x) : w'.ownsRow B t z v k cs :=
 h.kept hg (by
  cases hv : v.ownBlock with
  | none => exact Or.inl rfl
  | some g => exact Or.inr (fun e => hr g hv e.symm))
theorem cl_grow {w0 w w' : World} {row : Option Nat} (h : Below w0.heap.size w0 w) (hg : w.grownBy w' row) (hr : ∀ x, row = some x → w0.heap.size ≤ x) : Below w0.heap.size w0 w' :=
 ⟨hg.os.trans h.os, hg.tape.trans h.tape, hg.output.trans h.output, Nat.le_trans h.size hg.size, fun b hb => (hg.block b (Nat.lt_of_lt_of_le hb h.size) (fun e => by have := hr b e.symm; omega)).trans (h.block b hb)⟩
theorem cellsP_at : ∀ {xs : List (List Nat)} {k j : Nat} {u : Value}, (∀ x ∈ xs, Id32 x) → k < xs.length → (cellsB (xs.getD k []))[j]? = some u → (cellsP xs)[k * 32 + j]? = some u
 | x :: xs, 0, j, u, _, _, h => by
  unfold cellsP
  rw [List.flatMap_cons, Nat.zero_mul, Nat.zero_add]
  have h1 : (cellsB x)[j]? = some u := h
  rw [List.getElem?_append_left (List.getElem?_eq_some_iff.1 h1).1]
  exact h1
 | x :: xs, k + 1, j, u, hi, hk, h => by
  have hx := hi x (List.mem_cons_self ..)
  have ih := cellsP_at (xs := xs) (k := k) (j := j) (u := u) (fun y hy => hi y (List.mem_cons_of_mem _ hy)) (by simpa using hk) (by simpa using h)
  unfold cellsP at ih ⊢
  rw [List.flatMap_cons, List.getElem?_append_right (by rw [cellsP1_len hx]; omega), cellsP1_len hx]
  rw [show (k + 1) * 32 + j - 32 = k * 32 + j by omega]
  exact ih
structure WK (objs roots : List (List Nat)) (its : List Cl.T) (w0 w : World) (ms nms ma bA bS bL B : Nat) (v : Value) (ns : List Cl.Nd) : Prop where
 st : MapO w ms nms (fun id => (Cl.fst its id).map (·.val))
 mp : MapO w ma ns.length (fun id => (Cl.at_ ns id).map (Cl.ndV objs))
 ba : Blk w bA 159 #[.map (some ma)]
 bs : Blk w bS 160 #[.map (some ms)]
 bl : Blk w bL 106 #[v]
 own : w.ownsRow B 41 32 v ns.length (cellsP (ns.map (·.id)))
 lk : ∀ p ∈ ns, w.ownsRow B 41 32 p.val (Cl.lks objs p.id).length (cellsP (Cl.lks objs p.id))
 off : ∀ x, v.ownBlock = some x → ∀ p ∈ ns, p.val.ownBlock ≠ some x
 ord : ms < B ∧ ma < B ∧ bA < B ∧ bS < B ∧ bL < B ∧ B ≤ w.heap.size
 ne : ma ≠ ms ∧ bL ≠ bA ∧ bL ≠ bS ∧ bL ≠ ms ∧ bL ≠ ma ∧ w0.heap.size ≤ ma ∧ w0.heap.size ≤ bL ∧ bA ≠ ma ∧ bS ≠ ma
 nod : (ns.map (·.id)).Nodup
 ids : ∀ p ∈ ns, Id32 p.id
 rch : ∀ p ∈ ns, Cl.Rch objs roots p.id
 bel : Below w0.heap.size w0 w
section
variable {objs roots : List (List Nat)} {its : List Cl.T} {w0 w w' : World} {ms nms ma bA bS bL B : Nat} {v : Value} {ns : List Cl.Nd}
theorem WK.below (h : WK objs roots its w0 w ms nms ma bA bS bL B v ns) (hb : Below w.heap.size w w') : WK objs roots its w0 w' ms nms ma bA bS bL B v ns :=
 ⟨h.st.below hb, h.mp.below hb, h.ba.below hb h.ba.lt, h.bs.below hb h.bs.lt, h.bl.below hb h.bl.lt, own_below h.own hb, fun p hp => own_below (h.lk p hp) hb, h.off, by have := h.ord; have := hb.size; omega, h.ne, h.nod, h.ids, h.rch, below_next h.bel hb⟩
theorem WK.few (h : WK objs roots its w0 w ms nms ma bA bS bL B v ns) {N : Nat} (hN : (Cl.pool objs roots).length ≤ N) : ns.length ≤ N := by
 have h1 := Cl.nodup_le h.nod (fun x hx => by
  obtain ⟨p, hp, rfl⟩ := List.mem_map.1 hx
  exact Cl.rch_pool (h.rch p hp))
 rw [List.length_map] at h1
 omega
theorem WK.step {wa w8 w9 wx w11 : World} {id : List Nat} {lv : Value} {g' c' : Nat} (h : WK objs roots its w0 wa ms nms ma bA bS bL B v ns) (hid : Id32 id) (hr : Cl.Rch objs roots id) (hnew : id ∉ ns.map (·.id))
  (h8 : Below wa.heap.size wa w8) (hl : w8.ownsRow wa.heap.size 41 32 lv (Cl.lks objs id).length (cellsP (Cl.lks objs id)))
  (hm : MapO w9 ma (ns.length + 1) (updO (fun id => (Cl.at_ ns id).map (Cl.ndV objs)) id (Cl.ndV objs ⟨id, lv⟩))) (hg9 : w8.grownBy w9 (some ma))
  (hx : Below w9.heap.size w9 wx) (ho : w11.ownsRow B 41 32 (.slice (some ⟨g', 0, none⟩) (ns.length + 1) c') (ns.length + 1) (cellsP (ns.map (·.id)) ++ cellsB id)) (hg11 : wx.grownBy w11 v.ownBlock) (hlie : v.ownBlock = some g' ∨ g' = wx.heap.size) :
  WK objs roots its w0 (w11.setCell ⟨bL, 0, none⟩ (.slice (some ⟨g', 0, none⟩) (ns.length + 1) c')) ms nms ma bA bS bL B (.slice (some ⟨g', 0, none⟩) (ns.length + 1) c') (ns ++ [⟨id, lv⟩]) ∧
  (∀ b, b < wa.heap.size → b ≠ ma → b ≠ bL → v.ownBlock ≠ some b → (w11.setCell ⟨bL, 0, none⟩ (.slice (some ⟨g', 0, none⟩) (ns.length + 1) c')).heap[b]? = wa.heap[b]?) ∧ wa.heap.size ≤ (w11.setCell ⟨bL, 0, none⟩ (.slice (some ⟨g', 0, none⟩) (ns.length + 1) c')).heap.size := by
 have hO := h.ord
 have hN := h.ne
 have hvB : ∀ x, v.ownBlock = some x → B ≤ x ∧ x < wa.heap.size := fun x hx => own_in h.own hx
 have s8 := h8.size
 have s9 := hg9.size
 have sx := hx.size
 have s11 := hg11.size
 have g12 : w11.grownBy (w11.setCell ⟨bL, 0, none⟩ (.slice (some ⟨g', 0, none⟩) (ns.length + 1) c')) (some bL) := grown_cell _ _ _ _
 have hvo : (Value.slice (some ⟨g', 0, none⟩) (ns.length + 1) c').ownBlock = some g' := rfl
 have hq8 := h.below h8
 have far : ∀ x, x < B → some x ≠ v.ownBlock := fun x hx e => by have := hvB x e.symm; omega
 have hg' : B ≤ g' := by
  rcases hlie with e | e
  ·exact (hvB g' e).1
  ·omega
 have st9 := hq8.st.kept hg9 (fun e => by injection e with e; omega)
 have st11 := (st9.below hx).kept hg11 (far ms hO.1)
 have ba11 := ((hq8.ba.grown hg9 (fun e => by injection e with e; omega)).below hx (by have := hq8.ba.lt; omega)).grown hg11 (far bA hO.2.2.1)
 have bs11 := ((hq8.bs.grown hg9 (fun e => by injection e with e; omega)).below hx (by have := hq8.bs.lt; omega)).grown hg11 (far bS hO.2.2.2.1)
 have bl11 := ((hq8.bl.grown hg9 (fun e => by injection e with e; omega)).below hx (by have := hq8.bl.lt; omega)).grown hg11 (far bL hO.2.2.2.2.1)
 have lk11 : ∀ p ∈ ns, w11.ownsRow B 41 32 p.val (Cl.lks objs p.id).length (cellsP (Cl.lks objs p.id)) := fun p hp => own_grow (own_below (own_grow (hq8.lk p hp) hg9 (fun x hx e => by injection e with e; have := (own_in (hq8.lk p hp) hx).1; omega)) hx) hg11 (fun x hx e => h.off x e p hp hx)
 have lv9 := own_grow hl hg9 (fun x hx e => by injection e with e; have := (own_in hl hx).1; omega)
 have lvx := own_below lv9 hx
 have lv11 : w11.ownsRow wa.heap.size 41 32 lv (Cl.lks objs id).length (cellsP (Cl.lks objs id)) := own_grow lvx hg11 (fun x hx e => by have h1 := (own_in lvx hx).1; have h2 := (hvB x e).2; omega)
 refine ⟨⟨st11.kept g12 (fun e => by injection e with e; omega), ?_, ba11.grown g12 (fun e => by injection e with e; omega), bs11.grown g12 (fun e => by injection e with e; omega), ?_, ?_, ?_, ?_, ?_, hN, ?_, ?_, ?_, ?_⟩, ?_, ?_⟩
 ·rw [List.length_append, List.length_singleton]
  refine (((hm.below hx).kept hg11 (far ma hO.2.1)).kept g12 (fun e => by injection e with e; omega)).ext fun y _ => ?_
  unfold updO
  rw [Cl.at_snoc]
  by_cases he : y = id
  ·rw [if_pos he, if_pos he]; rfl
  ·rw [if_neg he, if_neg he]
 ·have h1 := bl11.set_ 0 (.slice (some ⟨g', 0, none⟩) (ns.length + 1) c')
  exact h1
 ·rw [List.length_append, List.length_singleton, List.map_append, List.map_cons, List.map_nil, cellsP_snoc]
  exact own_grow ho g12 (fun x hx e => by injection e with e; rw [hvo] at hx; injection hx with hx; omega)
 ·intro p hp
  rcases List.mem_append.1 hp with hp | hp
  ·exact own_grow (lk11 p hp) g12 (fun x hx e => by injection e with e; have := (own_in (lk11 p hp) hx).1; omega)
  ·rw [List.mem_singleton.1 hp]
   exact own_lowL (own_grow lv11 g12 (fun x hx e => by injection e with e; have := (own_in lv11 hx).1; omega)) hO.2.2.2.2.2
 ·intro x hx p hp e
  rw [hvo] at hx
  injection hx with hx
  subst hx
  rcases List.mem_append.1 hp with hp | hp
  ·rcases hlie with e1 | e1
   ·exact h.off g' e1 p hp e
   ·have := (own_in (h.lk p hp) e).2; omega
  ·rw [List.mem_singleton.1 hp] at e
   have h1 := own_in lvx e
   rcases hlie with e1 | e1
   ·have := (hvB g' e1).2; omega
   ·omega
 ·have := g12.size; omega
 ·rw [List.map_append]
  refine List.nodup_append.2 ⟨h.nod, by simp, fun a ha b hb => ?_⟩
  rw [List.map_cons, List.map_nil, List.mem_singleton] at hb
  subst hb
  exact fun e => hnew (e ▸ ha)
 ·intro p hp
  rcases List.mem_append.1 hp with hp | hp
  ·exact h.ids p hp
  ·rw [List.mem_singleton.1 hp]; exact hid
 ·intro p hp
  rcases List.mem_append.1 hp with hp | hp
  ·exact h.rch p hp
  ·rw [List.mem_singleton.1 hp]; exact hr
 ·refine cl_grow (cl_grow (below_next (cl_grow hq8.bel hg9 (fun x hx => by injection hx with hx; omega)) hx) hg11 (fun x hx => by have := (hvB x hx).1; omega)) g12 (fun x hx => by injection hx with hx; omega)
 ·intro b hb h1 h2 h3
  rw [g12.block b (by omega) (fun e => h2 (by injection e)), hg11.block b (by omega) (fun e => h3 e.symm), hx.block b (by omega), hg9.block b (by omega) (fun e => h1 (by injection e)), h8.block b hb]
 ·have := g12.size; omega
def IdS (w : World) (A : Option Addr) (xs : List (List Nat)) (ma bL : Nat) (v : Value) : Prop :=
 0 < xs.length → ∃ b o, A = some ⟨b, o, none⟩ ∧ b < w.heap.size ∧ b ≠ ma ∧ b ≠ bL ∧ v.ownBlock ≠ some b ∧ ∀ j u, (cellsP xs)[j]? = some u → w.cell? ⟨b, o + j, none⟩ = some u
theorem IdS.below {A : Option Addr} {xs : List (List Nat)} (h : IdS w A xs ma bL v) (hb : Below w.heap.size w w') : IdS w' A xs ma bL v := fun h0 => by
 obtain ⟨b, o, h1, h2, h3, h4, h5, h6⟩ := h h0
 exact ⟨b, o, h1, Nat.lt_of_lt_of_le h2 hb.size, h3, h4, h5, fun j u hj => (hb.cell (p := ⟨b, o + j, none⟩) h2).trans (h6 j u hj)⟩
theorem IdS.step {A : Option Addr} {xs : List (List Nat)} {g' k c' : Nat} (h : IdS w A xs ma bL v) (hq : ∀ b, b < w.heap.size → b ≠ ma → b ≠ bL → v.ownBlock ≠ some b → w'.heap[b]? = w.heap[b]?) (hs : w.heap.size ≤ w'.heap.size) (hl : v.ownBlock = some g' ∨ w.heap.size ≤ g') : IdS w' A xs ma bL (.slice (some ⟨g', 0, none⟩) k c') := fun h0 => by
 obtain ⟨b, o, h1, h2, h3, h4, h5, h6⟩ := h h0
 refine ⟨b, o, h1, by omega, h3, h4, fun e => ?_, fun j u hj => ?_⟩
 ·have e1 : (Value.slice (some ⟨g', 0, none⟩) k c').ownBlock = some g' := rfl
  rw [e1] at e
  injection e with e
  subst e
  rcases hl with hl | hl
  ·exact h5 hl
  ·omega
 ·rw [World.cell?_of_block (a := ⟨b, o + j, none⟩) (hq b h2 h3 h4 h5)]
  exact h6 j u hj
end
def AddPost (objs roots : List (List Nat)) (its : List Cl.T) (w0 : World) (ms nms ma bA bS bL B : Nat) (ns : List Cl.Nd) (xs : List (List Nat)) (e : Ending) (w' : World) : Prop :=
 ∃ v' ns', e = .returned (.tuple #[]) ∧ WK objs roots its w0 w' ms nms ma bA bS bL B v' (ns ++ ns') ∧ ∀ x ∈ xs, x ∈ (ns ++ ns').map (·.id)
set_option maxRecDepth 100000 in
set_option maxHeartbeats 8000000 in
theorem cl_add_any {objs roots : List (List Nat)} {its : List Cl.T} {w0 w : World} {ms nms ma bA bS bL B : Nat} {v : Value} {ns : List Cl.Nd} (a : Nat → Addr) (A : Option Addr) (n c : Nat) (xs : List (List Nat)) (h : WK objs roots its w0 w ms nms ma bA bS bL B v ns) (ho : objs = its.map (·.text)) (hrd : ∀ p ∈ its, Rd w0 p.val p.text ∧ Sha.Byte p.text) (hS : CSents w0 a) (hN : (Cl.pool objs roots).length ≤ 1000)
  (hn : n = xs.length) (hxi : ∀ x ∈ xs, Id32 x) (hxr : ∀ x ∈ xs, Cl.Rch objs roots x) (hx : IdS w A xs ma bL v) (hn1 : n ≤ 1000) :
  Calls Tryz.prog 110 #[.slice A n c, .pointer (some ⟨bA, 0, none⟩), .pointer (some ⟨bS, 0, none⟩), .pointer (some ⟨bL, 0, none⟩)] w (AddPost objs roots its w0 ms nms ma bA bS bL B ns xs) := by
 have HO := Lib.hid ho
 have HRD := Lib.hid hrd
 have HSE := Lib.hid hS
 have HPL := Lib.hid hN
 have HNX := Lib.hid hn
 have HXI := Lib.hid hxi
 have HXR := Lib.hid hxr
 have HN1 := Lib.hid hn1
 have HW0 : Hid (WK objs roots its w0 w ms nms ma bA bS bL B v (ns ++ []) ∧ IdS w A xs ma bL v ∧ ∀ j, j < 0 → xs.getD j [] ∈ (ns ++ ([] : List Cl.Nd)).map (·.id)) := Lib.hid ⟨by rw [List.append_nil]; exact h, hx, fun j hj => absurd hj (Nat.not_lt_zero _)⟩
 clear h ho hrd hS hN hn hxi hxr hx hn1
 go_enter Tryz.func110, Tryz.ntmps110
 go_wp2
 go_loopw [11] (fun i wr => ∃ k : Nat, k ≤ n ∧ i = .int .i64 k ∧ ∃ (v' : Value) (ns' : List Cl.Nd), Hid (WK objs roots its w0 wr ms nms ma bA bS bL B v' (ns ++ ns') ∧ IdS wr A xs ma bL v' ∧ ∀ j, j < k → xs.getD j [] ∈ (ns ++ ns').map (·.id))) (fun i _ => n - (intOf i).toNat)
 case atStart => exact ⟨0, Nat.zero_le _, rfl, v, [], HW0⟩
 case round =>
  obtain ⟨k, hk, rfl, v', ns', HW⟩ := hrel
  by_cases hlt : k < n
  ·have hkx : k < xs.length := by rw [← HNX.out]; exact hlt
   obtain ⟨b, o, rfl, hbl, _, _, _, hcell⟩ := HW.out.2.1 (by omega)
   obtain ⟨x, hxx⟩ : ∃ x, xs.getD k [] = x := ⟨_, rfl⟩
   have hxm : x ∈ xs := by
    rw [← hxx, List.getD_eq_getElem?_getD, List.getElem?_eq_getElem hkx]
    exact List.getElem_mem hkx
   have HID := Lib.hid (HXI.out x hxm)
   have HRX := Lib.hid (HXR.out x hxm)
   have HRG : Hid (wr.rangeAt b (o + k * 32) (cellsB x)) := Lib.hid (fun j u hu => by
    rw [Nat.add_assoc]
    exact hcell (k * 32 + j) u (cellsP_at HXI.out hkx (by rw [hxx]; exact hu)))
   have HKX : Hid (∀ (l : List (List Nat)), (∀ j, j < k → xs.getD j [] ∈ l) → x ∈ l → ∀ j, j < k + 1 → xs.getD j [] ∈ l) := Lib.hid (fun l h1 h2 j hj => by
    by_cases e : j = k
    ·rw [e, hxx]; exact h2
    ·exact h1 j (by omega))
   have i1 : ((k : Nat) : Int) < n := by omega
   have i2 : (0 : Int) ≤ ((k : Nat) : Int) := by omega
   have i3 : ((k : Nat) : Int) < 1000 := by have := HN1.out; omega
   have HLT := Lib.hid hlt
   clear hkx hbl hcell hxx hxm hk hlt
   go_wp2_with (with_reducible (show wpList _ _ _ (Oper.mk _ (Op.load 41 _) _ _ _ _ :: _) _ _); refine pause ?_)
   unfold Paused
   refine wpList_mid_w (by rfl) 41 (.tmp 13) (by rfl) b (o + k * 32) (by rfl) _ _ HRG.out Tryz.underlying41 (by rfl) (by rw [cellsP1_len HID.out]; exact cl_oid_load) ?_
   go_wp2_with (with_reducible (show wpList _ _ _ (Oper.mk _ (Op.store 41 _ _) _ _ _ _ :: _) _ _); refine pause ?_)
   unfold Paused
   change wpList _ _ _ _ _ (wr.alloc (.cells (u8s (List.replicate 32 0)) 41))
   refine wpList_store_row (by rfl) 41 (.tmp 6) (.tmp 14) (by rfl) wr.heap.size (u8s x) (by rfl) (by rfl) 41 (u8s (List.replicate 32 0)) (Blk.new wr _ _) (by rw [u8s_size, HID.out.1]; exact cl_oid_load) (by rw [u8s_size, u8s_size, HID.out.1]; rfl) (u8s_one _) ?_
   have b6 : Below wr.heap.size wr ((wr.alloc (.cells (u8s (List.replicate 32 0)) 41)).setRow wr.heap.size (u8s x)) := below_row ((Below.refl _ _).alloc (Nat.le_refl _) _) (Nat.le_refl _) _
   have HW6 := Lib.hid (And.intro (HW.out.1.below b6) (HW.out.2.1.below b6))
   have HI6 : Hid (Blk ((wr.alloc (.cells (u8s (List.replicate 32 0)) 41)).setRow wr.heap.size (u8s x)) wr.heap.size 41 (u8s x)) := Lib.hid ((Blk.new wr _ _).row _)
   have HJ := Lib.hid HW.out.2.2
   clear b6 HRG HW
   generalize (wr.alloc (.cells (u8s (List.replicate 32 0)) 41)).setRow wr.heap.size (u8s x) = w6 at HW6 HI6 ⊢
   generalize wr.heap.size = g6 at HI6 ⊢
   simp only [Act.put]
   have pA : w6.cell? ⟨bA, 0, none⟩ = some (.map (some ma)) := HW6.out.1.ba.cell 0
   go_wp2_with (with_reducible (show wpList _ _ _ (Oper.mk _ (Op.load 41 _) _ _ _ _ :: _) _ _); refine pause ?_)
   unfold Paused
   refine wpList_row_w (by rfl) 41 (.tmp 6) (by rfl) g6 (by rfl) 41 (u8s x) _ HI6.out Tryz.underlying41 (by rfl) (by rw [u8s_size, HID.out.1]; exact cl_oid_load) ?_
   have q6 := HW6.out.1.mp.look_ok Tryz.underlying159 (nd_zero w6) HID.out
   cases hf : Cl.at_ (ns ++ ns') x with
   | some p =>
    rw [hf] at q6
    simp only [Option.map_some, Option.getD_some, Option.isSome_some] at q6
    obtain ⟨Ap, cp, hpv⟩ := cl_own_slice (HW6.out.1.lk p (Cl.at_mem hf).1)
    have HMEM : Hid (x ∈ (ns ++ ns').map (·.id)) := Lib.hid (Cl.at_iff.1 (by rw [hf]; rfl))
    unfold Cl.ndV at q6
    rw [hpv] at q6
    generalize Cl.the objs p.id = tb at q6
    generalize Cl.knd objs p.id = kb at q6
    generalize (Cl.lks objs p.id).length = np at q6
    clear hf hpv
    go_wp2_with (with_reducible (show wpList _ _ _ (Oper.mk _ (Op.store 191 _ _) _ _ _ _ :: _) _ _); refine pause ?_)
    unfold Paused
    change wpList _ _ _ _ _ (w6.alloc (.cells #[.bool false, .int .i64 0, .slice none 0 0] 191))
    refine wpList_store_row (by rfl) 191 (.tmp 7) (.tmp 19) (by rfl) w6.heap.size (ndC tb kb (.slice Ap np cp)) (by rfl) (by rfl) 191 #[.bool false, .int .i64 0, .slice none 0 0] (Blk.new w6 _ _) (by exact nd_size) (by rfl) (nd_one _ _ _ _ _) ?_
    have b7 : Below w6.heap.size w6 ((w6.alloc (.cells #[.bool false, .int .i64 0, .slice none 0 0] 191)).setRow w6.heap.size (ndC tb kb (.slice Ap np cp))) := below_row ((Below.refl _ _).alloc (Nat.le_refl _) _) (Nat.le_refl _) _
    have HW7 : Hid (WK objs roots its w0 _ ms nms ma bA bS bL B v' (ns ++ ns') ∧ IdS _ (some ⟨b, o, none⟩) xs ma bL v' ∧ ∀ j, j < k + 1 → xs.getD j [] ∈ (ns ++ ns').map (·.id)) := Lib.hid ⟨HW6.out.1.below b7, HW6.out.2.below b7, HKX.out _ HJ.out HMEM.out⟩
    clear b7 q6 pA
    generalize (w6.alloc (.cells #[.bool false, .int .i64 0, .slice none 0 0] 191)).setRow w6.heap.size (ndC tb kb (.slice Ap np cp)) = w7 at HW7 ⊢
    generalize w6.heap.size = g7
    simp only [Act.put]
    go_wp2
    go_roundw
    case rel => exact ⟨k + 1, by have := HLT.out; omega, by go_num, v', ns', HW7⟩
    case measure => have := HLT.out; simp [intOf]; omega
   | none =>
    rw [hf] at q6
    simp only [Option.map_none, Option.getD_none, Option.isSome_none] at q6
    have HNEW : Hid (x ∉ (ns ++ ns').map (·.id)) := Lib.hid (fun e => by have := Cl.at_iff.2 e; rw [hf] at this; cases this)
    clear hf
    go_wp2_with (with_reducible (show wpList _ _ _ (Oper.mk _ (Op.store 191 _ _) _ _ _ _ :: _) _ _); refine pause ?_)
    unfold Paused
    change wpList _ _ _ _ _ (w6.alloc (.cells #[.bool false, .int .i64 0, .slice none 0 0] 191))
    refine wpList_store_row (by rfl) 191 (.tmp 7) (.tmp 19) (by rfl) w6.heap.size (ndC false 0 (.slice none 0 0)) (by rfl) (by rfl) 191 #[.bool false, .int .i64 0, .slice none 0 0] (Blk.new w6 _ _) (by exact nd_size) (by rfl) (nd_one _ _ _ _ _) ?_
    have b7 : Below w6.heap.size w6 ((w6.alloc (.cells #[.bool false, .int .i64 0, .slice none 0 0] 191)).setRow w6.heap.size (ndC false 0 (.slice none 0 0))) := below_row ((Below.refl _ _).alloc (Nat.le_refl _) _) (Nat.le_refl _) _
    have HW7 := Lib.hid (And.intro (HW6.out.1.below b7) (HW6.out.2.below b7))
    have HI7 := Lib.hid (HI6.out.below b7 HI6.out.lt)
    clear b7 q6 pA HW6 HI6
    generalize (w6.alloc (.cells #[.bool false, .int .i64 0, .slice none 0 0] 191)).setRow w6.heap.size (ndC false 0 (.slice none 0 0)) = w7 at HW7 HI7 ⊢
    generalize w6.heap.size = g7
    simp only [Act.put]
    go_wp2_with fail
    have HW8 := Lib.hid (HW7.out.1.below (w' := w7.drew) (below_drewN (Below.refl _ w7) 1))
    have HX8 := Lib.hid (HW7.out.2.below (w' := w7.drew) (below_drewN (Below.refl _ w7) 1))
    have CL := look_any ms nms its x a w7.drew HW8.out.st HID.out (fun p hp => ⟨(HRD.out p hp).1.below HW8.out.bel (Nat.le_refl _), (HRD.out p hp).2⟩) (HSE.out.at_ HW8.out.bel)
    unfold LookPost at CL
    rw [← HO.out] at CL
    have HSX : Hid (Blk w7.drew bA 159 #[.map (some ma)] ∧ Blk w7.drew bS 160 #[.map (some ms)] ∧ Blk w7.drew g6 41 (u8s x)) := Lib.hid ⟨HW8.out.ba, HW8.out.bs, HI7.out.drew⟩
    refine wp_region_upto (S := fun w' => Blk w' bA 159 #[.map (some ma)] ∧ Blk w' bS 160 #[.map (some ms)] ∧ Blk w' g6 41 (u8s x)) (b := 5) (by kernel_rfl) ?_
    change Upto _ _ _ _ _ _ _ _ _ w7.drew
    refine Upto.take (i := 0) (v := ?_) rfl (by kernel_rfl) (by kernel_rfl) (by kernel_rfl) (by kernel_rfl) (fun _ _ _ h => h) (Or.inl ⟨by rfl, ?_⟩) HSX.out ?_
    rotate_left
    ·intro w' hS; have h0 : w'.cell? ⟨bA, 0, none⟩ = some (.map (some ma)) := hS.1.cell 0; go_simp; with_reducible rfl
    try simp only [Act.put, List.getElem_toArray, List.getElem_cons_zero, List.setIfInBounds_toArray, List.set_cons_zero, List.set_cons_succ]
    refine Upto.take (i := 1) (v := .agg (u8s x)) rfl (by kernel_rfl) (by kernel_rfl) (by kernel_rfl) (by kernel_rfl) (fun _ _ _ h => h) (takes_row 41 (.tmp 6) rfl (by rfl) g6 (by rfl) 41 (u8s x) _ (fun w' hS => hS.2.2) (by first | exact Tryz.underlying41 | kernel_rfl) (by rfl) (by rw [u8s_size, HID.out.1]; exact cl_oid_load)) HSX.out ?_
    try simp only [Act.put, List.getElem_toArray, List.getElem_cons_zero, List.getElem_cons_succ, List.setIfInBounds_toArray, List.set_cons_zero, List.set_cons_succ]
    refine Upto.take (i := 2) (v := ?_) rfl (by kernel_rfl) (by kernel_rfl) (by kernel_rfl) (by kernel_rfl) (fun _ _ _ h => h) (Or.inl ⟨by rfl, ?_⟩) HSX.out ?_
    rotate_left
    ·intro w' hS; have h0 : w'.cell? ⟨bS, 0, none⟩ = some (.map (some ms)) := hS.2.1.cell 0; go_simp; with_reducible rfl
    try simp only [Act.put, List.getElem_toArray, List.getElem_cons_zero, List.getElem_cons_succ, List.setIfInBounds_toArray, List.set_cons_zero, List.set_cons_succ]
    refine Upto.take (i := 3) (v := .agg (u8s x)) rfl (by kernel_rfl) (by kernel_rfl) (by kernel_rfl) (by kernel_rfl) (fun _ _ _ h => h) (takes_row 41 (.tmp 6) rfl (by rfl) g6 (by rfl) 41 (u8s x) _ (fun w' hS => hS.2.2) (by first | exact Tryz.underlying41 | kernel_rfl) (by rfl) (by rw [u8s_size, HID.out.1]; exact cl_oid_load)) HSX.out ?_
    try simp only [Act.put, List.getElem_toArray, List.getElem_cons_zero, List.getElem_cons_succ, List.setIfInBounds_toArray, List.set_cons_zero, List.set_cons_succ]
    refine Upto.one (i := 4) (by kernel_rfl) rfl (by rfl) (fun K hK => ?_)
    go_simp
    refine CL.mono ?_
    rintro e w9 ⟨lv, rfl, hlv, hb9⟩
    have hx9 : Blk w9 bA 159 #[.map (some ma)] ∧ Blk w9 bS 160 #[.map (some ms)] ∧ Blk w9 g6 41 (u8s x) := ⟨HSX.out.1.below hb9 HSX.out.1.lt, HSX.out.2.1.below hb9 HSX.out.2.1.lt, HSX.out.2.2.below hb9 HSX.out.2.2.lt⟩
    refine hK _ _ (fun _ _ => hx9) ?_
    try simp only [Act.put, List.getElem_toArray, List.getElem_cons_zero, List.getElem_cons_succ, List.setIfInBounds_toArray, List.set_cons_zero, List.set_cons_succ]
    obtain ⟨Al, cl, rfl⟩ := cl_own_slice hlv
    have hfew := HW8.out.few HPL.out
    obtain ⟨w10, hrun, hm10, hg10⟩ := (HW8.out.mp.below hb9).store Tryz.underlying159 (by unfold maxLen; omega) HID.out (Cl.ndV objs ⟨x, .slice Al (Cl.lks objs x).length cl⟩)
    have HM10 := Lib.hid hm10
    have HG10 := Lib.hid hg10
    have HB9 := Lib.hid hb9
    have HLV := Lib.hid hlv
    have HFEW : Hid ((ns ++ ns').length ≤ 1000) := Lib.hid hfew
    have hrun' : (Instr.mapUpdate 159 (.map (some ma)) (.agg (u8s x)) (.agg (ndC (Cl.the objs x) (Cl.knd objs x) (.slice Al (Cl.lks objs x).length cl)))).run Tryz.prog w9 = .ok () w10 := hrun
    have HI10 : Hid (Blk w10 g6 41 (u8s x)) := Lib.hid (hx9.2.2.grown hg10 (fun e => by
     injection e with e
     obtain ⟨es, ck, hmm⟩ := (HW8.out.mp.below hb9).is
     have h1 := hx9.2.2
     unfold Blk at h1
     rw [e, hmm] at h1
     cases h1))
    clear hlv hb9 hm10 hg10 hfew hrun CL hx9
    generalize ndC (Cl.the objs x) (Cl.knd objs x) (.slice Al (Cl.lks objs x).length cl) = nv at hrun' ⊢
    refine Upto.one (i := 5) (by kernel_rfl) rfl (by rfl) (fun K hK => ?_)
    go_simp
    refine hK _ _ (fun h => absurd rfl h) ?_
    try simp only [Act.put, List.getElem_toArray, List.getElem_cons_zero, List.getElem_cons_succ, List.setIfInBounds_toArray, List.set_cons_zero, List.set_cons_succ]
    refine Upto.done (by kernel_rfl) ?_ _
    clear hrun'
    have hbl8 := HW8.out.bl.below HB9.out HW8.out.bl.lt
    have hbl10 : Blk w10 bL 106 #[v'] := hbl8.grown HG10.out (fun e => by injection e with e; have := HW8.out.ne; omega)
    obtain ⟨Av, cv, hvv⟩ := cl_own_slice HW8.out.own
    have pL : w10.cell? ⟨bL, 0, none⟩ = some (.slice Av (ns ++ ns').length cv) := by rw [← hvv]; exact hbl10.cell 0
    have HBL10 := Lib.hid hbl10
    have HVV := Lib.hid hvv
    clear hbl8 hbl10 hvv
    obtain ⟨nl, hnl⟩ : ∃ n, n = (ns ++ ns').length := ⟨_, rfl⟩
    rw [← hnl] at pL HFEW HVV
    have HNL := Lib.hid hnl
    clear hnl
    go_wp2_with (with_reducible (show wpList _ _ _ (Oper.mk _ (Op.load 41 _) _ _ _ _ :: _) _ _); refine pause ?_)
    unfold Paused
    refine wpList_row_w (by rfl) 41 (.tmp 6) (by rfl) g6 (by rfl) 41 (u8s x) _ HI10.out Tryz.underlying41 (by rfl) (by rw [u8s_size, HID.out.1]; exact cl_oid_load) ?_
    obtain ⟨ip, hip, hpz, hps, hpb⟩ := info_parts ioid_info
    go_wp2_with (with_reducible (show wpList _ _ _ (Oper.mk _ (Op.buildSlice _ _ _) _ _ _ _ :: _) _ _); refine pause ?_)
    unfold Paused
    refine wpList_buildSliceK (by rfl) 106 41 1 _ (by rfl) (cellsB x).toArray ip (.agg (cellsB (List.replicate 32 0)).toArray) Tryz.underlying106 hip hpz (by rw [hps]; decide) (by rw [hps]; decide) _ (by kernel_rfl) (by rw [hps]; exact fill_one 32 (Value.agg (cellsB (List.replicate 32 0)).toArray).cells _ (cellsP1_len HID.out) (by rfl)) ?_
    have b11 : Below w10.heap.size w10 (w10.alloc (.cells (cellsB x).toArray 41)) := (Below.refl _ _).alloc (Nat.le_refl _) _
    have HX11 := Lib.hid (Blk.new w10 41 (cellsB x).toArray)
    have HBX := Lib.hid b11
    have HO11 : Hid ((w10.alloc (.cells (cellsB x).toArray 41)).ownsRow B 41 32 (.slice Av nl cv) nl (cellsP ((ns ++ ns').map (·.id)))) := Lib.hid (by
     have h1 := own_below (own_grow (own_below HW8.out.own HB9.out) HG10.out (fun x hx e => by injection e with e; have h2 := (own_in (own_below HW8.out.own HB9.out) hx).1; have h3 := HW8.out.ord; omega)) b11
     rw [HVV.out, ← HNL.out] at h1
     exact h1)
    have HSZ : Hid (B ≤ (w10.alloc (.cells (cellsB x).toArray 41)).heap.size) := Lib.hid (by have h1 := HW8.out.ord; have h2 := HB9.out.size; have h3 := HG10.out.size; have h4 := b11.size; omega)
    clear b11
    generalize w10.alloc (.cells (cellsB x).toArray 41) = w11 at HX11 HBX HO11 HSZ ⊢
    generalize w10.heap.size = g11 at HX11 ⊢
    go_wp2_with (with_reducible (show wpList _ _ _ (Oper.mk _ (Op.call (Call.mk (Callee.builtin Builtin.append) _ _)) _ _ _ _ :: _) _ _); refine pause ?_)
    unfold Paused
    refine wpList_append_lies w11 (by rfl) (.tmp 28) (.tmp 30) 106 (by rfl) B 41 ip _ 32 32 Tryz.underlying106 hip hpz hps hpb (by rfl) (by decide) (.slice Av nl cv) nl (cellsP ((ns ++ ns').map (·.id))) (by rfl) HO11.out ⟨g11, 0, none⟩ 1 1 (cellsB x) (by rfl) (by rw [cellsP1_len HID.out]) (fun j u hj => by rw [Addr.add_mid, Nat.zero_add, HX11.out.cell j]; simpa using hj) (cellsB_one _) (by decide) (by have := HFEW.out; unfold maxLen; omega) (by have := HFEW.out; omega) HSZ.out w11.heap.size rfl ?_
    intro g' cap w12 ho12 hg12 hl12 _
    have hst := HW8.out.step (lv := .slice Al (Cl.lks objs x).length cl) (g' := g') (c' := cap) HID.out HRX.out HNEW.out HB9.out HLV.out HM10.out HG10.out HBX.out (by rw [← HNL.out]; exact ho12) (by rw [HVV.out]; exact hg12) (by rw [HVV.out]; exact hl12)
    rw [← HNL.out] at hst
    have HN12 : Hid (WK objs roots its w0 (w12.setCell ⟨bL, 0, none⟩ (.slice (some ⟨g', 0, none⟩) (nl + 1) cap)) ms nms ma bA bS bL B (.slice (some ⟨g', 0, none⟩) (nl + 1) cap) (ns ++ (ns' ++ [Cl.Nd.mk x (.slice Al (Cl.lks objs x).length cl)])) ∧ IdS (w12.setCell ⟨bL, 0, none⟩ (.slice (some ⟨g', 0, none⟩) (nl + 1) cap)) (some ⟨b, o, none⟩) xs ma bL (.slice (some ⟨g', 0, none⟩) (nl + 1) cap) ∧ ∀ j, j < k + 1 → xs.getD j [] ∈ (ns ++ (ns' ++ [Cl.Nd.mk x (.slice Al (Cl.lks objs x).length cl)])).map (·.id)) := Lib.hid ⟨by rw [← List.append_assoc]; exact hst.1, HX8.out.step hst.2.1 hst.2.2 (by
      rw [HVV.out]
      rcases hl12 with e | e
      ·exact Or.inl e
      ·refine Or.inr ?_
       have h2 := HB9.out.size; have h3 := HG10.out.size; have h4 := HBX.out.size
       omega), HKX.out _ (fun j hj => by
      rw [← List.append_assoc, List.map_append]
      exact List.mem_append_left _ (HJ.out j hj)) (by rw [← List.append_assoc, List.map_append]; exact List.mem_append_right _ (by simp))⟩
    have pL12 : w12.cell? ⟨bL, 0, none⟩ = some (.slice Av nl cv) := by
     have h1 := (HBL10.out.below HBX.out HBL10.out.lt).grown hg12 (fun e => by
      have h5 := (own_in HO11.out e.symm).1
      have h3 := HW8.out.ord
      omega)
     rw [← HVV.out]
     exact h1.cell 0
    have zL12 : w12.frozen? ⟨bL, 0, none⟩ = false := ((HBL10.out.below HBX.out HBL10.out.lt).grown hg12 (fun e => by
      have h5 := (own_in HO11.out e.symm).1
      have h3 := HW8.out.ord
      omega)).frozen 0
    clear ho12 hg12 hl12 hst hip hpz hps hpb pL
    simp only [Act.put]
    go_wp2
    go_roundw
    case rel => exact ⟨k + 1, by have := HLT.out; omega, by go_num, _, _, HN12⟩
    case measure => have := HLT.out; simp [intOf]; omega
  ·obtain rfl : k = n := by omega
   have ik : ¬ ((k : Nat) : Int) < k := by omega
   have HF : Hid (AddPost objs roots its w0 ms nms ma bA bS bL B ns xs (.returned (.tuple #[])) wr) := Lib.hid ⟨v', ns', rfl, HW.out.1, fun x hx => by
    obtain ⟨j, hj, he⟩ := List.mem_iff_getElem.1 hx
    have h1 := HW.out.2.2 j (by rw [HNX.out]; exact hj)
    rw [List.getD_eq_getElem?_getD, List.getElem?_eq_getElem hj, Option.getD_some, he] at h1
    exact h1⟩
   go_wp2
   go_end0
   exact HF.out
end Go.Proofs.YtgcgomdhdgjpdaaGreatDoor
