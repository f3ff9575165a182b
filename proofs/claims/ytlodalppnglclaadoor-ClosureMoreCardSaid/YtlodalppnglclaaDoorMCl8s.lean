/- closure's calls: what is reached, missing, wrong, loose. -/
import Derived.Test.YtlodalppnglclaaDoorMCl7
namespace Go.Proofs.YtlodalppnglclaaDoor
open Go Go.RowKit
/-- what the five calls are handed -/
structure ClIn (w0 : World) (A : Option Addr) (n c : Nat) (its : List Cl.T) (A2 : Option Addr) (n2 c2 : Nat) (roots : List (List Nat)) (a : Nat → Addr) : Prop where
  txt : ClT w0 (.slice A n c) its
  len : ∀ p ∈ its, p.text.length ≤ 100000
  tab : Tabs w0
  sen : CSents w0 a
  rk : RdK w0 (.slice A2 n2 c2) n2 (cellsP roots)
  rl : n2 = roots.length
  ri : ∀ x ∈ roots, Id32 x
  few : roots.length + 9 * its.length ≤ 1000
section
variable {w0 : World} {A : Option Addr} {n c : Nat} {its : List Cl.T} {A2 : Option Addr} {n2 c2 : Nat} {roots : List (List Nat)} {a : Nat → Addr}
theorem ClIn.byt (h : ClIn w0 A n c its A2 n2 c2 roots a) : ∀ t ∈ its.map (·.text), Sha.Byte t := fun t ht => by
  obtain ⟨p, hp, rfl⟩ := List.mem_map.1 ht
  exact (h.txt.rd p hp).2
theorem ClIn.stock (h : ClIn w0 A n c its A2 n2 c2 roots a) {w : World} (hb : Below w0.heap.size w0 w) : Calls Tryd.prog 25 #[.slice A n c] w (StkPost w its) :=
  stockOf_any A n c its w (h.txt.below hb) (by have := h.few; omega) h.len (h.tab.below hb (Nat.le_refl _))
theorem ClIn.walk (h : ClIn w0 A n c its A2 n2 c2 roots a) {w : World} (hb : Below w0.heap.size w0 w) {ms nms : Nat} (hm : MapO w ms nms (fun id => (Cl.fst its id).map (·.val))) : Calls Tryd.prog 26 #[.map (some ms), .slice A2 n2 c2] w (WalkPost (its.map (·.text)) roots w) := by
  have hp := pool_few (roots := roots) h.byt
  rw [List.length_map] at hp
  have hrk := h.rk.below hb (Nat.le_refl _)
  rw [h.rl] at hrk ⊢
  exact walk_any a A2 c2 roots its ms nms w0 w hb hm h.txt.rd h.sen (by have := h.few; omega) h.ri (by have := h.few; omega) hrk
theorem nds_of {objs roots : List (List Nat)} {w w' : World} {e : Ending} (h : WalkPost objs roots w e w') : ∃ ma ns, e = .returned (.map (some ma)) ∧ Nds objs roots w' ma ns ∧ Below w.heap.size w w' := by
  obtain ⟨ma, ns, h1, h2, h3, h4, h5, h6, _, h7⟩ := h
  exact ⟨ma, ns, h1, ⟨h2, h3, h4, h5, h6⟩, h7⟩
theorem eg_rch (args : Array Value) (w : World) : (callFunc 28 args).run Tryd.prog w = .ok (.enter 28 args) w := by kernel_rfl
theorem eg_mis (args : Array Value) (w : World) : (callFunc 42 args).run Tryd.prog w = .ok (.enter 42 args) w := by kernel_rfl
theorem eg_wrg (args : Array Value) (w : World) : (callFunc 43 args).run Tryd.prog w = .ok (.enter 43 args) w := by kernel_rfl
theorem eg_loo (args : Array Value) (w : World) : (callFunc 32 args).run Tryd.prog w = .ok (.enter 32 args) w := by kernel_rfl
theorem nd_shape {objs roots : List (List Nat)} {w : World} {ma : Nat} {ns : List Cl.Nd} (h : Nds objs roots w ma ns) : ∀ x v, (Cl.at_ ns x).map (Cl.ndV objs) = some v → ∃ tb kb A n c, v = .agg (ndC tb kb (.slice A n c)) := fun x v hv => by
  obtain ⟨A, c, he, _⟩ := h.val hv
  exact ⟨_, _, _, _, _, he⟩
theorem pick_rch {objs roots : List (List Nat)} {w : World} {ma : Nat} {ns : List Cl.Nd} (h : Nds objs roots w ma ns) : Calls Tryd.prog 27 #[.map (some ma), .func (.func 28) #[] #[]] w (SetPost (fun x => Cl.Rch objs roots x ∧ Cl.the objs x = true) w) :=
  (pickN_any 28 #[] (Cl.the objs) ma ns.length _ w h.mp (nd_shape h) h.few eg_rch (fun x v w' hx hv hb => by
    obtain ⟨A, c, rfl, _, _⟩ := h.val hv
    exact rch1_any x _ _ A _ c w')).mono fun e w' hp => SetPost.of hp (fun x hx => by rw [h.isSome x]) (Below.refl _ _)
theorem pick_mis {objs roots : List (List Nat)} {w : World} {ma : Nat} {ns : List Cl.Nd} (h : Nds objs roots w ma ns) : Calls Tryd.prog 27 #[.map (some ma), .func (.func 42) #[] #[]] w (SetPost (fun x => Cl.Rch objs roots x ∧ Cl.the objs x = false) w) :=
  (pickN_any 42 #[] (fun x => !Cl.the objs x) ma ns.length _ w h.mp (nd_shape h) h.few eg_mis (fun x v w' hx hv hb => by
    obtain ⟨A, c, rfl, _, _⟩ := h.val hv
    exact mis1_any x _ _ A _ c w')).mono fun e w' hp => SetPost.of hp (fun x hx => by rw [h.isSome x]; simp) (Below.refl _ _)
theorem missing_m {objs roots : List (List Nat)} {w : World} {ma : Nat} {ns : List Cl.Nd} (h : Nds objs roots w ma ns) : Calls Tryd.prog 29 #[.map (some ma)] w (SetPost (fun x => Cl.Rch objs roots x ∧ Cl.the objs x = false) w) := by
  have CP := pick_mis h
  unfold SetPost at CP
  clear h
  go_enter Tryd.func29, Tryd.ntmps29
  go_wp2_with (go_at_call 27; refine pause ?_)
  unfold Paused
  refine CP.mono ?_
  rintro e w' ⟨v, r, rfl, h2⟩
  have HF := Lib.hid h2
  clear h2 CP
  go_wp2
  go_ret
  exact ⟨v, r, rfl, HF.out⟩
theorem wrong_m {objs roots : List (List Nat)} {w : World} {ma : Nat} {ns : List Cl.Nd} (h : Nds objs roots w ma ns) (hb : ∀ t ∈ objs, Sha.Byte t) : Calls Tryd.prog 30 #[.map (some ma)] w (SetPost (fun x => Cl.Rch objs roots x ∧ Cl.wrg objs x = true) w) := by
  have b1 : Below w.heap.size w (w.alloc (.cells #[.map (some ma)] 61)) := (Below.refl _ _).alloc (Nat.le_refl _) _
  have hR : Blk (w.alloc (.cells #[.map (some ma)] 61)) w.heap.size 61 #[.map (some ma)] := Blk.new w _ _
  have h1 := h.below b1
  have CP : Calls Tryd.prog 27 #[.map (some ma), .func (.func 43) #[] #[.pointer (some ⟨w.heap.size, 0, none⟩)]] (w.alloc (.cells #[.map (some ma)] 61)) (SetPost (fun x => Cl.Rch objs roots x ∧ Cl.wrg objs x = true) w) :=
    (pickN_any 43 #[.pointer (some ⟨w.heap.size, 0, none⟩)] (Cl.wrg objs) ma ns.length _ _ h1.mp (nd_shape h1) h1.few eg_wrg (fun x v w' hx hv hb' => by
      exact wrg1_any (h1.below hb') (hR.below hb' hR.lt) x v hx hv (fun y hy => links_id32 hb hy))).mono fun e w' hp => SetPost.of hp (fun x hx => by rw [h1.isSome x]) b1
  unfold SetPost at CP
  have p0 : (w.alloc (.cells #[.map (some ma)] 61)).cell? ⟨w.heap.size, 0, none⟩ = some (.map (some ma)) := hR.cell 0
  clear h h1 hR b1 hb
  go_enter Tryd.func30, Tryd.ntmps30
  go_wp2_with (go_at_call 27; refine pause ?_)
  unfold Paused
  refine CP.mono ?_
  rintro e w' ⟨v, r, rfl, h2⟩
  have HF := Lib.hid h2
  clear h2 CP
  go_wp2
  go_ret
  exact ⟨v, r, rfl, HF.out⟩
set_option maxRecDepth 100000 in
theorem reached_any (h : ClIn w0 A n c its A2 n2 c2 roots a) (w : World) (hb : Below w0.heap.size w0 w) : Calls Tryd.prog 11 #[.slice A n c, .slice A2 n2 c2] w (SetPost (fun x => Cl.Rch (its.map (·.text)) roots x ∧ Cl.the (its.map (·.text)) x = true) w) := by
  have CS := h.stock hb
  unfold StkPost at CS
  have HW := Lib.hid (fun (w : World) (hb : Below w0.heap.size w0 w) (ms nms : Nat) (hm : MapO w ms nms (fun id => (Cl.fst its id).map (·.val))) => h.walk hb hm)
  have HB := Lib.hid hb
  clear h hb
  go_enter Tryd.func11, Tryd.ntmps11
  go_wp2_with (go_at_call 25; refine pause ?_)
  unfold Paused
  refine CS.mono ?_
  rintro e w1 ⟨m, nm, rfl, hm, _, _, hb1⟩
  have HM := Lib.hid hm
  have H1 := Lib.hid hb1
  clear hm hb1 CS
  go_wp2_with (go_at_call 26; refine pause ?_)
  unfold Paused
  refine (HW.out w1 (below_next HB.out H1.out) m nm HM.out).mono ?_
  intro e w2 hwp
  obtain ⟨ma, ns, rfl, hnd, hb2⟩ := nds_of hwp
  have CP := pick_rch hnd
  unfold SetPost at CP
  have H2 := Lib.hid (below_next H1.out hb2)
  clear hwp hnd hb2 HW HM
  go_wp2_with (go_at_call 27; refine pause ?_)
  unfold Paused
  refine CP.mono ?_
  rintro e w' ⟨v, r, rfl, h2, h3, h4, h5, h6⟩
  have HF := Lib.hid (And.intro h2 (And.intro h3 (And.intro h4 (And.intro h5 (below_next H2.out h6)))))
  clear h2 h3 h4 h5 h6 CP
  go_wp2
  go_ret
  exact ⟨v, r, rfl, HF.out⟩
set_option maxRecDepth 100000 in
theorem missing_any (h : ClIn w0 A n c its A2 n2 c2 roots a) (w : World) (hb : Below w0.heap.size w0 w) : Calls Tryd.prog 12 #[.slice A n c, .slice A2 n2 c2] w (SetPost (fun x => Cl.Rch (its.map (·.text)) roots x ∧ Cl.the (its.map (·.text)) x = false) w) := by
  have CS := h.stock hb
  unfold StkPost at CS
  have HW := Lib.hid (fun (w : World) (hb : Below w0.heap.size w0 w) (ms nms : Nat) (hm : MapO w ms nms (fun id => (Cl.fst its id).map (·.val))) => h.walk hb hm)
  have HB := Lib.hid hb
  have HBY := Lib.hid h.byt
  clear h hb
  go_enter Tryd.func12, Tryd.ntmps12
  go_wp2_with (go_at_call 25; refine pause ?_)
  unfold Paused
  refine CS.mono ?_
  rintro e w1 ⟨m, nm, rfl, hm, _, _, hb1⟩
  have HM := Lib.hid hm
  have H1 := Lib.hid hb1
  clear hm hb1 CS
  go_wp2_with (go_at_call 26; refine pause ?_)
  unfold Paused
  refine (HW.out w1 (below_next HB.out H1.out) m nm HM.out).mono ?_
  intro e w2 hwp
  obtain ⟨ma, ns, rfl, hnd, hb2⟩ := nds_of hwp
  have CP := missing_m hnd
  unfold SetPost at CP
  have H2 := Lib.hid (below_next H1.out hb2)
  clear hwp hnd hb2 HW HM
  go_wp2_with (go_at_call 29; refine pause ?_)
  unfold Paused
  refine CP.mono ?_
  rintro e w' ⟨v, r, rfl, h2, h3, h4, h5, h6⟩
  have HF := Lib.hid (And.intro h2 (And.intro h3 (And.intro h4 (And.intro h5 (below_next H2.out h6)))))
  clear h2 h3 h4 h5 h6 CP
  go_wp2
  go_ret
  exact ⟨v, r, rfl, HF.out⟩
set_option maxRecDepth 100000 in
theorem loo1_any {objs roots : List (List Nat)} {w : World} {ma bR : Nat} {ns : List Cl.Nd} (h : Nds objs roots w ma ns) (hR : Blk w bR 61 #[.map (some ma)]) (x : List Nat) (v : Value) (hx : Id32 x) :
    Calls Tryd.prog 32 #[.agg (u8s x), v, .pointer (some ⟨bR, 0, none⟩)] w fun e w' => e = .returned (.bool (!(Cl.at_ ns x).isSome)) ∧ Below w.heap.size w w' := by
  have b1 : Below w.heap.size w (w.alloc (.cells (u8s x) 37)) := (Below.refl _ _).alloc (Nat.le_refl _) _
  have HI : Hid (Blk (w.alloc (.cells (u8s x) 37)) w.heap.size 37 (u8s x)) := Lib.hid (Blk.new w _ _)
  have pR : (w.alloc (.cells (u8s x) 37)).cell? ⟨bR, 0, none⟩ = some (.map (some ma)) := (hR.below b1 hR.lt).cell 0
  have q := (h.mp.below b1).look_ok Tryd.underlying61 (nd_zero _) hx
  have HB := Lib.hid b1
  have HX := Lib.hid hx
  obtain ⟨cs, hcs, h3, h1⟩ : ∃ cs : Array Value, ((Cl.at_ ns x).map (Cl.ndV objs)).getD (.agg (ndC false 0 (.slice none 0 0))) = .agg cs ∧ cs.size = 3 ∧ cs.all (·.oneCell') = true := by
    cases hat : (Cl.at_ ns x).map (Cl.ndV objs) with
    | none => exact ⟨_, rfl, rfl, nd_one _ _ _ _ _⟩
    | some u =>
      obtain ⟨A, c, he, _⟩ := h.val hat
      exact ⟨_, he, rfl, nd_one _ _ _ _ _⟩
  rw [hcs, Option.isSome_map] at q
  have H3 := Lib.hid h3
  have H1 := Lib.hid h1
  clear h hR b1 hx hcs h3 h1
  generalize (Cl.at_ ns x).isSome = has at q ⊢
  go_enter Tryd.func32, Tryd.ntmps32
  go_wp2_with (with_reducible (show wpList _ _ _ (Oper.mk _ (Op.load 37 _) _ _ _ _ :: _) _ _); refine pause ?_)
  unfold Paused
  refine wpList_row_w (by rfl) 37 (.tmp 3) (by rfl) w.heap.size (by rfl) 37 (u8s x) _ HI.out Tryd.underlying37 (by rfl) (by rw [u8s_size, HX.out.1]; exact cl_oid_load) ?_
  go_wp2_with (with_reducible (show wpList _ _ _ (Oper.mk _ (Op.store 68 _ _) _ _ _ _ :: _) _ _); refine pause ?_)
  unfold Paused
  change wpList _ _ _ _ _ ((w.alloc (.cells (u8s x) 37)).alloc (.cells #[.bool false, .int .i64 0, .slice none 0 0] 68))
  refine wpList_store_row (by rfl) 68 (.tmp 6) (.tmp 12) (by rfl) (w.alloc (.cells (u8s x) 37)).heap.size cs (by simp; rfl) (by rfl) 68 #[.bool false, .int .i64 0, .slice none 0 0] (Blk.new _ _ _) (by rw [H3.out]; exact nd_size) (by rw [H3.out]; rfl) H1.out ?_
  have HBx := Lib.hid (below_row (HB.out.alloc HB.out.size (.cells #[.bool false, .int .i64 0, .slice none 0 0] 68)) HB.out.size cs)
  generalize ((w.alloc (.cells (u8s x) 37)).alloc (.cells #[.bool false, .int .i64 0, .slice none 0 0] 68)).setRow (w.alloc (.cells (u8s x) 37)).heap.size cs = w4 at HBx ⊢
  simp only [Act.put]
  go_wp2
  go_ret
  exact ⟨rfl, HBx.out⟩
set_option maxRecDepth 100000 in
theorem loose_any (h : ClIn w0 A n c its A2 n2 c2 roots a) (w : World) (hb : Below w0.heap.size w0 w) : Calls Tryd.prog 14 #[.slice A n c, .slice A2 n2 c2] w (SetPost (fun x => Cl.the (its.map (·.text)) x = true ∧ ¬ Cl.Rch (its.map (·.text)) roots x) w) := by
  have CS := h.stock hb
  unfold StkPost at CS
  have HW := Lib.hid (fun (w : World) (hb : Below w0.heap.size w0 w) (ms nms : Nat) (hm : MapO w ms nms (fun id => (Cl.fst its id).map (·.val))) => h.walk hb hm)
  have HB := Lib.hid hb
  have HSH : Hid (∀ x v, (Cl.fst its x).map (·.val) = some v → ∃ A n c, v = .slice A n c) := Lib.hid (fun x v hv => by
    obtain ⟨p, hp, rfl⟩ := Option.map_eq_some_iff.1 hv
    obtain ⟨A, c, he, _⟩ := (h.txt.rd p (Cl.fst_mem hp).1).1
    exact ⟨_, _, _, he⟩)
  have HFW : Hid (its.length ≤ 1000) := Lib.hid (by have := h.few; omega)
  clear h hb
  go_enter Tryd.func14, Tryd.ntmps14
  go_wp2_with (go_at_call 25; refine pause ?_)
  unfold Paused
  refine CS.mono ?_
  rintro e w1 ⟨m, nm, rfl, hm, hnm, _, hb1⟩
  have HM := Lib.hid hm
  have H1 := Lib.hid hb1
  have HNM := Lib.hid hnm
  clear hm hb1 CS hnm
  go_wp2_with (go_at_call 26; refine pause ?_)
  unfold Paused
  refine (HW.out w1 (below_next HB.out H1.out) m nm HM.out).mono ?_
  intro e w2 hwp
  obtain ⟨ma, ns, rfl, hnd, hb2⟩ := nds_of hwp
  have b3 : Below w2.heap.size w2 (w2.alloc (.cells #[.map (some ma)] 61)) := (Below.refl _ _).alloc (Nat.le_refl _) _
  have hR : Blk (w2.alloc (.cells #[.map (some ma)] 61)) w2.heap.size 61 #[.map (some ma)] := Blk.new w2 _ _
  have p0 : (w2.alloc (.cells #[.map none] 61)).cell? ⟨w2.heap.size, 0, none⟩ = some (.map none) := (Blk.new w2 61 #[.map none]).cell 0
  have f0 : (w2.alloc (.cells #[.map none] 61)).frozen? ⟨w2.heap.size, 0, none⟩ = false := (Blk.new w2 61 #[.map none]).frozen 0
  have h3 := hnd.below b3
  have hM3 := (HM.out.below hb2).below b3
  have CP : Calls Tryd.prog 31 #[.map (some m), .func (.func 32) #[] #[.pointer (some ⟨w2.heap.size, 0, none⟩)]] (w2.alloc (.cells #[.map (some ma)] 61)) (SetPost (fun x => Cl.the (its.map (·.text)) x = true ∧ ¬ Cl.Rch (its.map (·.text)) roots x) w) :=
    (pickT_any 32 #[.pointer (some ⟨w2.heap.size, 0, none⟩)] (fun x => !(Cl.at_ ns x).isSome) m nm _ _ hM3 HSH.out (by have := HNM.out; have := HFW.out; omega) eg_loo (fun x v w' hx hv hb' => loo1_any (h3.below hb') (hR.below hb' hR.lt) x v hx)).mono fun e w' hp => SetPost.of hp (fun x hx => by
      have e1 : ((Cl.fst its x).map (·.val)).isSome = Cl.the (its.map (·.text)) x := by unfold Cl.the; rw [← Cl.fst_text, Option.isSome_map, Option.isSome_map]
      rw [e1, ← hnd.rch x, ← Cl.at_iff]
      simp) (below_next (below_next H1.out hb2) b3)
  unfold SetPost at CP
  clear hwp hnd hb2 HW HM b3 hR h3 hM3
  go_wp2_with (go_at_call 31; refine pause ?_)
  unfold Paused
  refine CP.mono ?_
  rintro e w' ⟨v, r, rfl, h2⟩
  have HF := Lib.hid h2
  clear h2 CP
  go_wp2
  go_ret
  exact ⟨v, r, rfl, HF.out⟩
end
end Go.Proofs.YtlodalppnglclaaDoor
/- closure's Whole; the law's example. -/
namespace Go.Proofs.YtlodalppnglclaaDoor
open Go Go.RowKit
/-- how Whole ends -/
def WholePost (objs roots : List (List Nat)) (w : World) (e : Ending) (w' : World) : Prop :=
  ∃ β, e = .returned (.bool β) ∧ (β = true ↔ ∀ x, Id32 x → Cl.Rch objs roots x → Cl.the objs x = true ∧ Cl.wrg objs x = false) ∧ Below w.heap.size w w'
theorem len_rdo {w : World} {v : Value} {r : List (List Nat)} (h : RdO w v r) : ∃ A c, v = .slice A r.length c := by
  obtain ⟨A, c, hv, _⟩ := h
  exact ⟨A, c, hv⟩
section
variable {w0 : World} {A : Option Addr} {n c : Nat} {its : List Cl.T} {A2 : Option Addr} {n2 c2 : Nat} {roots : List (List Nat)} {a : Nat → Addr}
set_option maxRecDepth 100000 in
theorem whole_any (h : ClIn w0 A n c its A2 n2 c2 roots a) (w : World) (hb : Below w0.heap.size w0 w) : Calls Tryd.prog 15 #[.slice A n c, .slice A2 n2 c2] w (WholePost (its.map (·.text)) roots w) := by
  have CS := h.stock hb
  unfold StkPost at CS
  have HW := Lib.hid (fun (w : World) (hb : Below w0.heap.size w0 w) (ms nms : Nat) (hm : MapO w ms nms (fun id => (Cl.fst its id).map (·.val))) => h.walk hb hm)
  have HB := Lib.hid hb
  have HBY := Lib.hid h.byt
  clear h hb
  go_enter Tryd.func15, Tryd.ntmps15
  go_wp2_with (go_at_call 25; refine pause ?_)
  unfold Paused
  refine CS.mono ?_
  rintro e w1 ⟨m, nm, rfl, hm, _, _, hb1⟩
  have HM := Lib.hid hm
  have H1 := Lib.hid hb1
  clear hm hb1 CS
  go_wp2_with (go_at_call 26; refine pause ?_)
  unfold Paused
  refine (HW.out w1 (below_next HB.out H1.out) m nm HM.out).mono ?_
  intro e w2 hwp
  obtain ⟨ma, ns, rfl, hnd, hb2⟩ := nds_of hwp
  have HND := Lib.hid hnd
  have H2 := Lib.hid (below_next H1.out hb2)
  have CM := missing_m hnd
  unfold SetPost at CM
  clear hwp hnd hb2 HW HM
  go_wp2_with (go_at_call 29; refine pause ?_)
  unfold Paused
  refine CM.mono ?_
  rintro e w3 ⟨v, r, rfl, h2, h3, h4, h5, h6⟩
  obtain ⟨Av, cv, rfl⟩ := len_rdo h2
  have H3 := Lib.hid (below_next H2.out h6)
  have HR5 := Lib.hid h5
  have HR3 := Lib.hid h3
  have HN3 := Lib.hid (HND.out.below h6)
  clear h2 h3 h4 h5 h6 CM
  obtain ⟨nr, hnr⟩ : ∃ n, n = r.length := ⟨_, rfl⟩
  rw [← hnr]
  by_cases hr : nr = 0
  · have hnil : r = [] := List.eq_nil_of_length_eq_zero (by omega)
    have HNIL := Lib.hid hnil
    have CW := wrong_m HN3.out HBY.out
    unfold SetPost at CW
    clear hnil hnr
    subst hr
    go_wp2_with (go_at_call 30; refine pause ?_)
    unfold Paused
    refine CW.mono ?_
    rintro e w4 ⟨v, r4, rfl, h2, h3, h4, h5, h6⟩
    obtain ⟨Av4, cv4, rfl⟩ := len_rdo h2
    have H4 := Lib.hid (below_next H3.out h6)
    have HR4 := Lib.hid h5
    have HI4 := Lib.hid h3
    clear h2 h3 h4 h5 h6 CW
    obtain ⟨n4, hn4⟩ : ∃ n, n = r4.length := ⟨_, rfl⟩
    rw [← hn4]
    by_cases hr4 : n4 = 0
    · have hnil4 : r4 = [] := List.eq_nil_of_length_eq_zero (by omega)
      have HF : Hid (WholePost (its.map (·.text)) roots w (.returned (.bool true)) w4) := Lib.hid ⟨true, rfl, ⟨fun _ x hx hrx => ⟨(by
        cases ht : Cl.the (its.map (·.text)) x with
        | true => rfl
        | false =>
          have h1 := (HR5.out x hx).2 ⟨hrx, ht⟩
          rw [HNIL.out] at h1
          cases h1), (by
        cases ht : Cl.wrg (its.map (·.text)) x with
        | false => rfl
        | true =>
          have h1 := (HR4.out x hx).2 ⟨hrx, ht⟩
          rw [hnil4] at h1
          cases h1)⟩, fun _ => rfl⟩, H4.out⟩
      clear hnil4 hn4
      subst hr4
      go_wp2
      go_ret
      exact HF.out
    · have HF : Hid (WholePost (its.map (·.text)) roots w (.returned (.bool false)) w4) := Lib.hid ⟨false, rfl, ⟨fun h => (by cases h), fun h => by
        obtain ⟨x, hx⟩ := List.exists_mem_of_length_pos (l := r4) (by omega)
        have h1 := (HR4.out x (HI4.out x hx)).1 hx
        have h2 := (h x (HI4.out x hx) h1.1).2
        rw [h1.2] at h2
        cases h2⟩, H4.out⟩
      have g4 : ((n4 : Int) == 0) = false := by simp; omega
      clear hn4 hr4
      go_wp2
      go_ret
      exact HF.out
  · have HF : Hid (WholePost (its.map (·.text)) roots w (.returned (.bool false)) w3) := Lib.hid ⟨false, rfl, ⟨fun h => (by cases h), fun h => by
      obtain ⟨x, hx⟩ := List.exists_mem_of_length_pos (l := r) (by omega)
      have h1 := (HR5.out x (HR3.out x hx)).1 hx
      have h2 := (h x (HR3.out x hx) h1.1).1
      rw [h1.2] at h2
      cases h2⟩, H3.out⟩
    have g4 : ((nr : Int) == 0) = false := by simp; omega
    clear hnr hr
    go_wp2
    go_ret
    exact HF.out
end
end Go.Proofs.YtlodalppnglclaaDoor
/- Is an id in a row? The program's law and the document's reference ask it. -/
namespace Go.Proofs.YtlodalppnglclaaDoor
open Go Go.RowKit

set_option maxRecDepth 100000 in
set_option maxHeartbeats 1000000 in
theorem lin_any (l : List (List Nat)) (id : List Nat) (v : Value) (w : World) (h : RdO w v l) (hi : ∀ x ∈ l, Id32 x) (hid : Id32 id) (hn : l.length ≤ 100000) :
    Calls Tryd.prog 17 #[v, .agg (u8s id)] w fun e w' => e = .returned (.bool (decide (id ∈ l))) ∧ Below w.heap.size w w' := by
  obtain ⟨A, c, rfl, _, hx⟩ := h
  obtain ⟨n, hnl⟩ : ∃ n, n = l.length := ⟨_, rfl⟩
  rw [← hnl] at hn hx ⊢
  obtain ⟨w1, hw1⟩ : ∃ w1, w1 = w.alloc (.cells (u8s id) 37) := ⟨_, rfl⟩
  have b1 : Below w.heap.size w w1 := hw1 ▸ (Below.refl _ _).alloc (Nat.le_refl _) _
  have HI : Hid (Blk w1 w.heap.size 37 (u8s id)) := Lib.hid (hw1 ▸ Blk.new w _ _)
  have HB := Lib.hid b1
  have HX : Hid (0 < n → ∃ b o, A = some ⟨b, o, none⟩ ∧ b < w.heap.size ∧ ∀ i, i < n → w.rangeAt b (o + 32 * i) (cellsN (l.getD i []))) := Lib.hid hx
  have HN := Lib.hid hn
  have HNL := Lib.hid hnl
  have HXI := Lib.hid hi
  have HID := Lib.hid hid
  have hw1' := hw1.symm
  clear hx hn hnl hi hid b1 hw1
  go_enter Tryd.func17, Tryd.ntmps17
  go_wp2
  try change Code.wp _ _ _ _ (w.alloc (.cells (u8s id) 37))
  try rw [hw1']
  go_loopw [9] (fun i wr => ∃ k : Nat, k ≤ n ∧ i = .int .i64 k ∧ Hid (Below w1.heap.size w1 wr ∧ id ∉ l.take k)) (fun i _ => n - (intOf i).toNat)
  case atStart => exact ⟨0, Nat.zero_le _, rfl, Lib.hid ⟨Below.refl _ _, by simp⟩⟩
  case round =>
    obtain ⟨k, hk, rfl, HK⟩ := hrel
    by_cases hlt : k < n
    · have hkx : k < l.length := by rw [← HNL.out]; exact hlt
      obtain ⟨b, o, rfl, hbl, hcell⟩ := HX.out (by omega)
      obtain ⟨x, hxx⟩ : ∃ x, l.getD k [] = x := ⟨_, rfl⟩
      have hxe : l[k] = x := by rw [← hxx, List.getD_eq_getElem?_getD, List.getElem?_eq_getElem hkx]; rfl
      have HTK : Hid (l.take (k + 1) = l.take k ++ [x] ∧ x ∈ l) := Lib.hid ⟨by rw [List.take_succ_eq_append_getElem hkx, hxe], hxe ▸ List.getElem_mem hkx⟩
      have HIX := Lib.hid (HXI.out x HTK.out.2)
      have HRG : Hid (wr.rangeAt b (o + 32 * k) (cellsN x)) := Lib.hid (fun j u hu => (HK.out.1.cell (p := ⟨b, o + 32 * k + j, none⟩) (Nat.lt_of_lt_of_le hbl HB.out.size)).trans ((HB.out.cell (p := ⟨b, o + 32 * k + j, none⟩) hbl).trans (hcell k hlt j u (by rw [hxx]; exact hu))))
      have i1 : ((k : Nat) : Int) < n := by omega
      have i2 : (0 : Int) ≤ ((k : Nat) : Int) := by omega
      have i3 : ((k : Nat) : Int) < 100000 := by have := HN.out; omega
      have HLT := Lib.hid hlt
      rw [Nat.mul_comm 32 k] at HRG
      clear hkx hbl hcell hxx hxe hk hlt
      go_wp2_with (with_reducible (show wpList _ _ _ (Oper.mk _ (Op.load 37 _) _ _ _ _ :: _) _ _); refine pause ?_)
      unfold Paused
      refine wpList_mid_w (by rfl) 37 (.tmp 11) (by rfl) b (o + k * 32) (by rfl) (cellsB x) _ HRG.out Tryd.underlying37 (by rfl) (by rw [cellsP1_len HIX.out]; kernel_rfl) ?_
      go_wp2_with (with_reducible (show wpList _ _ _ (Oper.mk _ (Op.store 37 _ _) _ _ _ _ :: _) _ _); refine pause ?_)
      unfold Paused
      change wpList _ _ _ _ _ (wr.alloc (.cells (u8s (List.replicate 32 0)) 37))
      refine wpList_store_row (by rfl) 37 (.tmp 6) (.tmp 12) (by rfl) wr.heap.size (u8s x) (by rfl) (by rfl) 37 (u8s (List.replicate 32 0)) (Blk.new wr _ _) (by rw [u8s_size, HIX.out.1]; kernel_rfl) (by rw [u8s_size, u8s_size, HIX.out.1]; rfl) (u8s_one _) ?_
      have b6 : Below wr.heap.size wr ((wr.alloc (.cells (u8s (List.replicate 32 0)) 37)).setRow wr.heap.size (u8s x)) := below_row ((Below.refl _ _).alloc (Nat.le_refl _) _) (Nat.le_refl _) _
      have HB6 := Lib.hid (below_next HK.out.1 b6)
      have HI6 : Hid (Blk ((wr.alloc (.cells (u8s (List.replicate 32 0)) 37)).setRow wr.heap.size (u8s x)) wr.heap.size 37 (u8s x)) := Lib.hid ((Blk.new wr _ _).row _)
      clear b6 HRG
      generalize (wr.alloc (.cells (u8s (List.replicate 32 0)) 37)).setRow wr.heap.size (u8s x) = w6 at HB6 HI6 ⊢
      generalize wr.heap.size = g6 at HI6 ⊢
      simp only [Act.put]
      have HI1 := Lib.hid (HI.out.below HB6.out HI.out.lt)
      go_wp2_with (with_reducible (show wpList _ _ _ (Oper.mk _ (Op.load 37 _) _ _ _ _ :: _) _ _); refine pause ?_)
      unfold Paused
      refine wpList_row_w (by rfl) 37 (.tmp 6) (by rfl) g6 (by rfl) 37 (u8s x) _ HI6.out Tryd.underlying37 (by rfl) (by rw [u8s_size, HIX.out.1]; kernel_rfl) ?_
      go_wp2_with (with_reducible (show wpList _ _ _ (Oper.mk _ (Op.load 37 _) _ _ _ _ :: _) _ _); refine pause ?_)
      unfold Paused
      refine wpList_row_w (by rfl) 37 (.tmp 3) (by rfl) w.heap.size (by rfl) 37 (u8s id) _ HI1.out Tryd.underlying37 (by rfl) (by rw [u8s_size, HID.out.1]; kernel_rfl) ?_
      have qe := run_equalIn_u8s (P := Tryd.prog) w6 37 5 32 Tryd.underlying37 Tryd.underlying5 size_u8 x id HIX.out.1 HID.out.1 HIX.out.2 HID.out.2
      generalize hg : (x == id) = r at qe
      simp only [Act.put]
      cases r with
      | true =>
        have HF : Hid (decide (id ∈ l) = true ∧ Below w.heap.size w w6) := Lib.hid ⟨by
          have e : x = id := by simpa using hg
          rw [← e]
          simpa using HTK.out.2, below_next HB.out HB6.out⟩
        clear hg
        go_wp2
        go_ret
        exact ⟨by rw [HF.out.1]; rfl, HF.out.2⟩
      | false =>
        have HF : Hid (Below w1.heap.size w1 w6 ∧ id ∉ l.take (k + 1)) := Lib.hid ⟨HB6.out, by
          rw [HTK.out.1]
          intro hm
          rcases List.mem_append.1 hm with hm | hm
          · exact HK.out.2 hm
          · rw [List.mem_singleton.1 hm] at hg
            simp at hg⟩
        clear hg
        go_wp2
        go_roundw
        case rel => exact ⟨k + 1, by have := HLT.out; omega, by go_num, HF⟩
        case measure => have := HLT.out; simp [intOf]; omega
    · obtain rfl : k = n := by omega
      have ik : ¬ ((k : Nat) : Int) < k := by omega
      have HF : Hid (decide (id ∈ l) = false ∧ Below w.heap.size w wr) := Lib.hid ⟨by
        have h1 := HK.out.2
        rw [HNL.out, List.take_length] at h1
        simpa using h1, below_next HB.out HK.out.1⟩
      go_wp2
      go_ret
      exact ⟨by rw [HF.out.1]; rfl, HF.out.2⟩

end Go.Proofs.YtlodalppnglclaaDoor
/- Two rows of ids: the law's comparison of an answer with the document's. -/
namespace Go.Proofs.YtlodalppnglclaaDoor
open Go Go.RowKit
end Go.Proofs.YtlodalppnglclaaDoor
