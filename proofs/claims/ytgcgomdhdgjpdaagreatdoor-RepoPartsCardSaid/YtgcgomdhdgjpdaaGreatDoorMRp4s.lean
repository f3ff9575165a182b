/- The ids that an iterator gives, collected into a row of the call's own. -/
import Derived.Test.YtgcgomdhdgjpdaaGreatDoorMRp3
import Derived.Test.YtgcgomdhdgjpdaaGreatDoorMCl4
import Derived.Test.YtgcgomdhdgjpdaaGreatDoorMOb11s
import Derived.Test.YtgcgomdhdgjpdaaGreatDoorMCl6s
import Derived.Test.YtgcgomdhdgjpdaaGreatDoorMEn15
namespace Go.Proofs.YtgcgomdhdgjpdaaGreatDoor
open Go Go.RowKit Go.Maps Go.Shelf
attribute [local go_sem] Oper.semAt_some
theorem blk_abides {X Y : World} {row : Option Nat} {g : Nat} {t : TypeId} {cs : Array Value} (h : Blk X g t cs) (hg : X.grownBy Y row) (hr : ∀ r, row = some r → ∃ o : Obj, X.heap[r]? = some o ∧ o.isCells = false) : Blk Y g t cs :=
 h.grown hg (fun e => by obtain ⟨o, ho, hc⟩ := hr g e.symm; rw [show X.heap[g]? = _ from h] at ho; cases ho; cases hc)
theorem wpListIn_buildSliceK {F : Fence} {m : Nat} {P : Program} {ops : Array Oper} {rest : List Oper} {o : Oper} {a : Act} {Q : Exit → Act → World → Prop} {w : World} (hg : o.guard = none) (t e : TypeId) (len : Nat) (parts : Array (Nat × Operand)) (ho : o.op = .buildSlice t len parts)
  (cells : Array Value) (ie : TypeInfo) (z : Value) (hu : P.underlying t = some (.slice e)) (hie : P.info? e = some ie) (hz : ie.zero = some z) (hsmall : ¬ len * ie.size > 2 ^ 24) (hpos : ¬ len * ie.size = 0)
  (vals : List (Nat × Value)) (hv : (parts.map fun (i, x) => (i, a.eval x)).toList = vals)
  (hf : Instr.fill (fun i => some (i * ie.size, ie.size)) ((Array.range (len * ie.size)).map (z.cells[· % z.cells.size]!)) vals = some cells)
  (h : wpListIn F m P ops Q rest (a.put o.dst (.slice (some ⟨w.heap.size, 0, none⟩) len len)) (w.alloc (.cells cells e))) : wpListIn F m P ops Q (o :: rest) a w := by
 refine wpListIn_plain hg fun K hK => ?_
 unfold Oper.wpIn
 refine ⟨by simp [Oper.about, ho], ?_⟩
 rw [Oper.semAt_plain F _ _ (by rw [ho]; intro c hc; cases hc)]
 unfold execOp
 simp only [ho, Sem.run_bind, run_buildSlice w t e len _ cells ie z hu hie hz hsmall hpos (by rw [hv]; exact hf), Result.andThen_ok]
 exact hK _ _ h
def Colled (S : List IdT → Prop) (n₀ : Nat) (w : World) (e : Ending) (w' : World) : Prop := ∃ v ys, e = .returned v ∧ S ys ∧ w'.ownsRow n₀ 41 32 v ys.length (cellsP (ids ys)) ∧ Below n₀ w w'
set_option maxRecDepth 100000 in
set_option maxHeartbeats 4000000 in
theorem appendSeqO_any (gf : Nat) (lb : Array Value) (S Sp : List IdT → Prop) (N : Nat) (hN : N ≤ 100000) (w : World) (eg : ∀ args w, (callFunc gf args).run Tryz.prog w = .ok (.enter gf args) w)
  (hseq : SeqStopsK Fence.wide 3 Tryz.prog gf lb IdT.enc (KpW w.heap.size) S Sp N w) :
  Calls Tryz.prog 69 #[.slice none 0 0, .func (.func gf) #[] lb] w (Colled S w.heap.size w) := by
 refine (callsIn_wide (n := 4)).1 ?_
 obtain ⟨i0, hi, hz0, hz1, hz2⟩ := info_parts ioid_info
 refine callsIn_of_wp_marks Tryz.func69 rfl trivial ?_ rfl
 simp only [Tryz.ntmps69, List.size_toArray, List.length_cons, List.length_nil, Nat.reduceAdd, Nat.reduceSub, Array.replicate_succ, Array.replicate_zero, List.push_toArray, List.append_toArray, List.nil_append, List.cons_append]
 gi_wp2
 have bO := Boxed.new w 106 (.slice none 0 0)
 have hB0 : Below w.heap.size w (w.alloc (.cells #[.slice none 0 0] 106)) := (Below.refl _ w).alloc (Nat.le_refl _) _
 have hOI : OwnFrom (w.alloc (.cells #[.slice none 0 0] 106)).heap.size (fun (pre : List IdT) W => (∃ v, Boxed W w.heap.size 106 v ∧ W.ownsRow w.heap.size 41 32 v pre.length (cellsP (ids pre)) ∧ True) ∧ Below w.heap.size w W) :=
  OwnFrom.and (Own.from (holdsRow_own w.heap.size w.heap.size 106 41 32 (fun pre : List IdT => pre.length) (fun pre => cellsP (ids pre)) (fun _ _ => True)) _) (ownFrom_below (Nat.le_refl _) (by simp))
 refine wpIn_rangeFunc_ownH rfl (by omega) (gf := gf) (lb := lb) rfl trivial eg hseq (fun h k => kpw_t h k) (kpw_b (by simp)) hB0 (fun _ => rfl)
  (fun (pre : List IdT) W => (∃ v, Boxed W w.heap.size 106 v ∧ W.ownsRow w.heap.size 41 32 v pre.length (cellsP (ids pre)) ∧ True) ∧ Below w.heap.size w W)
  (fun _ _ _ => False) hOI (fun _ _ _ _ _ hs _ _ => hs) ⟨⟨_, bO, World.ownsRow_nil _ _ _ _, trivial⟩, hB0⟩
  (fun x a' W => ∃ Bx, w.heap.size < Bx ∧ Blk W Bx 41 (u8s x.bs) ∧ a' = { tmps := #[.slice none 0 0, .func (.func gf) #[] lb, .pointer (some ⟨w.heap.size, 0, none⟩), undef, .slice none 0 0, .pointer (some ⟨Bx, 0, none⟩), .func (.func gf) #[] lb, .agg (u8s x.bs), undef, undef, undef, undef, undef], defers := [] })
  (fun x a' _ X Y row hs hg hr => by obtain ⟨Bx, h1, h2, h3⟩ := hs; exact ⟨Bx, h1, blk_abides h2 hg (fun r e => (hr r e).2), h3⟩)
  ?assign ?body ?done ?stop
 case assign =>
  intro l pre x W K hI hK
  have hsW := hI.2.size
  have hlt := hI.1.choose_spec.1.lt
  have HID := Lib.hid x.ok
  simp only [IdT.enc]
  gi_wp2_with (with_reducible (show wpListIn _ _ _ _ _ (Oper.mk _ (Op.store 41 _ _) _ _ _ _ :: _) _ _); refine pause ?_)
  unfold Paused
  change wpListIn _ _ _ _ _ _ _ (W.alloc (.cells (u8s (List.replicate 32 0)) 41))
  have hbO : Blk (W.alloc (.cells (u8s (List.replicate 32 0)) 41)) W.heap.size 41 (u8s (List.replicate 32 0)) := Blk.new W _ _
  have b2 : Below W.heap.size W (W.alloc (.cells (u8s (List.replicate 32 0)) 41)) := (Below.refl _ _).alloc (Nat.le_refl _) _
  generalize W.alloc (.cells (u8s (List.replicate 32 0)) 41) = w3 at hbO b2 ⊢
  refine wpListIn_store_row rfl 41 (.tmp 5) (.tmp 7) rfl W.heap.size (u8s x.bs) rfl rfl 41 (u8s (List.replicate 32 0)) hbO (by rw [u8s_size, HID.out.1]; exact cl_oid_load) (by rw [u8s_size, u8s_size, HID.out.1]; rfl) (u8s_one _) ?_
  have HI4 := Lib.hid (hbO.row (u8s x.bs))
  have hb4 : Below W.heap.size W (w3.setRow W.heap.size (u8s x.bs)) := below_row b2 (Nat.le_refl _) _
  clear hbO b2
  generalize w3.setRow W.heap.size (u8s x.bs) = w4 at HI4 hb4 ⊢
  have hg4 : W.grownBy w4 none := only_of_below hb4 none
  have HKF := Lib.hid (hK { tmps := #[.slice none 0 0, .func (.func gf) #[] lb, .pointer (some ⟨w.heap.size, 0, none⟩), undef, .slice none 0 0, .pointer (some ⟨W.heap.size, 0, none⟩), .func (.func gf) #[] lb, .agg (u8s x.bs), undef, undef, undef, undef, undef], defers := [] } w4 (KeepsFrom.of_grownBy hg4 (fun j e => by cases e)) ⟨hb4.mono hsW, KeepsWalks.of_grownBy hg4 (fun j o e => by cases e)⟩ (hOI pre W w4 none hI hg4 (fun r e => by cases e)) ⟨W.heap.size, hlt, HI4.out, rfl⟩)
  clear hK hg4 hb4 HI4 hlt hsW
  simp only [Act.put]
  gi_wp2
  exact HKF.out
 case body =>
  rintro l pre x a' W hl ⟨r, hr⟩ ⟨⟨v, hv, hrow, _⟩, hB⟩ ⟨Bx, hBx, bX, rfl⟩ hlt
  have hc := hv.cell
  have HID := Lib.hid x.ok
  have HBX := Lib.hid bX
  clear bX
  gi_wp2_with (with_reducible (show wpListIn _ _ _ _ _ (Oper.mk _ (Op.load 41 _) _ _ _ _ :: _) _ _); refine pause ?_)
  unfold Paused
  refine wpListIn_row rfl 41 (.tmp 5) rfl Bx rfl 41 (u8s x.bs) _ HBX.out Tryz.underlying41 rfl (by rw [u8s_size, HID.out.1]; exact cl_oid_load) ?_
  gi_wp2_with (with_reducible (show wpListIn _ _ _ _ _ (Oper.mk _ (Op.buildSlice _ _ _) _ _ _ _ :: _) _ _); refine pause ?_)
  unfold Paused
  refine wpListIn_buildSliceK rfl 106 41 1 _ rfl (cellsB x.bs).toArray i0 (.agg (cellsB (List.replicate 32 0)).toArray) Tryz.underlying106 hi hz0 (by rw [hz1]; decide) (by rw [hz1]; decide) _ (by kernel_rfl) (by rw [hz1]; exact fill_one 32 (Value.agg (cellsB (List.replicate 32 0)).toArray).cells _ (cellsP1_len HID.out) (by rfl)) ?_
  gi_wp2_with (gi_at_builtin; refine wpListIn_append_own _ rfl _ _ 106 rfl w.heap.size 41 i0 _ 32 32 Tryz.underlying106 hi hz0 hz1 hz2 (by rfl) (by decide) _ _ _ rfl (hrow.alloc _) ⟨W.heap.size, 0, none⟩ 1 1 (cellsB x.bs) rfl (by rw [cellsP1_len HID.out]) (fun j u hj => by rw [Addr.add_mid, Nat.zero_add, (Blk.new W 41 (cellsB x.bs).toArray).cell j]; simpa using hj) (cellsB_one _) (by unfold maxLen; omega) (by omega) (by have := hB.size; simp; omega) ?_; intro v' w1 hown' hgrow _; obtain ⟨g', cap', rfl⟩ := ownsRow_succ hown'; obtain ⟨hv1, hv2, hr2, hk2, hb2⟩ := hv.appended (by decide) hrow hB.size (Nat.le_refl _) hown' hgrow; have hc1 := hv1.cell; have hf1 := hv1.frozen)
  exact ⟨hk2.from _, ⟨hb2, hk2.walks⟩, ⟨_, hv2, by rw [List.length_append, List.length_singleton, ids_snoc, cellsP_snoc]; exact hr2⟩, hB.trans hb2⟩
 case done =>
  rintro D ys W hD hS ⟨⟨v, hv, hrow, _⟩, hB⟩ hK
  have hc := hv.cell
  gi_wp2
  refine ⟨by simp, .inl ⟨_, _, rfl, run_takeDeferred hK, ?_⟩⟩
  exact ⟨_, results_tmp rfl _ _ _, v, ys, rfl, hS, ownsRow_putObj hrow _ hK rfl, hB.trans (belowK_b (w := w) (Nat.le_refl _) W D _ _ (by simp at hD; omega) hK rfl rfl)⟩
 case stop =>
  rintro D c pre W _ _ h _
  exact h.elim
set_option maxRecDepth 100000 in
set_option maxHeartbeats 4000000 in
theorem collectO_any (gf : Nat) (lb : Array Value) (S Sp : List IdT → Prop) (N : Nat) (hN : N ≤ 100000) (w : World) (eg : ∀ args w, (callFunc gf args).run Tryz.prog w = .ok (.enter gf args) w)
  (hseq : SeqStopsK Fence.wide 3 Tryz.prog gf lb IdT.enc (KpW w.heap.size) S Sp N w) :
  Calls Tryz.prog 52 #[.func (.func gf) #[] lb] w (Colled S w.heap.size w) := by
 have CA := appendSeqO_any gf lb S Sp N hN w eg hseq
 clear hseq eg
 go_enter Tryz.func52, Tryz.ntmps52
 go_wp2_with (go_at_call 69; refine pause ?_)
 unfold Paused
 refine CA.mono ?_
 rintro e w' ⟨v, ys, rfl, h1, h2, h3⟩
 have H := Lib.hid (show Colled S w.heap.size w (.returned v) w' from ⟨v, ys, rfl, h1, h2, h3⟩)
 clear h1 h2 h3 CA
 go_wp2
 go_ret
 exact H.out
set_option maxRecDepth 100000 in
theorem keysO_iter (n : Nat) (f : List Nat → Option Value) (v : Value) (w : World) (hs : SrcO w v n f) :
  Calls Tryz.prog 53 #[v] w fun e w' => e = .returned (.func (.func 70) #[] #[.pointer (some ⟨w.heap.size, 0, none⟩)]) ∧ w.alloc (.cells #[v] 63) = w' := by
 rcases hs with ⟨rfl, _⟩ | ⟨b, rfl, _⟩
 all_goals
  go_enter Tryz.func53, Tryz.ntmps53
  go_wp2
  go_ret
  exact ⟨rfl, rfl⟩
theorem keysO_coll (n : Nat) (hn : n ≤ 100000) (f : List Nat → Option Value) (v : Value) (w : World) (hs : SrcO w v n f) :
  Calls Tryz.prog 52 #[.func (.func 70) #[] #[.pointer (some ⟨w.heap.size, 0, none⟩)]] (w.alloc (.cells #[v] 63)) fun e w' => ∃ r ys, e = .returned r ∧ KeysOf f ys ∧ w'.ownsRow (w.heap.size + 1) 41 32 r ys.length (cellsP (ids ys)) ∧ Below w.heap.size w w' := by
 have b1 : Below w.heap.size w (w.alloc (.cells #[v] 63)) := (Below.refl _ w).alloc (Nat.le_refl _) _
 have hc : (w.alloc (.cells #[v] 63)).cell? ⟨w.heap.size, 0, none⟩ = some v := (Boxed.new w 63 v).cell
 have H := collectO_any 70 #[.pointer (some ⟨w.heap.size, 0, none⟩)] (KeysOf f) (fun _ => True) n hn (w.alloc (.cells #[v] 63)) (enters_of Tryz.func70 (by kernel_rfl) rfl)
  (keysO1_stops 3 (by omega) w.heap.size _ n f v _ (by simp) hc (hs.below b1))
 refine H.mono ?_
 rintro e w' ⟨r, ys, h1, h2, h3, h4⟩
 rw [World.size_alloc] at h3 h4
 exact ⟨r, ys, h1, h2, h3, b1.trans (h4.mono (Nat.le_succ _))⟩
set_option maxRecDepth 100000 in
theorem valsS_iter (n : Nat) (f : ByteArray → Option Value) (v : Value) (w : World) (hs : SrcS w v n f) :
  Calls Tryz.prog 62 #[v] w fun e w' => e = .returned (.func (.func 85) #[] #[.pointer (some ⟨w.heap.size, 0, none⟩)]) ∧ w.alloc (.cells #[v] 62) = w' := by
 rcases hs with ⟨rfl, _⟩ | ⟨b, rfl, _⟩
 all_goals
  go_enter Tryz.func62, Tryz.ntmps62
  go_wp2
  go_ret
  exact ⟨rfl, rfl⟩
theorem valsS_coll (n : Nat) (hn : n ≤ 100000) (f : ByteArray → Option Value) (hf : ∀ i v, f i = some v → ∃ y, Id32 y ∧ v = .agg (u8s y)) (v : Value) (w : World) (hs : SrcS w v n f) :
  Calls Tryz.prog 52 #[.func (.func 85) #[] #[.pointer (some ⟨w.heap.size, 0, none⟩)]] (w.alloc (.cells #[v] 62)) fun e w' => ∃ r ys, e = .returned r ∧ ValsOf n f ys ∧ w'.ownsRow (w.heap.size + 1) 41 32 r ys.length (cellsP (ids ys)) ∧ Below w.heap.size w w' := by
 have b1 : Below w.heap.size w (w.alloc (.cells #[v] 62)) := (Below.refl _ w).alloc (Nat.le_refl _) _
 have hc : (w.alloc (.cells #[v] 62)).cell? ⟨w.heap.size, 0, none⟩ = some v := (Boxed.new w 62 v).cell
 have H := collectO_any 85 #[.pointer (some ⟨w.heap.size, 0, none⟩)] (ValsOf n f) (fun _ => True) n hn (w.alloc (.cells #[v] 62)) (enters_of Tryz.func85 (by kernel_rfl) rfl)
  (valsS1_stops 3 (by omega) w.heap.size _ n f hf v _ (by simp) hc (hs.below b1))
 refine H.mono ?_
 rintro e w' ⟨r, ys, h1, h2, h3, h4⟩
 rw [World.size_alloc] at h3 h4
 exact ⟨r, ys, h1, h2, h3, b1.trans (h4.mono (Nat.le_succ _))⟩
end Go.Proofs.YtgcgomdhdgjpdaaGreatDoor
/- closure's calls: what is reached, missing, wrong, loose. -/
namespace Go.Proofs.YtgcgomdhdgjpdaaGreatDoor
open Go Go.RowKit
structure ClIn (w0 : World) (A : Option Addr) (n c : Nat) (its : List Cl.T) (A2 : Option Addr) (n2 c2 : Nat) (roots : List (List Nat)) (a : Nat → Addr) : Prop where
 txt : ClT w0 (.slice A n c) its
 len : ∀ p ∈ its, p.text.length ≤ 100000
 tab : Tabs w0
 sen : CSents w0 a
 rk : RdK w0 (.slice A2 n2 c2) n2 (cellsP roots)
 rl : n2 = roots.length
 ri : ∀ x ∈ roots, Id32 x
 few : roots.length + 9 * its.length ≤ 1000
section
variable {w0 : World} {A : Option Addr} {n c : Nat} {its : List Cl.T} {A2 : Option Addr} {n2 c2 : Nat} {roots : List (List Nat)} {a : Nat → Addr}
theorem ClIn.byt (h : ClIn w0 A n c its A2 n2 c2 roots a) : ∀ t ∈ its.map (·.text), Sha.Byte t := fun t ht => by
 obtain ⟨p, hp, rfl⟩ := List.mem_map.1 ht
 exact (h.txt.rd p hp).2
theorem ClIn.stock (h : ClIn w0 A n c its A2 n2 c2 roots a) {w : World} (hb : Below w0.heap.size w0 w) : Calls Tryz.prog 81 #[.slice A n c] w (StkPost w its) :=
 stockOf_any A n c its w (h.txt.below hb) (by have := h.few; omega) h.len (h.tab.below hb (Nat.le_refl _))
theorem ClIn.walk (h : ClIn w0 A n c its A2 n2 c2 roots a) {w : World} (hb : Below w0.heap.size w0 w) {ms nms : Nat} (hm : MapO w ms nms (fun id => (Cl.fst its id).map (·.val))) : Calls Tryz.prog 82 #[.map (some ms), .slice A2 n2 c2] w (WalkPost (its.map (·.text)) roots w) := by
 have hp := pool_few (roots := roots) h.byt
 rw [List.length_map] at hp
 have hrk := h.rk.below hb (Nat.le_refl _)
 rw [h.rl] at hrk ⊢
 exact walk_any a A2 c2 roots its ms nms w0 w hb hm h.txt.rd h.sen (by have := h.few; omega) h.ri (by have := h.few; omega) hrk
theorem nds_of {objs roots : List (List Nat)} {w w' : World} {e : Ending} (h : WalkPost objs roots w e w') : ∃ ma ns, e = .returned (.map (some ma)) ∧ Nds objs roots w' ma ns ∧ Below w.heap.size w w' := by
 obtain ⟨ma, ns, h1, h2, h3, h4, h5, h6, _, h7⟩ := h
 exact ⟨ma, ns, h1, ⟨h2, h3, h4, h5, h6⟩, h7⟩
theorem eg_mis (args : Array Value) (w : World) : (callFunc 113 args).run Tryz.prog w = .ok (.enter 113 args) w := by kernel_rfl
theorem eg_wrg (args : Array Value) (w : World) : (callFunc 114 args).run Tryz.prog w = .ok (.enter 114 args) w := by kernel_rfl
theorem nd_shape {objs roots : List (List Nat)} {w : World} {ma : Nat} {ns : List Cl.Nd} (h : Nds objs roots w ma ns) : ∀ x v, (Cl.at_ ns x).map (Cl.ndV objs) = some v → ∃ tb kb A n c, v = .agg (ndC tb kb (.slice A n c)) := fun x v hv => by
 obtain ⟨A, c, he, _⟩ := h.val hv
 exact ⟨_, _, _, _, _, he⟩
theorem pick_mis {objs roots : List (List Nat)} {w : World} {ma : Nat} {ns : List Cl.Nd} (h : Nds objs roots w ma ns) : Calls Tryz.prog 112 #[.map (some ma), .func (.func 113) #[] #[]] w (SetPost (fun x => Cl.Rch objs roots x ∧ Cl.the objs x = false) w) :=
 (pickN_any 113 #[] (fun x => !Cl.the objs x) ma ns.length _ w h.mp (nd_shape h) h.few eg_mis (fun x v w' hx hv hb => by
  obtain ⟨A, c, rfl, _, _⟩ := h.val hv
  exact mis1_any x _ _ A _ c w')).mono fun e w' hp => SetPost.of hp (fun x hx => by rw [h.isSome x]; simp) (Below.refl _ _)
theorem missing_m {objs roots : List (List Nat)} {w : World} {ma : Nat} {ns : List Cl.Nd} (h : Nds objs roots w ma ns) : Calls Tryz.prog 83 #[.map (some ma)] w (SetPost (fun x => Cl.Rch objs roots x ∧ Cl.the objs x = false) w) := by
 have CP := pick_mis h
 unfold SetPost at CP
 clear h
 go_enter Tryz.func83, Tryz.ntmps83
 go_wp2_with (go_at_call 112; refine pause ?_)
 unfold Paused
 refine CP.mono ?_
 rintro e w' ⟨v, r, rfl, h2⟩
 have HF := Lib.hid h2
 clear h2 CP
 go_wp2
 go_ret
 exact ⟨v, r, rfl, HF.out⟩
theorem wrong_m {objs roots : List (List Nat)} {w : World} {ma : Nat} {ns : List Cl.Nd} (h : Nds objs roots w ma ns) (hb : ∀ t ∈ objs, Sha.Byte t) : Calls Tryz.prog 84 #[.map (some ma)] w (SetPost (fun x => Cl.Rch objs roots x ∧ Cl.wrg objs x = true) w) := by
 have b1 : Below w.heap.size w (w.alloc (.cells #[.map (some ma)] 159)) := (Below.refl _ _).alloc (Nat.le_refl _) _
 have hR : Blk (w.alloc (.cells #[.map (some ma)] 159)) w.heap.size 159 #[.map (some ma)] := Blk.new w _ _
 have h1 := h.below b1
 have CP : Calls Tryz.prog 112 #[.map (some ma), .func (.func 114) #[] #[.pointer (some ⟨w.heap.size, 0, none⟩)]] (w.alloc (.cells #[.map (some ma)] 159)) (SetPost (fun x => Cl.Rch objs roots x ∧ Cl.wrg objs x = true) w) :=
  (pickN_any 114 #[.pointer (some ⟨w.heap.size, 0, none⟩)] (Cl.wrg objs) ma ns.length _ _ h1.mp (nd_shape h1) h1.few eg_wrg (fun x v w' hx hv hb' => by
   exact wrg1_any (h1.below hb') (hR.below hb' hR.lt) x v hx hv (fun y hy => links_id32 hb hy))).mono fun e w' hp => SetPost.of hp (fun x hx => by rw [h1.isSome x]) b1
 unfold SetPost at CP
 have p0 : (w.alloc (.cells #[.map (some ma)] 159)).cell? ⟨w.heap.size, 0, none⟩ = some (.map (some ma)) := hR.cell 0
 clear h h1 hR b1 hb
 go_enter Tryz.func84, Tryz.ntmps84
 go_wp2_with (go_at_call 112; refine pause ?_)
 unfold Paused
 refine CP.mono ?_
 rintro e w' ⟨v, r, rfl, h2⟩
 have HF := Lib.hid h2
 clear h2 CP
 go_wp2
 go_ret
 exact ⟨v, r, rfl, HF.out⟩
end
end Go.Proofs.YtgcgomdhdgjpdaaGreatDoor
/- closure's Whole; the law's example. -/
namespace Go.Proofs.YtgcgomdhdgjpdaaGreatDoor
open Go Go.RowKit
def WholePost (objs roots : List (List Nat)) (w : World) (e : Ending) (w' : World) : Prop :=
 ∃ β, e = .returned (.bool β) ∧ (β = true ↔ ∀ x, Id32 x → Cl.Rch objs roots x → Cl.the objs x = true ∧ Cl.wrg objs x = false) ∧ Below w.heap.size w w'
theorem len_rdo {w : World} {v : Value} {r : List (List Nat)} (h : RdO w v r) : ∃ A c, v = .slice A r.length c := by
 obtain ⟨A, c, hv, _⟩ := h
 exact ⟨A, c, hv⟩
section
variable {w0 : World} {A : Option Addr} {n c : Nat} {its : List Cl.T} {A2 : Option Addr} {n2 c2 : Nat} {roots : List (List Nat)} {a : Nat → Addr}
set_option maxRecDepth 100000 in
theorem whole_any (h : ClIn w0 A n c its A2 n2 c2 roots a) (w : World) (hb : Below w0.heap.size w0 w) : Calls Tryz.prog 61 #[.slice A n c, .slice A2 n2 c2] w (WholePost (its.map (·.text)) roots w) := by
 have CS := h.stock hb
 unfold StkPost at CS
 have HW := Lib.hid (fun (w : World) (hb : Below w0.heap.size w0 w) (ms nms : Nat) (hm : MapO w ms nms (fun id => (Cl.fst its id).map (·.val))) => h.walk hb hm)
 have HB := Lib.hid hb
 have HBY := Lib.hid h.byt
 clear h hb
 go_enter Tryz.func61, Tryz.ntmps61
 go_wp2_with (go_at_call 81; refine pause ?_)
 unfold Paused
 refine CS.mono ?_
 rintro e w1 ⟨m, nm, rfl, hm, _, _, hb1⟩
 have HM := Lib.hid hm
 have H1 := Lib.hid hb1
 clear hm hb1 CS
 go_wp2_with (go_at_call 82; refine pause ?_)
 unfold Paused
 refine (HW.out w1 (below_next HB.out H1.out) m nm HM.out).mono ?_
 intro e w2 hwp
 obtain ⟨ma, ns, rfl, hnd, hb2⟩ := nds_of hwp
 have HND := Lib.hid hnd
 have H2 := Lib.hid (below_next H1.out hb2)
 have CM := missing_m hnd
 unfold SetPost at CM
 clear hwp hnd hb2 HW HM
 go_wp2_with (go_at_call 83; refine pause ?_)
 unfold Paused
 refine CM.mono ?_
 rintro e w3 ⟨v, r, rfl, h2, h3, h4, h5, h6⟩
 obtain ⟨Av, cv, rfl⟩ := len_rdo h2
 have H3 := Lib.hid (below_next H2.out h6)
 have HR5 := Lib.hid h5
 have HR3 := Lib.hid h3
 have HN3 := Lib.hid (HND.out.below h6)
 clear h2 h3 h4 h5 h6 CM
 obtain ⟨nr, hnr⟩ : ∃ n, n = r.length := ⟨_, rfl⟩
 rw [← hnr]
 by_cases hr : nr = 0
 ·have hnil : r = [] := List.eq_nil_of_length_eq_zero (by omega)
  have HNIL := Lib.hid hnil
  have CW := wrong_m HN3.out HBY.out
  unfold SetPost at CW
  clear hnil hnr
  subst hr
  go_wp2_with (go_at_call 84; refine pause ?_)
  unfold Paused
  refine CW.mono ?_
  rintro e w4 ⟨v, r4, rfl, h2, h3, h4, h5, h6⟩
  obtain ⟨Av4, cv4, rfl⟩ := len_rdo h2
  have H4 := Lib.hid (below_next H3.out h6)
  have HR4 := Lib.hid h5
  have HI4 := Lib.hid h3
  clear h2 h3 h4 h5 h6 CW
  obtain ⟨n4, hn4⟩ : ∃ n, n = r4.length := ⟨_, rfl⟩
  rw [← hn4]
  by_cases hr4 : n4 = 0
  ·have hnil4 : r4 = [] := List.eq_nil_of_length_eq_zero (by omega)
   have HF : Hid (WholePost (its.map (·.text)) roots w (.returned (.bool true)) w4) := Lib.hid ⟨true, rfl, ⟨fun _ x hx hrx => ⟨(by
    cases ht : Cl.the (its.map (·.text)) x with
    | true => rfl
    | false =>
     have h1 := (HR5.out x hx).2 ⟨hrx, ht⟩
     rw [HNIL.out] at h1
     cases h1), (by
    cases ht : Cl.wrg (its.map (·.text)) x with
    | false => rfl
    | true =>
     have h1 := (HR4.out x hx).2 ⟨hrx, ht⟩
     rw [hnil4] at h1
     cases h1)⟩, fun _ => rfl⟩, H4.out⟩
   clear hnil4 hn4
   subst hr4
   go_wp2
   go_ret
   exact HF.out
  ·have HF : Hid (WholePost (its.map (·.text)) roots w (.returned (.bool false)) w4) := Lib.hid ⟨false, rfl, ⟨fun h => (by cases h), fun h => by
    obtain ⟨x, hx⟩ := List.exists_mem_of_length_pos (l := r4) (by omega)
    have h1 := (HR4.out x (HI4.out x hx)).1 hx
    have h2 := (h x (HI4.out x hx) h1.1).2
    rw [h1.2] at h2
    cases h2⟩, H4.out⟩
   have g4 : ((n4 : Int) == 0) = false := by simp; omega
   clear hn4 hr4
   go_wp2
   go_ret
   exact HF.out
 ·have HF : Hid (WholePost (its.map (·.text)) roots w (.returned (.bool false)) w3) := Lib.hid ⟨false, rfl, ⟨fun h => (by cases h), fun h => by
   obtain ⟨x, hx⟩ := List.exists_mem_of_length_pos (l := r) (by omega)
   have h1 := (HR5.out x (HR3.out x hx)).1 hx
   have h2 := (h x (HR3.out x hx) h1.1).1
   rw [h1.2] at h2
   cases h2⟩, H3.out⟩
  have g4 : ((nr : Int) == 0) = false := by simp; omega
  clear hnr hr
  go_wp2
  go_ret
  exact HF.out
end
end Go.Proofs.YtgcgomdhdgjpdaaGreatDoor
/- An entry's bytes, and is it right: entry.Bytes, entry.Right. -/
namespace Go.Proofs.YtgcgomdhdgjpdaaGreatDoor
open Go Go.RowKit
def EBytesPost (e : En.E) (a : Nat → Addr) (w : World) (r : Ending) (w' : World) : Prop :=
 Below w.heap.size w w' ∧ (∀ n, En.bytes e = .bad n → r = .returned (.tuple #[.slice none 0 0, ev (a (n - 1))])) ∧ (∀ b, En.bytes e = .ok b → ∃ v, r = .returned (.tuple #[v, .nilIface]) ∧ Pad w.heap.size w v b w')
theorem En.bytes_form {e : En.E} (h : En.formed e = false) : En.bytes e = .bad 4 := by unfold En.bytes; rw [if_neg (by rw [h]; decide)]
theorem En.bytes_large {e : En.E} (h : En.formed e = true) (h2 : 2800 < (En.laid e).length) : En.bytes e = .bad 13 := by unfold En.bytes; rw [if_pos h, if_neg (by omega)]
theorem En.bytes_ok {e : En.E} (h : En.formed e = true) (h2 : (En.laid e).length ≤ 2800) : En.bytes e = .ok (En.laid e) := by unfold En.bytes; rw [if_pos h, if_pos h2]
theorem En.right_iff {e : En.E} : En.right e = true ↔ ∃ b, En.bytes e = .ok b := by
 unfold En.right
 rw [Bool.and_eq_true, decide_eq_true_iff]
 constructor
 ·rintro ⟨h1, h2⟩
  exact ⟨_, En.bytes_ok h1 h2⟩
 ·rintro ⟨b, hb⟩
  cases h : En.formed e with
  | false => rw [En.bytes_form h] at hb; cases hb
  | true =>
   refine ⟨rfl, ?_⟩
   by_cases h2 : (En.laid e).length ≤ 2800
   ·exact h2
   ·rw [En.bytes_large h (by omega)] at hb; cases hb
set_option maxRecDepth 100000 in
set_option maxHeartbeats 2000000 in
theorem ebytes_any (e : En.E) (ca : Array Value) (U O : Option Addr) (cu co : Nat) (ts : List En.Bt) (a : Nat → Addr) (w : World) (h : EnC w e ca U cu O co ts) (hS : ESents w a) (hm : MaxAt w) (hn : e.ups.length ≤ 1000) :
  Calls Tryz.prog 37 #[.agg ca] w (EBytesPost e a w) := by
 obtain ⟨w1, hw1⟩ : ∃ w1, w1 = w.alloc (.cells ca 32) := ⟨_, rfl⟩
 have hb : EnB w w1 e ca U cu O co ts := hw1 ▸ EnB.of h
 have HB := Lib.hid hb
 have HS := Lib.hid hS
 have H0 := Lib.hid h
 have CF := formed_any e ca U O cu co ts a w1 hb.ent (hS.at_ hb.bel) (hm.below hb.bel (Nat.le_refl _)) hn
 have e1 := hw1.symm
 clear h hb hw1 hS hm hn
 go_enter Tryz.func37, Tryz.ntmps37
 go_wp2_with (with_reducible (show wpList _ _ _ (Oper.mk _ (Op.load 32 _) _ _ _ _ :: _) _ _); refine pause ?_)
 unfold Paused
 refine wpList_row_w (by rfl) 32 (.tmp 1) (by rfl) w.heap.size (by rfl) 32 ca _ HB.out.box (by first | exact Tryz.underlying32 | kernel_rfl) (by rfl) (ent_load H0.out.size) ?_
 go_wp2_with (go_at_call 58; refine pause ?_)
 unfold Paused
 refine CF.mono ?_
 rintro r w2 ⟨rfl, hb2⟩
 have HB2 := Lib.hid (HB.out.below hb2)
 clear hb2 CF
 obtain ⟨fm, hfm⟩ : ∃ fm, fm = En.formed e := ⟨_, rfl⟩
 rw [← hfm]
 have HFM := Lib.hid hfm.symm
 clear hfm
 cases fm
 ·have pE := ((HS.out.at_ HB2.out.bel).p.2.1)
  have HP : Hid (∀ m, EBytesPost e a w (.returned (.tuple #[.slice none 0 0, ev (a 3)])) (w2.drewN m)) := Lib.hid (fun m => ⟨below_drewN HB2.out.bel m, fun n hn => (by rw [En.bytes_form HFM.out] at hn; injection hn with hn; subst hn; rfl), fun b hb => (by rw [En.bytes_form HFM.out] at hb; cases hb)⟩)
  clear e1
  go_wp2_with fail
  go_quiet (fail)
  go_wp2
  go_ret2
  exact HP.out _
 have CW := written_any e ca U O cu co ts a w2 HB2.out.ent (En.formed_frm HFM.out) (HS.out.at_ HB2.out.bel)
 go_wp2_with (with_reducible (show wpList _ _ _ (Oper.mk _ (Op.load 32 _) _ _ _ _ :: _) _ _); refine pause ?_)
 unfold Paused
 refine wpList_row_w (by rfl) 32 (.tmp 1) (by rfl) w.heap.size (by rfl) 32 ca _ HB2.out.box (by first | exact Tryz.underlying32 | kernel_rfl) (by rfl) (ent_load H0.out.size) ?_
 go_wp2_with (go_at_call 59; refine pause ?_)
 unfold Paused
 refine CW.mono ?_
 rintro r w3 ⟨v, rfl, hp⟩
 obtain ⟨Av, cv, hvv⟩ := own_slice hp.own
 subst hvv
 have HP := Lib.hid hp
 have HB3 := Lib.hid (below_next HB2.out.bel hp.bel)
 clear hp CW
 by_cases hl : (En.laid e).length ≤ 2800
 ·have HPP : Hid (EBytesPost e a w (.returned (.tuple #[.slice Av (En.laid e).length cv, .nilIface])) w3) := Lib.hid ⟨HB3.out, fun n hn => (by rw [En.bytes_ok HFM.out hl] at hn; cases hn), fun b hb => (by rw [En.bytes_ok HFM.out hl] at hb; injection hb with hb; subst hb; exact ⟨_, rfl, pad_low HP.out HB2.out.bel⟩)⟩
  have i1 : ¬ (2800 : Int) < ((En.laid e).length : Int) := by omega
  clear e1 hl
  generalize (En.laid e).length = nl at i1 HPP ⊢
  go_wp2
  go_ret2
  exact HPP.out
 ·have pE := ((HS.out.at_ HB3.out).g)
  have HPP : Hid (∀ m, EBytesPost e a w (.returned (.tuple #[.slice none 0 0, ev (a 12)])) (w3.drewN m)) := Lib.hid (fun m => ⟨below_drewN HB3.out m, fun n hn => (by rw [En.bytes_large HFM.out (by omega)] at hn; injection hn with hn; subst hn; rfl), fun b hb => (by rw [En.bytes_large HFM.out (by omega)] at hb; cases hb)⟩)
  have i1 : (2800 : Int) < ((En.laid e).length : Int) := by omega
  clear e1 hl
  generalize (En.laid e).length = nl at i1 HPP ⊢
  go_wp2_with fail
  go_quiet (fail)
  go_wp2
  go_ret2
  exact HPP.out _
set_option maxRecDepth 100000 in
set_option maxHeartbeats 2000000 in
theorem eright_any (e : En.E) (ca : Array Value) (U O : Option Addr) (cu co : Nat) (ts : List En.Bt) (a : Nat → Addr) (w : World) (h : EnC w e ca U cu O co ts) (hS : ESents w a) (hm : MaxAt w) (hn : e.ups.length ≤ 1000) :
  Calls Tryz.prog 22 #[.agg ca] w fun r w' => r = .returned (.bool (En.right e)) ∧ Below w.heap.size w w' := by
 obtain ⟨w1, hw1⟩ : ∃ w1, w1 = w.alloc (.cells ca 32) := ⟨_, rfl⟩
 have hb : EnB w w1 e ca U cu O co ts := hw1 ▸ EnB.of h
 have HB := Lib.hid hb
 have H0 := Lib.hid h
 have CF := ebytes_any e ca U O cu co ts a w1 hb.ent (hS.at_ hb.bel) (hm.below hb.bel (Nat.le_refl _)) hn
 have e1 := hw1.symm
 clear h hb hw1 hS hm hn
 go_enter Tryz.func22, Tryz.ntmps22
 go_wp2_with (with_reducible (show wpList _ _ _ (Oper.mk _ (Op.load 32 _) _ _ _ _ :: _) _ _); refine pause ?_)
 unfold Paused
 refine wpList_row_w (by rfl) 32 (.tmp 1) (by rfl) w.heap.size (by rfl) 32 ca _ HB.out.box (by first | exact Tryz.underlying32 | kernel_rfl) (by rfl) (ent_load H0.out.size) ?_
 go_wp2_with (go_at_call 37; refine pause ?_)
 unfold Paused
 refine CF.mono ?_
 rintro r w2 ⟨hb2, hbad, hok⟩
 have HB2 := Lib.hid (below_next HB.out.bel hb2)
 clear hb2 CF
 cases hr : En.bytes e with
 | bad n =>
  obtain rfl := hbad n hr
  have HR : Hid (En.right e = false) := Lib.hid (by
   rw [← Bool.not_eq_true, En.right_iff, hr]
   rintro ⟨b, hb⟩
   cases hb)
  clear hbad hok hr
  go_wp2
  go_ret
  exact ⟨by rw [HR.out]; rfl, HB2.out⟩
 | ok b =>
  obtain ⟨v, rfl, _⟩ := hok b hr
  have HR : Hid (En.right e = true) := Lib.hid (En.right_iff.2 ⟨b, hr⟩)
  clear hbad hok hr
  go_wp2
  go_ret
  exact ⟨by rw [HR.out]; rfl, HB2.out⟩
end Go.Proofs.YtgcgomdhdgjpdaaGreatDoor
