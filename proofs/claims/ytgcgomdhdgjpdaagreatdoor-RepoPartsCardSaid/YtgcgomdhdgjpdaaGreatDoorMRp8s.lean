/- A repository without entries. -/
import Derived.Test.YtgcgomdhdgjpdaaGreatDoorMRp2s
import Derived.Test.YtgcgomdhdgjpdaaGreatDoorMEn20s
import Derived.Test.YtgcgomdhdgjpdaaGreatDoorMEn19s
namespace Go.Proofs.YtgcgomdhdgjpdaaGreatDoor
open Go Go.RowKit Go.Maps
theorem new_built (w : World) : (Instr.build 67 #[]).run Tryz.prog w = .ok (.agg (rpC (.slice none 0 0) (List.replicate 8 0) (.map none) (.map none)).toArray) w := by kernel_rfl
set_option maxRecDepth 100000 in
set_option maxHeartbeats 2000000 in
theorem new_any (w : World) :
  Calls Tryz.prog 7 #[] w fun e w' => e = .returned (.pointer (some ⟨w.heap.size, 0, none⟩)) ∧ RpM w' w.heap.size (.slice none 0 0) (List.replicate 8 0) (.map none) (.map none) ∧ Below w.heap.size w w' := by
 have HB : Hid (RpM (w.alloc (.cells (rpC (.slice none 0 0) (List.replicate 8 0) (.map none) (.map none)).toArray 67)) w.heap.size (.slice none 0 0) (List.replicate 8 0) (.map none) (.map none)) := Lib.hid ⟨Blk.new w _ _, rfl⟩
 have hB : Below w.heap.size w (w.alloc (.cells (rpC (.slice none 0 0) (List.replicate 8 0) (.map none) (.map none)).toArray 67)) := (Below.refl _ w).alloc (Nat.le_refl _) _
 have HBW := Lib.hid hB
 clear hB
 have q1 := new_built w
 go_enter Tryz.func7, Tryz.ntmps7
 go_wp2
 go_ret
 exact ⟨rfl, HB.out, HBW.out⟩
theorem MapS.is {w : World} {b n : Nat} {f : ByteArray → Option Value} (h : MapS w b n f) : ∃ es clock, w.heap[b]? = some (.map es clock) := by
 obtain ⟨D, ⟨es, clock, h1, _⟩, _⟩ := h
 exact ⟨es, clock, h1⟩
theorem NoK.map {w : World} {P : Nat → Prop} (h : NoK w P) {b : Nat} {es : Array MapEntry} {clock : Nat} (hb : w.heap[b]? = some (.map es clock)) : ¬ P b := fun hp => by
 obtain ⟨cs, T, z, h1, _⟩ := h b hp (Array.getElem?_eq_some_iff.1 hb).1
 rw [hb] at h1
 cases h1
section
variable {P : Nat → Prop} {w w' : World}
theorem SrcS.kept {v : Value} {n : Nat} {f : ByteArray → Option Value} (h : SrcS w v n f) (k : KeptP P w w') (hn : NoK w P) : SrcS w' v n f := by
 rcases h with h | ⟨b, hv, h⟩
 ·exact Or.inl h
 ·obtain ⟨es, clock, hb⟩ := h.is
  exact Or.inr ⟨b, hv, h.block (k.block b h.lt (hn.map hb))⟩
theorem SrcO.kept {v : Value} {n : Nat} {f : List Nat → Option Value} (h : SrcO w v n f) (k : KeptP P w w') (hn : NoK w P) : SrcO w' v n f := by
 rcases h with h | ⟨b, hv, h⟩
 ·exact Or.inl h
 ·obtain ⟨es, clock, hb⟩ := h.is
  exact Or.inr ⟨b, hv, h.block (k.block b h.lt (hn.map hb))⟩
theorem ownsRow_kept {B : Nat} {e : TypeId} {z : Nat} {v : Value} {n : Nat} {xs : List Value} (h : w.ownsRow B e z v n xs) (k : KeptP P w w') (hp : ∀ g, v.ownBlock = some g → ¬ P g) : w'.ownsRow B e z v n xs := by
 refine ⟨h.1, ?_⟩
 rcases h.2 with hn | ⟨g, cap, cur, rfl, hb, hgg, rest⟩
 ·exact .inl hn
 ·exact .inr ⟨g, cap, cur, rfl, hb, (k.block g (Array.getElem?_eq_some_iff.1 hgg).1 (hp g rfl)).trans hgg, rest⟩
end
structure RpX (w : World) (r : Nat) (A : Option Addr) (c : Nat) (rf ob : Value) (N M : Nat) (js : List Jt) (O : List Nat → Option Cl.T) (s : Rp.St) : Prop where
 rp : RpM w r (.slice A js.length c) (Rp.lastsOf s.js) rf ob
 own : w.ownsRow (r + 1) 32 5 (.slice A js.length c) js.length (cellsJ js)
 es : js.map (·.e) = s.js
 ent : ∀ j ∈ js, EnK w j
 refs : SrcS w rf N (fun i => (s.refs i).map idV)
 objs : SrcO w ob M (fun x => (O x).map (·.val))
 txt : ∀ x p, O x = some p → TxK w p.val p.text
 oeq : ∀ x, (O x).map (·.text) = s.objs x
 good : Rp.Good s
 lim : N ≤ 8 * js.length ∧ M ≤ 64 * js.length
def jB (A : Option Addr) (n c : Nat) : Option Nat := (Value.slice A n c).ownBlock
theorem RpX.len {w : World} {r : Nat} {A : Option Addr} {c : Nat} {rf ob : Value} {N M : Nat} {js : List Jt} {O : List Nat → Option Cl.T} {s : Rp.St} (h : RpX w r A c rf ob N M js O s) : js.length = s.js.length := by rw [← h.es, List.length_map]
section
variable {w w' : World} {r : Nat} {A : Option Addr} {c : Nat} {rf ob : Value} {N M : Nat} {js : List Jt} {O : List Nat → Option Cl.T} {s : Rp.St}
theorem RpX.kept {P : Nat → Prop} (h : RpX w r A c rf ob N M js O s) (k : KeptP P w w') (hn : NoK w P) (hr : ¬ P r) (hg : ∀ g, jB A js.length c = some g → ¬ P g) : RpX w' r A c rf ob N M js O s :=
 ⟨⟨k.blk h.rp.blk hr, h.rp.len⟩, ownsRow_kept h.own k hg, h.es, fun j hj => (h.ent j hj).kept k hn, h.refs.kept k hn, h.objs.kept k hn, fun x p hp => (h.txt x p hp).kept k hn, h.oeq, h.good, h.lim⟩
theorem RpX.below (h : RpX w r A c rf ob N M js O s) (hb : Below w.heap.size w w') : RpX w' r A c rf ob N M js O s :=
 h.kept (KeptP.of_below hb) (fun _ h => h.elim) (fun h => h) (fun _ _ h => h)
def tnP (r : Nat) (A : Option Addr) (n c : Nat) : Nat → Prop := fun k => k = r ∨ some k = jB A n c
theorem RpX.nok (h : RpX w r A c rf ob N M js O s) : NoK w (tnP r A js.length c) := fun g hg hl => by
 rcases hg with rfl | hg
 ·exact ⟨_, _, _, h.rp.blk, Or.inr rfl⟩
 ·rcases h.own.2 with ⟨h1, _⟩ | ⟨g', cap, cur, h1, _, h2, _⟩
  ·unfold jB at hg
   rw [h1] at hg
   cases hg
  ·unfold jB at hg
   rw [h1] at hg
   injection hg with hg
   subst hg
   exact ⟨_, _, _, h2, Or.inl rfl⟩
theorem RpX.rt (h : RpX w r A c rf ob N M js O s) : JrT w A js.length js := by
 refine ⟨rfl, fun h0 => ?_, fun j hj => (h.ent j hj).ent, fun j hj => ?_⟩
 ·rcases h.own.2 with ⟨_, h1⟩ | ⟨g, cap, cur, h1, _, h2, _, _, _, ht⟩
  ·omega
  ·injection h1 with h1 _ _
   refine ⟨g, 0, h1, (Array.getElem?_eq_some_iff.1 h2).1, fun k j hj i v hi => ?_⟩
   have hi5 : i < 5 := by have := (List.getElem?_eq_some_iff.1 hi).1; rw [Array.length_toList, (h.ent j (List.mem_of_getElem? hj)).ent.five] at this; exact this
   have hc := cellsJ_at (fun j hj => (h.ent j hj).ent.five) hj hi5
   rw [hi] at hc
   have := h.own.cells (g := g) (by rw [h1]; rfl) (k * 5 + i) v hc
   rw [Addr.add_mid] at this
   rw [← this]
   congr 2
   omega
 ·have h1 : j.e ∈ s.js := by rw [← h.es]; exact List.mem_map.2 ⟨j, hj, rfl⟩
  have := Rp.right_ups (h.good.js _ h1).1
  omega
theorem RpX.nil_none (h : RpX w r A c rf ob N M js O s) : A = none → js.length = 0 := fun e => by
 rcases h.own.2 with ⟨_, h1⟩ | ⟨g, cap, cur, h1, _⟩
 ·exact h1
 ·rw [e] at h1
  injection h1 with h1
  cases h1
theorem RpX.oT (h : RpX w r A c rf ob N M js O s) : ∀ x p, O x = some p → ∃ A n c, p.val = .slice A n c := fun x p hp => by
 obtain ⟨A, c, hv, _⟩ := (h.txt x p hp).rd
 exact ⟨A, _, c, hv⟩
theorem RpX.one (h : RpX w r A c rf ob N M js O s) : rf.oneCell' = true ∧ ob.oneCell' = true := by
 refine ⟨?_, ?_⟩
 ·rcases h.refs with ⟨rfl, _⟩ | ⟨b, rfl, _⟩ <;> rfl
 ·rcases h.objs with ⟨rfl, _⟩ | ⟨b, rfl, _⟩ <;> rfl
end
theorem RpX.fresh {w : World} {r : Nat} (h : RpM w r (.slice none 0 0) (List.replicate 8 0) (.map none) (.map none)) : RpX w r none 0 (.map none) (.map none) 0 0 [] (fun _ => none) Rp.empty :=
 ⟨h, World.ownsRow_nil _ _ _ _, rfl, fun _ h => (by cases h), Or.inl ⟨rfl, fun _ => rfl⟩, Or.inl ⟨rfl, fun _ => rfl⟩, fun _ _ h => (by cases h), fun _ => rfl, Rp.good_empty, by simp⟩
end Go.Proofs.YtgcgomdhdgjpdaaGreatDoor
/- Is what all refs hang on there: state.whole. -/
namespace Go.Proofs.YtgcgomdhdgjpdaaGreatDoor
open Go Go.RowKit Go.Maps
theorem idv_inj {x y : List Nat} (h : Value.agg (u8s x) = .agg (u8s y)) : x = y := by
 injection h with h
 have h1 := congrArg Array.toList h
 simp only [u8s, List.toList_toArray] at h1
 exact (List.map_inj_right (fun a b e => by injection e with _ e; exact Int.ofNat.inj e)).1 h1
theorem roots_of {f : ByteArray → Option (List Nat)} {N : Nat} {ys : List IdT} (h : ValsOf N (fun i => (f i).map idV) ys) : Rp.Roots f (ids ys) := fun y => by
 constructor
 ·intro hy
  obtain ⟨i, hi, he⟩ := h.2.1 y hy
  cases hf : f i with
  | none => simp only [hf] at he; cases he
  | some z =>
   simp only [hf] at he
   injection he with he
   exact ⟨i, hi, by rw [hf, idv_inj he]⟩
 ·rintro ⟨i, hi, he⟩
  obtain ⟨z, hz, hv⟩ := h.2.2 i (.agg (u8s y)) hi (by simp only [he]; rfl)
  rwa [idv_inj hv]
theorem clt_own {w : World} {B : Nat} {v : Value} {its : List Cl.T} (h : w.ownsRow B 46 1 v its.length (its.map (·.val))) (hr : ∀ p ∈ its, Rd w p.val p.text ∧ Sha.Byte p.text) : ClT w v its := by
 refine ⟨?_, hr⟩
 obtain ⟨A, c, hv, hc, hA⟩ := rdk_own h
 refine ⟨A, c, by rw [List.length_map]; exact hv, by rw [List.length_map]; exact hc, fun h0 => ?_⟩
 rw [List.length_map] at h0
 obtain ⟨b, o, ha, hl, hx⟩ := hA h0
 exact ⟨b, o, ha, hl, hx⟩
theorem keys_cnt {ks : List (List Nat)} {O : List Nat → Option Cl.T} (h : Rp.Keys ks (fun x => (O x).map (·.text))) : Cnt Id32 O ks.length :=
 ⟨ks, Cl.rising_nodup h.up, h.id, fun x hx => by
  rw [h.mem x hx]
  show ((O x).map (·.text)).isSome = true ↔ _
  cases O x <;> simp, rfl⟩
set_option maxRecDepth 100000 in
set_option maxHeartbeats 4000000 in
theorem rwhole_any (rf ob : Value) (N M c : Nat) (f : ByteArray → Option (List Nat)) (O : List Nat → Option Cl.T) (a : Nat → Addr) (w : World) (hs : SrcS w rf N (fun i => (f i).map idV)) (ho : SrcO w ob M (fun x => (O x).map (·.val)))
  (hf : ∀ i x, f i = some x → Id32 x) (hO : ∀ x p, O x = some p → Rd w p.val p.text ∧ Sha.Byte p.text ∧ p.text.length ≤ 300) (hc : Cnt Id32 O c) (hfew : N + 9 * c ≤ 1000) (hM : M ≤ 50000) (ht : Tabs w) (hS : CSents w a) :
  Calls Tryz.prog 44 #[.agg #[rf, ob]] w fun e w' => e = .returned (.bool (Rp.isWhole f (fun x => (O x).map (·.text)))) ∧ Below w.heap.size w w' := by
 obtain ⟨w1, hw1⟩ : ∃ w1, w1 = w.alloc (.cells #[rf, ob] 65) := ⟨_, rfl⟩
 have hb1 : Below w.heap.size w w1 := by rw [hw1]; exact (Below.refl _ _).alloc (Nat.le_refl _) _
 have hbx : Blk w1 w.heap.size 65 #[rf, ob] := by rw [hw1]; exact Blk.new w _ _
 have hbd : Below w.heap.size w w1.drew := below_drewN hb1 1
 have CT := texts_any rf ob M O w1.drew (ho.below hbd) (fun x p hp => by obtain ⟨⟨A, c, h, _⟩, _⟩ := hO x p hp; exact ⟨A, _, c, h⟩) hM
 have HBD := Lib.hid hbd
 have HSX : Hid (Blk w1.drew w.heap.size 65 #[rf, ob]) := Lib.hid hbx
 have HSS := Lib.hid hs
 have HSO := Lib.hid ho
 have HF := Lib.hid hf
 have HO := Lib.hid hO
 have HC := Lib.hid hc
 have HFW := Lib.hid hfew
 have HM := Lib.hid hM
 have HT := Lib.hid ht
 have HS := Lib.hid hS
 have hw1' := hw1.symm
 clear hs ho hf hO hc hfew hM ht hS hbx hb1 hbd hw1
 go_enter Tryz.func44, Tryz.ntmps44
 go_wp2_with fail
 refine wp_region_upto (S := fun w' => Blk w' w.heap.size 65 #[rf, ob]) (b := 7) (by kernel_rfl) ?_
 change Upto _ _ _ _ _ _ _ _ _ w1.drew
 refine Upto.take (i := 0) (v := .agg (#[rf, ob])) rfl (by kernel_rfl) (by kernel_rfl) (by kernel_rfl) (by kernel_rfl) (fun _ _ _ h => h) (takes_row 65 (.tmp 1) rfl (by rfl) w.heap.size (by rfl) 65 (#[rf, ob]) _ (fun w' hS => hS) (by first | exact Tryz.underlying65 | kernel_rfl) (by rfl) (by kernel_rfl)) HSX.out ?_
 try simp only [Act.put, List.getElem_toArray, List.getElem_cons_zero, List.setIfInBounds_toArray, List.set_cons_zero, List.set_cons_succ]
 refine Upto.takeY (i := 2) (v := ?_) rfl (by kernel_rfl) (by kernel_rfl) (by kernel_rfl) (by kernel_rfl) (fun _ _ _ h => h) (Or.inl ⟨by rfl, ?_⟩) (fun _ => HSX.out) ?_
 rotate_left
 ·intro w' _; go_simp; with_reducible rfl
 try simp only [Act.put, List.getElem_toArray, List.getElem_cons_zero, List.getElem_cons_succ, List.setIfInBounds_toArray, List.set_cons_zero, List.set_cons_succ]
 refine Upto.take (i := 3) (v := ?_) rfl (by kernel_rfl) (by kernel_rfl) (by kernel_rfl) (by kernel_rfl) (fun _ _ _ h => h) (Or.inl ⟨by rfl, ?_⟩) HSX.out ?_
 rotate_left
 ·intro w' hS; have h0 : w'.cell? ⟨w.heap.size, 0, none⟩ = some rf := hS.cell 0; go_simp; with_reducible rfl
 try simp only [Act.put, List.getElem_toArray, List.getElem_cons_zero, List.getElem_cons_succ, List.setIfInBounds_toArray, List.set_cons_zero, List.set_cons_succ]
 refine Upto.one (i := 1) (by kernel_rfl) rfl (by rfl) (fun K hK => ?_)
 go_simp
 refine CT.mono ?_
 rintro e w2 ⟨v2, ks, rfl, hks, ho2, hb2⟩
 have HB2 := Lib.hid (below_next HBD.out hb2)
 have HSY : Hid (Blk w2 w.heap.size 65 #[rf, ob]) := Lib.hid (HSX.out.below hb2 HSX.out.lt)
 have HKS := Lib.hid hks
 have HO2 := Lib.hid ho2
 clear hks ho2 hb2 HSX CT hw1'
 have HSX := HSY
 clear HSY
 refine hK _ _ (fun _ _ => HSX.out) ?_
 clear hK
 try simp only [Act.put, List.getElem_toArray, List.getElem_cons_zero, List.getElem_cons_succ, List.setIfInBounds_toArray, List.set_cons_zero, List.set_cons_succ]
 have HS2 := Lib.hid (HSS.out.below HB2.out)
 have CK := valsS_iter N (fun i => (f i).map idV) rf w2 HS2.out
 have CC := valsS_coll N (by have := HFW.out; omega) (fun i => (f i).map idV) (agg_idV HF.out) rf w2 HS2.out
 refine Upto.one (i := 4) (by kernel_rfl) rfl (by rfl) (fun K hK => ?_)
 go_simp
 refine CK.mono ?_
 rintro e w3 ⟨rfl, hw3⟩
 subst hw3
 clear CK
 refine hK _ _ (fun _ _ => HSX.out.alloc _) ?_
 clear hK
 try simp only [Act.put, List.getElem_toArray, List.getElem_cons_zero, List.getElem_cons_succ, List.setIfInBounds_toArray, List.set_cons_zero, List.set_cons_succ]
 refine Upto.one (i := 5) (by kernel_rfl) rfl (by rfl) (fun K hK => ?_)
 go_simp
 refine CC.mono ?_
 rintro e w4 ⟨v4, ys, rfl, hys, ho4, hb4⟩
 have hids := ids_all ys
 have hyl : ys.length = (ids ys).length := by simp [ids]
 rw [hyl] at ho4
 obtain ⟨A2, c2, rfl⟩ := own_slice HO2.out
 obtain ⟨A4, c4, rfl⟩ := own_slice ho4
 have hkl : ks.length = c := (keys_cnt HKS.out).uniq HC.out
 have hOk : ∀ p ∈ ks.map (tOf O), ∃ k, O k = some p := fun p hp => by
  obtain ⟨k, hk, rfl⟩ := List.mem_map.1 hp
  have h1 := (HKS.out.mem k (HKS.out.id k hk)).1 hk
  unfold tOf
  cases hx : O k with
  | none => simp [hx] at h1
  | some p => exact ⟨k, by rw [hx]; rfl⟩
 have hcl : ClIn w4 A2 ks.length c2 (ks.map (tOf O)) A4 (ids ys).length c4 (ids ys) a := by
  refine ⟨?_, fun p hp => ?_, HT.out.below (below_next HB2.out hb4) (Nat.le_refl _), HS.out.at_ (below_next HB2.out hb4), rdk_own ho4, rfl, hids, ?_⟩
  ·have h := clt_own (its := ks.map (tOf O)) (B := w1.heap.size) (w := w2) (v := .slice A2 ks.length c2) (by rw [List.length_map]; exact HO2.out) (fun p hp => by
    obtain ⟨k, hk⟩ := hOk p hp
    obtain ⟨h1, h2, _⟩ := HO.out k p hk
    exact ⟨h1.below HB2.out (Nat.le_refl _), h2⟩)
   exact h.below hb4
  ·obtain ⟨k, hk⟩ := hOk p hp
   have := (HO.out k p hk).2.2
   omega
  ·have h1 := hys.1
   have h2 := HFW.out
   rw [List.length_map, ← hyl]
   omega
 have CW := whole_any hcl w4 (Below.refl _ _)
 unfold WholePost at CW
 have HWI := Lib.hid (Rp.whole_iff HKS.out (roots_of hys))
 have HB4 := Lib.hid (below_next HB2.out hb4)
 have HSY : Hid (Blk w4 w.heap.size 65 #[rf, ob]) := Lib.hid (HSX.out.below hb4 HSX.out.lt)
 clear hcl hids hyl ho4 hb4 hys hOk hkl CC HSX
 refine hK _ _ (fun _ _ => HSY.out) ?_
 clear hK
 try simp only [Act.put, List.getElem_toArray, List.getElem_cons_zero, List.getElem_cons_succ, List.setIfInBounds_toArray, List.set_cons_zero, List.set_cons_succ]
 refine Upto.one (i := 6) (by kernel_rfl) rfl (by rfl) (fun K hK => ?_)
 go_simp
 refine CW.mono ?_
 rintro e w5 ⟨β, rfl, hβ, hb5⟩
 have HB5 := Lib.hid (below_next HB4.out hb5)
 have HBB : Hid (Rp.isWhole f (fun x => (O x).map (·.text)) = β) := Lib.hid (by
  rw [Bool.eq_iff_iff, Rp.isWhole_iff, HWI.out, hβ, tOf_text]
  rfl)
 clear hβ CW
 have HSX : Hid (Blk w5 w.heap.size 65 #[rf, ob]) := Lib.hid (HSY.out.below hb5 HSY.out.lt)
 clear hb5
 refine hK _ _ (fun _ _ => HSX.out) ?_
 clear hK
 try simp only [Act.put, List.getElem_toArray, List.getElem_cons_zero, List.getElem_cons_succ, List.setIfInBounds_toArray, List.set_cons_zero, List.set_cons_succ]
 refine Upto.one (i := 7) (by kernel_rfl) rfl (by rfl) (fun K hK => ?_)
 go_simp
 refine hK _ _ (fun h => absurd rfl h) ?_
 clear hK
 try simp only [Act.put, List.getElem_toArray, List.getElem_cons_zero, List.getElem_cons_succ, List.setIfInBounds_toArray, List.set_cons_zero, List.set_cons_succ]
 refine Upto.done (by kernel_rfl) ?_ _
 clear HSX HSY
 go_wp2
 go_ret
 exact ⟨by rw [HBB.out]; rfl, HB5.out⟩
theorem behind_few {g : List Nat → Option (List Nat)} {os : List (List Nat)} {c d : Nat} (h : Cnt Id32 g c) (k : Cnt Id32 (Rp.behindO g os) d) : d ≤ c + os.length := by
 obtain ⟨l, a1, a2, a3, rfl⟩ := h
 obtain ⟨m, b1, b2, b3, rfl⟩ := k
 have h := nodup_sub m (l ++ os.map Sha.sum) b1 (fun x hx => by
  obtain ⟨t, ht⟩ := Option.isSome_iff_exists.1 ((b3 x (b2 x hx)).1 hx)
  rcases Rp.behindO_some os g x t ht with h | ⟨h1, h2⟩
  ·exact List.mem_append_left _ ((a3 x (b2 x hx)).2 (by rw [h]; rfl))
  ·exact List.mem_append_right _ (List.mem_map.2 ⟨t, h1, h2.symm⟩))
 rw [List.length_append, List.length_map] at h
 exact h
theorem idV_getD (o : Option (List Nat)) : (o.map idV).getD (.agg (u8s (List.replicate 32 0))) = .agg (u8s (o.getD Rp.z32)) := by cases o <;> rfl
theorem cntT {O : List Nat → Option Cl.T} {g : List Nat → Option (List Nat)} (oe : ∀ x, (O x).map (·.text) = g x) {n : Nat} (h : Cnt Id32 (fun x => (O x).map (·.val)) n) : Cnt Id32 g n ∧ Cnt Id32 O n :=
 ⟨Rp.cnt_map h (fun x _ => by rw [← oe x]; simp), Rp.cnt_map h (fun x _ => by simp)⟩
theorem else_enters (args : Array Value) (w : World) : (callFunc 42 args).run Tryz.prog w = .ok (.enter 42 args) w := by kernel_rfl
set_option maxRecDepth 100000 in
set_option maxHeartbeats 4000000 in
theorem fault_any (s : Rp.St) (O : List Nat → Option Cl.T) (rf ob : Value) (b1 b2 N M N2 M2 : Nat) (e : En.E) (cs : Array Value) (U OO : Option Addr) (cu co : Nat) (ts : List En.Bt) (a : Nat → Addr) (w : World)
  (hs : SrcS w rf N (fun i => (s.refs i).map idV)) (ho : SrcO w ob M (fun x => (O x).map (·.val))) (oe : ∀ x, (O x).map (·.text) = s.objs x)
  (hs2 : MapS w b1 N2 (fun i => (Rp.behindR s.refs e.ups i).map idV)) (ho2 : MapO w b2 M2 (fun x => (behindT O ts x).map (·.val)))
  (hO2 : ∀ x p, behindT O ts x = some p → Rd w p.val p.text ∧ Sha.Byte p.text ∧ p.text.length ≤ 300)
  (he : EnC w e cs U cu OO co ts) (hr : En.right e = true) (hg : Rp.Good s) (hft : Rp.Fit e) (hN : N2 ≤ 400) (hM : M2 ≤ 50000) (hM1 : M ≤ 50000) (ht : Tabs w) (hS : RSents w a) :
  Calls Tryz.prog 26 #[.agg #[rf, ob], .agg cs, .agg #[.map (some b1), .map (some b2)]] w fun x w' => x = .returned (errV a (Rp.fault s e)) ∧ Below w.heap.size w w' := by
 obtain ⟨wa, hwa⟩ : ∃ wa, wa = w.alloc (.cells #[rf, ob] 65) := ⟨_, rfl⟩
 obtain ⟨wb, hwb⟩ : ∃ wb, wb = wa.alloc (.cells cs 32) := ⟨_, rfl⟩
 obtain ⟨w3, hw3⟩ : ∃ w3, w3 = wb.alloc (.cells #[.map (some b1), .map (some b2)] 65) := ⟨_, rfl⟩
 have ba : Below w.heap.size w wa := by rw [hwa]; exact (Below.refl _ _).alloc (Nat.le_refl _) _
 have bb : Below wa.heap.size wa wb := by rw [hwb]; exact (Below.refl _ _).alloc (Nat.le_refl _) _
 have bc : Below wb.heap.size wb w3 := by rw [hw3]; exact (Below.refl _ _).alloc (Nat.le_refl _) _
 have za : wa.heap.size = w.heap.size + 1 := by rw [hwa]; simp
 have zb : wb.heap.size = w.heap.size + 2 := by rw [hwb]; simp [za]
 have b3 : Below w.heap.size w w3 := below_next (below_next ba bb) bc
 have xa : Blk wa w.heap.size 65 #[rf, ob] := by rw [hwa]; exact Blk.new w _ _
 have xb : Blk wb (w.heap.size + 1) 32 cs := by have h := Blk.new wa 32 cs; rw [za] at h; rw [hwb]; exact h
 have xc : Blk w3 (w.heap.size + 2) 65 #[.map (some b1), .map (some b2)] := by have h := Blk.new wb 65 #[.map (some b1), .map (some b2)]; rw [zb] at h; rw [hw3]; exact h
 have xa3 : Blk w3 w.heap.size 65 #[rf, ob] := (xa.below bb xa.lt).below bc (by omega)
 have xb3 : Blk w3 (w.heap.size + 1) 32 cs := xb.below bc xb.lt
 obtain ⟨c1, ql1, hc1, hcm1⟩ := (ho.below b3).len
 have p1 : w3.cell? ⟨w.heap.size, 1, none⟩ = some ob := xa3.cell 1
 have p3 : w3.cell? ⟨w.heap.size + 1, 3, none⟩ = some (.slice U e.ups.length cu) := (xb3.cell 3).trans (by rw [he.cells]; rfl)
 have p4 : w3.cell? ⟨w.heap.size + 1, 4, none⟩ = some (.slice OO e.objs.length co) := (xb3.cell 4).trans (by rw [he.cells]; rfl)
 have hru := Rp.right_ups hr
 have CCF := containsU_any 42 #[.pointer (some ⟨w.heap.size, 0, none⟩)] (Rp.elsewhere s) e.ups U e.ups.length cu w3 (he.ups.below b3 (Nat.le_refl _)) rfl he.fit (by omega) else_enters (fun u hu w' hw' =>
  else_any w.heap.size rf ob N (fun i => (s.refs i).map idV) u ((s.refs u.ref).getD Rp.z32) w' (xa3.below hw' xa3.lt) ((hs.below b3).below hw') (he.fit u hu) (Rp.ref_okS (Rp.right_refs hr u hu)) (by
   cases hx : s.refs u.ref with
   | none => exact Rp.z32_id
   | some y => exact (hg.refs _ _ hx).2.1) (idV_getD _))
 have hcs := cntT oe hc1
 have hwr : wrap64 ((c1 : Int) + (e.objs.length : Nat)) = ((c1 + e.objs.length : Nat) : Int) := by
  rw [IntWalk.wrap64_in _ (by omega)]; omega
 have HS := Lib.hid hs
 have HX := Lib.hid (And.intro xa3 (And.intro xb3 xc))
 have HB3 := Lib.hid b3
 have HS2 := Lib.hid hs2
 have HO2 := Lib.hid ho2
 have HR2 := Lib.hid hO2
 have HR := Lib.hid hr
 have HG := Lib.hid hg
 have HFT := Lib.hid hft
 have HT := Lib.hid ht
 have HSN := Lib.hid hS
 have HLIM := Lib.hid (And.intro hN (And.intro hM hru))
 have HC1 := Lib.hid hcs
 have HOE := Lib.hid oe
 have HTX := Lib.hid he.txt
 obtain ⟨no, hno⟩ : ∃ no, no = e.objs.length := ⟨_, rfl⟩
 obtain ⟨nu, hnu⟩ : ∃ nu, nu = e.ups.length := ⟨_, rfl⟩
 rw [← hno] at p4 hwr
 rw [← hnu] at p3 CCF
 have HNO := Lib.hid hno
 have HNU := Lib.hid hnu
 obtain ⟨β, hβ⟩ : ∃ β, β = e.ups.any (Rp.elsewhere s) := ⟨_, rfl⟩
 rw [← hβ] at CCF
 have HBT := Lib.hid hβ
 have hw3' := hw3.symm
 rw [hwb, hwa] at hw3'
 clear hs ho oe hs2 ho2 hO2 he hr hg hft hN hM hM1 ht hS hwa hwb hw3 ba bb bc za zb b3 xa xb xc xa3 xb3 hc1 hcm1 hru hcs hno hnu hβ
 go_enter Tryz.func26, Tryz.ntmps26
 go_wp2_with (go_at_call 43; refine pause ?_)
 unfold Paused
 refine CCF.mono ?_
 rintro x w4 ⟨rfl, hb4⟩
 simp only [hwr, Nat.add_assoc, Nat.reduceAdd]
 have HB4 := Lib.hid (below_next HB3.out hb4)
 have HX4 := Lib.hid (And.intro (HX.out.1.below hb4 HX.out.1.lt) (HX.out.2.2.below hb4 HX.out.2.2.lt))
 clear CCF hwr hw3' ql1 p1 p3 p4 hb4 HX HB3
 clear w3
 have HF0 : Hid (β = e.ups.any (Rp.elsewhere s)) := HBT
 cases β with
 | true =>
  have HF : Hid (Rp.fault s e = 10) := Lib.hid (by unfold Rp.fault; rw [if_pos HF0.out.symm])
  have q9 : w4.cell? ⟨10, 0, none⟩ = some (ev (a 9)) := (HSN.out.at_ HB4.out).c
  go_wp2
  go_ret
  exact ⟨by rw [HF.out]; rfl, HB4.out⟩
 | false =>
  have q0 : w4.cell? ⟨w.heap.size + 2, 0, none⟩ = some (.map (some b1)) := HX4.out.2.cell 0
  have q1 : w4.cell? ⟨w.heap.size + 2, 1, none⟩ = some (.map (some b2)) := HX4.out.2.cell 1
  have s1 : SrcS w4 (.map (some b1)) N2 (fun i => (Rp.behindR s.refs e.ups i).map idV) := Or.inr ⟨b1, rfl, HS2.out.below HB4.out⟩
  have s2 : SrcO w4 (.map (some b2)) M2 (fun x => (behindT O ts x).map (·.val)) := Or.inr ⟨b2, rfl, HO2.out.below HB4.out⟩
  have oe2 : ∀ x, (behindT O ts x).map (·.text) = Rp.behindO s.objs e.objs x := fun x => by
   rw [behindT_text, HTX.out]
   congr 1
   exact funext HOE.out
  obtain ⟨c2, ql2, hc2, hcm2⟩ := s1.len
  obtain ⟨c3, ql3, hc3, hcm3⟩ := s2.len
  have hcs3 := cntT oe2 hc3
  have hlim := HLIM.out
  have HC2 : Hid (Rp.cnt okS (Rp.behindR s.refs e.ups) = c2) := Lib.hid (Rp.cnt_eq (Rp.cnt_map hc2 (fun i _ => by simp)))
  have HC3 : Hid (Rp.cnt Id32 (Rp.behindO s.objs e.objs) = c3) := Lib.hid (Rp.cnt_eq hcs3.1)
  have HC1' : Hid (Rp.cnt Id32 s.objs = c1) := Lib.hid (Rp.cnt_eq HC1.out.1)
  have hle : c3 ≤ c1 + no := by rw [HNO.out]; exact behind_few HC1.out.1 hcs3.1
  have HLE := Lib.hid hle
  have HC3O := Lib.hid hcs3.2
  have HSS := Lib.hid s1
  have HSO := Lib.hid s2
  have HOE2 := Lib.hid oe2
  have qF : w4.cell? ⟨21, 0, none⟩ = some (ev (a 21)) := (HSN.out.at_ HB4.out).f
  have qD : w4.cell? ⟨19, 0, none⟩ = some (ev (a 19)) := (HSN.out.at_ HB4.out).d
  clear s1 s2 oe2 hc2 hcm2 hc3 hcm3 hcs3 hlim hle
  have HA : Hid (¬ e.ups.any (Rp.elsewhere s) = true) := Lib.hid (by rw [← HF0.out]; simp)
  by_cases h16 : 16 < c2
  ·have HF : Hid (Rp.fault s e = 22) := Lib.hid (by unfold Rp.fault; rw [if_neg HA.out, if_pos (Or.inl (by rw [HC2.out]; exact h16))])
   have i1 : (16 : Int) < (c2 : Int) := by omega
   clear h16
   go_wp2
   go_ret
   exact ⟨by rw [HF.out]; rfl, HB4.out⟩
  have i1 : ¬ (16 : Int) < (c2 : Int) := by omega
  by_cases h64 : 64 < c1 + no
  ·have HF : Hid (Rp.fault s e = 22) := Lib.hid (by unfold Rp.fault; rw [if_neg HA.out, if_pos (Or.inr (by rw [HC1'.out, ← HNO.out]; exact h64))])
   have i2 : (64 : Int) < ((c1 + no : Nat) : Int) := by omega
   clear h16 h64
   go_wp2
   go_ret
   exact ⟨by rw [HF.out]; rfl, HB4.out⟩
  have i2 : ¬ (64 : Int) < ((c1 + no : Nat) : Int) := by omega
  have HNB : Hid (¬ (16 < Rp.cnt okS (Rp.behindR s.refs e.ups) ∨ 64 < Rp.cnt Id32 s.objs + e.objs.length)) := Lib.hid (by rw [HC2.out, HC1'.out, ← HNO.out]; omega)
  have H64 : Hid (c1 + no ≤ 64) := Lib.hid (by omega)
  clear h16 h64
  by_cases hd : c3 < c1 + no
  ·have HF : Hid (Rp.fault s e = 20) := Lib.hid (by unfold Rp.fault; rw [if_neg HA.out, if_neg HNB.out, if_pos (by rw [HC3.out, HC1'.out, ← HNO.out]; exact hd)])
   have i3 : (c3 : Int) < ((c1 + no : Nat) : Int) := by omega
   clear hd
   go_wp2
   go_ret
   exact ⟨by rw [HF.out]; rfl, HB4.out⟩
  have i3 : ¬ (c3 : Int) < ((c1 + no : Nat) : Int) := by omega
  have HND : Hid (¬ Rp.cnt Id32 (Rp.behindO s.objs e.objs) < Rp.cnt Id32 s.objs + e.objs.length) := Lib.hid (by rw [HC3.out, HC1'.out, ← HNO.out]; exact hd)
  clear hd
  have CW := rwhole_any (.map (some b1)) (.map (some b2)) N2 M2 c3 (Rp.behindR s.refs e.ups) (behindT O ts) a w4 HSS.out HSO.out (fun i x h => (Rp.good_refs HG.out HR.out HFT.out i x h).2.1) (fun x p h => by
   obtain ⟨h1, h2, h3⟩ := HR2.out x p h
   exact ⟨h1.below HB4.out (Nat.le_refl _), h2, h3⟩) HC3O.out (by have := HLIM.out.1; have := HLE.out; have := H64.out; omega) HLIM.out.2.1 (HT.out.below HB4.out (Nat.le_refl _)) ⟨(HSN.out.at_ HB4.out).e.p, (HSN.out.at_ HB4.out).e.g⟩
  rw [show (fun x => (behindT O ts x).map (·.text)) = Rp.behindO s.objs e.objs from funext HOE2.out] at CW
  obtain ⟨γ, hγ⟩ : ∃ γ, γ = Rp.isWhole (Rp.behindR s.refs e.ups) (Rp.behindO s.objs e.objs) := ⟨_, rfl⟩
  rw [← hγ] at CW
  have HGM := Lib.hid hγ
  clear hγ
  go_wp2_with (with_reducible (show wpList _ _ _ (Oper.mk _ (Op.load 65 _) _ _ _ _ :: _) _ _); refine pause ?_)
  unfold Paused
  refine wpList_row_w (by rfl) 65 (.tmp 5) (by rfl) (w.heap.size + 2) (by rfl) 65 #[.map (some b1), .map (some b2)] _ HX4.out.2 Tryz.underlying65 (by rfl) (by kernel_rfl) ?_
  go_wp2_with (go_at_call 44; refine pause ?_)
  unfold Paused
  refine CW.mono ?_
  rintro x w5 ⟨rfl, hb5⟩
  have HB5 := Lib.hid (below_next HB4.out hb5)
  clear hb5 CW ql2 ql3 q0 q1 qF qD
  cases γ with
  | true =>
   have HF : Hid (Rp.fault s e = 0) := Lib.hid (by unfold Rp.fault; rw [if_neg HA.out, if_neg HNB.out, if_neg HND.out, if_pos HGM.out.symm])
   go_wp2
   go_ret
   exact ⟨by rw [HF.out]; rfl, HB5.out⟩
  | false =>
   have HF : Hid (Rp.fault s e = 9) := Lib.hid (by unfold Rp.fault; rw [if_neg HA.out, if_neg HNB.out, if_neg HND.out, if_neg (by rw [← HGM.out]; simp)])
   have qM : w5.cell? ⟨9, 0, none⟩ = some (ev (a 8)) := (HSN.out.at_ HB5.out).m
   go_wp2
   go_ret
   exact ⟨by rw [HF.out]; rfl, HB5.out⟩
end Go.Proofs.YtgcgomdhdgjpdaaGreatDoor
