/- Rows cloned (slices.Clone): updates, texts. -/
import Derived.Test.YtgcgomdhdgjpdaaGreatDoorMEn17s
import Derived.Test.YtgcgomdhdgjpdaaGreatDoorMRp14
import Derived.Test.YtgcgomdhdgjpdaaGreatDoorMRp4s
import Derived.Test.YtgcgomdhdgjpdaaGreatDoorMCl6s
import Derived.Test.YtgcgomdhdgjpdaaGreatDoorMTexts2s
import Derived.Test.YtgcgomdhdgjpdaaGreatDoorMEn8s
import Derived.Test.YtgcgomdhdgjpdaaGreatDoorMEn11s
import Derived.Test.YtgcgomdhdgjpdaaGreatDoorMCl4
namespace Go.Proofs.YtgcgomdhdgjpdaaGreatDoor
open Go Go.RowKit
theorem upd_info : (Tryz.prog.info? 89).map (fun i => (i.zero, i.size, i.bytes)) = some (some (.agg (cellsU1 ⟨⟨#[]⟩, List.replicate 32 0, List.replicate 32 0⟩).toArray), 65, 80) := by kernel_rfl
theorem bts_info : (Tryz.prog.info? 46).map (fun i => (i.zero, i.size, i.bytes)) = some (some (.slice none 0 0), 1, 24) := by kernel_rfl
theorem cellsU_len {us : List En.Up} (hf : ∀ u ∈ us, u.Fit) : (cellsU us).length = us.length * 65 := by
 induction us with
 | nil => rfl
 | cons u us ih =>
  have h1 : cellsU (u :: us) = cellsU1 u ++ cellsU us := List.flatMap_cons ..
  rw [h1, List.length_append, ih (fun v hv => hf v (List.mem_cons_of_mem _ hv)), cellsU1_len (hf u (List.mem_cons_self ..)), List.length_cons]
  omega
theorem cellsU_one (us : List En.Up) : ∀ v ∈ cellsU us, v.oneCell' = true := fun v hv => by
 obtain ⟨u, _, h⟩ := List.mem_flatMap.1 hv
 have h1 := cellsU1_one u
 rw [Array.all_eq_true_iff_forall_mem] at h1
 exact h1 v (by simpa using h)
theorem own_none (w : World) (B : Nat) (e : TypeId) (z : Nat) (h : B ≤ w.heap.size) : (w.alloc (.cells #[] e)).ownsRow B e z (.slice (some ⟨w.heap.size, 0, none⟩) 0 0) 0 [] :=
 ⟨by simp, .inr ⟨w.heap.size, 0, #[], rfl, h, heap_alloc_new w _, Nat.le_refl _, by unfold maxLen; omega, by simp, by simp⟩⟩
set_option maxRecDepth 100000 in
set_option maxHeartbeats 2000000 in
theorem cloneU_any (us : List En.Up) (A : Option Addr) (n c : Nat) (w : World) (hx : RdK w (.slice A n c) n (cellsU us)) (hl : n = us.length) (hf : ∀ u ∈ us, u.Fit) (hn : n ≤ 1000) :
  Calls Tryz.prog 38 #[.slice A n c] w fun e w' => ∃ v, e = .returned v ∧ w'.ownsRow w.heap.size 89 65 v n (cellsU us) ∧ Below w.heap.size w w' := by
 have qT : ∀ (w : World) (a : Option Addr) (n c n' c' : Nat), (binOp .eql 29 (.slice a n c) (.slice none n' c')).run Tryz.prog w = .ok (.bool a.isNone) w := fun w a n c n' c' => Lib.run_eql_slice_nil w _ _ a n c n' c' Tryz.underlying29
 obtain ⟨A', c', hv, hc, hA⟩ := hx
 injection hv with e1 _ e3
 subst e1 e3
 cases A with
 | none =>
  have h0 : n = 0 := by
   rcases Nat.eq_zero_or_pos n with h | h
   ·exact h
   ·obtain ⟨b, o, ha, _⟩ := hA h
    cases ha
  have HE : Hid (us = []) := Lib.hid (List.eq_nil_of_length_eq_zero (by omega))
  subst h0
  clear hA hf hl
  go_enter Tryz.func38, Tryz.ntmps38
  go_wp2
  go_ret
  exact ⟨_, rfl, by rw [HE.out]; exact World.ownsRow_nil _ _ _ _, Below.refl _ _⟩
 | some ad =>
  have HA := Lib.hid hA
  have HL : Hid ((cellsU us).length = n * 65) := Lib.hid (by rw [cellsU_len hf, hl])
  have HN := Lib.hid hn
  obtain ⟨ip, hip, hpz, hps, hpb⟩ := info_parts upd_info
  have HIP : Hid (_ ∧ _ ∧ _ ∧ _) := Lib.hid ⟨hip, hpz, hps, hpb⟩
  have bb : Below w.heap.size w (w.alloc (.cells #[] 89)) := (Below.refl _ _).alloc (Nat.le_refl _) _
  have HO := Lib.hid (own_none w w.heap.size 89 65 (Nat.le_refl _))
  have HB := Lib.hid bb
  clear hA hf hl hip hpz hps hpb bb
  go_enter Tryz.func38, Tryz.ntmps38
  go_wp2_with (with_reducible (show wpList _ _ _ (Oper.mk _ (Op.call (Call.mk (Callee.builtin Builtin.append) _ _)) _ _ _ _ :: _) _ _); refine pause ?_)
  unfold Paused
  refine wpList_append_own (w.alloc (.cells #[] 89)) (by rfl) (.tmp 5) (.tmp 6) 29 (by rfl) w.heap.size 89 ip _ 65 80 Tryz.underlying29 HIP.out.1 HIP.out.2.1 HIP.out.2.2.1 HIP.out.2.2.2 (by rfl) (by decide) (.slice (some ⟨w.heap.size, 0, none⟩) 0 0) 0 [] (by rfl) HO.out ad n c (cellsU us) (by rfl) HL.out (fun j u hj => ?_) (cellsU_one us) (by have := HN.out; unfold maxLen; omega) (by have := HN.out; omega) HB.out.size ?_
  ·have hj0 : 0 < n := by
    have h1 := (List.getElem?_eq_some_iff.1 hj).1
    have h2 := HL.out
    omega
   obtain ⟨b, o, ha, hb, hc⟩ := HA.out hj0
   injection ha with ha
   subst ha
   rw [Addr.add_mid]
   exact (HB.out.cell (p := ⟨b, o + j, none⟩) hb).trans (hc j u hj)
  intro v' w' ho hg _
  have HR : Hid (w'.ownsRow w.heap.size 89 65 v' n (cellsU us)) := Lib.hid (by
   rw [Nat.zero_add, List.nil_append] at ho
   exact ho)
  have HB2 : Hid (Below w.heap.size w w') := Lib.hid (below_of_only HB.out hg (by simp))
  clear ho hg
  simp only [Act.put]
  go_wp2
  go_ret
  exact ⟨_, rfl, HR.out, HB2.out⟩
set_option maxRecDepth 100000 in
set_option maxHeartbeats 2000000 in
theorem cloneT_any (ts : List En.Bt) (A : Option Addr) (n c : Nat) (w : World) (hx : BtT w A n ts) (hc : A = none → n = 0) (hn : n ≤ 100000) :
  Calls Tryz.prog 39 #[.slice A n c] w fun e w' => ∃ v, e = .returned v ∧ w'.ownsRow w.heap.size 46 1 v n (ts.map (·.val)) ∧ Below w.heap.size w w' := by
 have qT : ∀ (w : World) (a : Option Addr) (n c n' c' : Nat), (binOp .eql 30 (.slice a n c) (.slice none n' c')).run Tryz.prog w = .ok (.bool a.isNone) w := fun w a n c n' c' => Lib.run_eql_slice_nil w _ _ a n c n' c' Tryz.underlying30
 have hl := hx.len
 cases A with
 | none =>
  have h0 := hc rfl
  have HE : Hid (ts = []) := Lib.hid (List.eq_nil_of_length_eq_zero (by omega))
  subst h0
  clear hx hc hl
  go_enter Tryz.func39, Tryz.ntmps39
  go_wp2
  go_ret
  exact ⟨_, rfl, by rw [HE.out]; exact World.ownsRow_nil _ _ _ _, Below.refl _ _⟩
 | some ad =>
  have HX := Lib.hid hx
  have HL : Hid ((ts.map (·.val)).length = n * 1) := Lib.hid (by rw [List.length_map]; omega)
  have HN := Lib.hid hn
  have H1 : Hid (∀ v ∈ ts.map (·.val), v.oneCell' = true) := Lib.hid (fun v hv => by
   obtain ⟨t, ht, rfl⟩ := List.mem_map.1 hv
   obtain ⟨⟨A1, c1, h, _⟩, _⟩ := hx.rd t ht
   rw [h]; rfl)
  obtain ⟨ip, hip, hpz, hps, hpb⟩ := info_parts bts_info
  have HIP : Hid (_ ∧ _ ∧ _ ∧ _) := Lib.hid ⟨hip, hpz, hps, hpb⟩
  have bb : Below w.heap.size w (w.alloc (.cells #[] 46)) := (Below.refl _ _).alloc (Nat.le_refl _) _
  have HO := Lib.hid (own_none w w.heap.size 46 1 (Nat.le_refl _))
  have HB := Lib.hid bb
  clear hx hc hl hip hpz hps hpb bb
  go_enter Tryz.func39, Tryz.ntmps39
  go_wp2_with (with_reducible (show wpList _ _ _ (Oper.mk _ (Op.call (Call.mk (Callee.builtin Builtin.append) _ _)) _ _ _ _ :: _) _ _); refine pause ?_)
  unfold Paused
  refine wpList_append_own (w.alloc (.cells #[] 46)) (by rfl) (.tmp 5) (.tmp 6) 30 (by rfl) w.heap.size 46 ip _ 1 24 Tryz.underlying30 HIP.out.1 HIP.out.2.1 HIP.out.2.2.1 HIP.out.2.2.2 (by rfl) (by decide) (.slice (some ⟨w.heap.size, 0, none⟩) 0 0) 0 [] (by rfl) HO.out ad n c (ts.map (·.val)) (by rfl) HL.out (fun j u hj => ?_) H1.out (by have := HN.out; unfold maxLen; omega) (by have := HN.out; omega) HB.out.size ?_
  ·have hj0 : 0 < n := by
    have h1 := (List.getElem?_eq_some_iff.1 hj).1
    have h2 := HL.out
    omega
   obtain ⟨b, o, ha, hb, hc⟩ := HX.out.row hj0
   injection ha with ha
   subst ha
   rw [Addr.add_mid]
   rw [List.getElem?_map] at hj
   obtain ⟨t, ht, rfl⟩ := Option.map_eq_some_iff.1 hj
   exact (HB.out.cell (p := ⟨b, o + j, none⟩) hb).trans (hc j t ht)
  intro v' w' ho hg _
  have HR : Hid (w'.ownsRow w.heap.size 46 1 v' n (ts.map (·.val))) := Lib.hid (by
   rw [Nat.zero_add, List.nil_append] at ho
   exact ho)
  have HB2 : Hid (Below w.heap.size w w') := Lib.hid (below_of_only HB.out hg (by simp))
  clear ho hg
  simp only [Act.put]
  go_wp2
  go_ret
  exact ⟨_, rfl, HR.out, HB2.out⟩
end Go.Proofs.YtgcgomdhdgjpdaaGreatDoor
/- All objects' texts, by their ids: state.texts; is all there: state.whole. -/
namespace Go.Proofs.YtgcgomdhdgjpdaaGreatDoor
open Go Go.RowKit Go.Maps
def tOf (O : List Nat → Option Cl.T) (k : List Nat) : Cl.T := (O k).getD ⟨[], .slice none 0 0⟩
theorem tOf_text (O : List Nat → Option Cl.T) (ks : List (List Nat)) : (ks.map (tOf O)).map (·.text) = Rp.texts ks (fun x => (O x).map (·.text)) := by
 unfold Rp.texts
 rw [List.map_map]
 refine List.map_congr_left fun k _ => ?_
 show ((O k).getD ⟨[], .slice none 0 0⟩).text = ((O k).map (·.text)).getD []
 cases O k <;> rfl
theorem tOf_val (O : List Nat → Option Cl.T) (k : List Nat) : ((O k).map (·.val)).getD (.slice none 0 0) = (tOf O k).val := by
 unfold tOf
 cases O k <;> rfl
theorem keys_few {w : World} {v : Value} {n : Nat} {f : List Nat → Option Value} {ys : List IdT} (h : SrcO w v n f) (hk : KeysOf f ys) : ys.length ≤ n := by
 have e1 : ys.length = (ids ys).length := by simp [ids]
 rcases h with ⟨_, h0⟩ | ⟨b, _, h⟩
 ·cases ys with
  | nil => exact Nat.zero_le _
  | cons y ys =>
   have h1 := (hk.2 y.1 y.2).1 (List.mem_cons_self ..)
   rw [h0] at h1
   cases h1
 ·obtain ⟨c, _, hc, hn⟩ := h.len Tryz.underlying63 63
  have h2 : Cnt Id32 f ys.length := ⟨ids ys, hk.1, ids_all ys, hk.2, e1.symm⟩
  rw [h2.uniq hc]
  exact hn
theorem SrcO.look {w : World} {v z : Value} {n : Nat} {f : List Nat → Option Value} {x : List Nat} {t e : TypeId} (h : SrcO w v n f) (ht : Tryz.prog.underlying t = some (.map 41 e)) (hz : (zeroValue e).run Tryz.prog w = .ok z w) (hi : Id32 x) :
  (Instr.lookup t v (.agg (u8s x)) false).run Tryz.prog w = .ok ((f x).getD z) w := by
 rcases h with ⟨rfl, h0⟩ | ⟨b, rfl, h⟩
 ·rw [h0 x]
  simpa using Maps.look_nil (w := w) false oid_law ht hz (oid_key hi)
 ·exact h.look ht hz hi
theorem tOf_slice {O : List Nat → Option Cl.T} (hO : ∀ x p, O x = some p → ∃ A n c, p.val = .slice A n c) (k : List Nat) : ∃ A n c, (tOf O k).val = .slice A n c := by
 unfold tOf
 cases h : O k with
 | none => exact ⟨none, 0, 0, rfl⟩
 | some p => exact hO k p h
theorem vals_snoc (O : List Nat → Option Cl.T) {r : List (List Nat)} {k : Nat} (hk : k < r.length) : (((r.take (k + 1)).map (tOf O)).map (·.val)) = (((r.take k).map (tOf O)).map (·.val)) ++ [(tOf O r[k]).val] := by
 rw [List.take_succ_eq_append_getElem hk, List.map_append, List.map_append]
 rfl
theorem own_lower {w : World} {base base' e s n : Nat} {v : Value} {xs : List Value} (h : w.ownsRow base e s v n xs) (hb : base' ≤ base) : w.ownsRow base' e s v n xs := by
 refine ⟨h.1, ?_⟩
 rcases h.2 with hn | ⟨g, cap, cur, rfl, hg, rest⟩
 ·exact .inl hn
 ·exact .inr ⟨g, cap, cur, rfl, Nat.le_trans hb hg, rest⟩
def TxPost (w : World) (O : List Nat → Option Cl.T) (e : Ending) (w' : World) : Prop :=
 ∃ v ks, e = .returned v ∧ Rp.Keys ks (fun x => (O x).map (·.text)) ∧ w'.ownsRow w.heap.size 46 1 v ks.length ((ks.map (tOf O)).map (·.val)) ∧ Below w.heap.size w w'
set_option maxRecDepth 100000 in
set_option maxHeartbeats 4000000 in
theorem texts_any (rf ob : Value) (M : Nat) (O : List Nat → Option Cl.T) (w : World) (ho : SrcO w ob M (fun x => (O x).map (·.val))) (hO : ∀ x p, O x = some p → ∃ A n c, p.val = .slice A n c) (hM : M ≤ 50000) :
  Calls Tryz.prog 32 #[.agg #[rf, ob]] w (TxPost w O) := by
 have HSO := Lib.hid ho
 have HO := Lib.hid hO
 have HM := Lib.hid hM
 clear ho hO hM
 have hb1 : Below w.heap.size w (w.alloc (.cells #[rf, ob] 65)) := (Below.refl _ _).alloc (Nat.le_refl _) _
 have hbx : Blk (w.alloc (.cells #[rf, ob] 65)) w.heap.size 65 #[rf, ob] := Blk.new w _ _
 have z1 : (w.alloc (.cells #[rf, ob] 65)).heap.size = w.heap.size + 1 := World.size_alloc ..
 obtain ⟨w1, hw1⟩ : ∃ w1, w1 = w.alloc (.cells #[rf, ob] 65) := ⟨_, rfl⟩
 rw [← hw1] at hb1 hbx z1
 have HS1 := Lib.hid (HSO.out.below hb1)
 have CK := keysO_iter M (fun x => (O x).map (·.val)) ob w1 HS1.out
 have CC := keysO_coll M (by have := HM.out; omega) (fun x => (O x).map (·.val)) ob w1 HS1.out
 have q1 : w1.cell? ⟨w.heap.size, 1, none⟩ = some ob := hbx.cell 1
 have HB1 := Lib.hid (And.intro hb1 hbx)
 have HZ1 := Lib.hid z1
 have hw1' := hw1.symm
 clear hb1 hbx z1 hw1
 go_enter Tryz.func32, Tryz.ntmps32
 go_wp2_with (go_at_call 53; refine pause ?_)
 unfold Paused
 refine CK.mono ?_
 rintro e w2 ⟨rfl, hw2⟩
 subst hw2
 clear CK hw1'
 go_wp2_with (go_at_call 52; refine pause ?_)
 unfold Paused
 refine CC.mono ?_
 rintro e w3 ⟨v3, ys, rfl, hky, ho3, hb3⟩
 have hids := ids_all ys
 have hyl : ys.length = (ids ys).length := by simp [ids]
 rw [hyl] at ho3
 have hfew := keys_few HS1.out hky
 have CS := sort_any v3 (ids ys) w3 (rdo_own ho3 hids) hids (by have := HM.out; omega)
 have HKY := Lib.hid hky
 have HB3 := Lib.hid (below_next HB1.out.1 hb3)
 have HX3 := Lib.hid (HB1.out.2.below hb3 HB1.out.2.lt)
 have HF3 : Hid (ys.length ≤ M) := Lib.hid hfew
 have HYL := Lib.hid hyl
 clear hky hb3 ho3 hids hyl hfew CC q1
 go_wp2_with (go_at_call 51; refine pause ?_)
 unfold Paused
 refine CS.mono ?_
 rintro e w4 ⟨r, hs⟩
 have hb4 := hs.bel
 obtain ⟨b4, c4, rfl, hc4, hl4, hx4⟩ := hs.val
 have HKS : Hid (Rp.Keys r (fun x => (O x).map (·.text))) := Lib.hid ⟨hs.rise, fun x hx => hs.oids x hx, fun x hx => by
  rw [hs.mem x, HKY.out.2 x hx]
  show ((O x).map (·.val)).isSome = true ↔ ((O x).map (·.text)).isSome = true
  cases O x <;> simp⟩
 have hrl : r.length ≤ ys.length := by
  rw [HYL.out]
  exact Cl.nodup_le (Cl.rising_nodup hs.rise) (fun x hx => (hs.mem x).1 hx)
 have HB4 := Lib.hid (below_next HB3.out hb4)
 have HX4 := Lib.hid (HX3.out.below hb4 HX3.out.lt)
 have HL4 := Lib.hid (And.intro hl4 hx4)
 have HRL : Hid (r.length ≤ 50000) := Lib.hid (by have := HF3.out; have := HM.out; omega)
 clear hs hb4 hl4 hx4 hrl CS hc4 HB3 HX3 HS1 HB1 HZ1
 clear w3
 obtain ⟨nr, hnr⟩ : ∃ nr, nr = r.length := ⟨_, rfl⟩
 rw [← hnr]
 have HNR := Lib.hid hnr
 clear hnr
 obtain ⟨iq, hip, hpz, hps, hpb⟩ := info_parts bts_info
 have HIQ : Hid (_ ∧ _ ∧ _ ∧ _) := Lib.hid ⟨hip, hpz, hps, hpb⟩
 clear hip hpz hps hpb
 go_wp2_with fail
 go_loopw [3, 12] (fun v i wr => ∃ k : Nat, k ≤ nr ∧ i = .int .i64 k ∧ Hid (wr.ownsRow w4.heap.size 46 1 v k (((r.take k).map (tOf O)).map (·.val)) ∧ Below w4.heap.size w4 wr)) (fun _ i _ => nr - (intOf i).toNat)
 case atStart => exact ⟨0, Nat.zero_le _, rfl, Lib.hid ⟨World.ownsRow_nil _ _ _ _, Below.refl _ _⟩⟩
 case round =>
  obtain ⟨k, hk, rfl, HW⟩ := hrel
  obtain ⟨Av, cv, hv⟩ := own_slice HW.out.1
  subst hv
  rcases Nat.lt_or_ge k nr with hlt | hge
  ·have hkl : k < r.length := by rw [← HNR.out]; exact hlt
   have i1 : ((k : Nat) : Int) < nr := by omega
   have i2 : (0 : Int) ≤ ((k : Nat) : Int) := by omega
   have i3 : ((k : Nat) : Int) < 100000 := by have := HRL.out; omega
   have hid : Id32 r[k] := HKS.out.id _ (List.getElem_mem hkl)
   have hrg : wr.rangeAt b4 (k * 32) (cellsN r[k]) := fun j v hj => by
    have h1 := HL4.out.2 k hkl
    rw [List.getD_eq_getElem?_getD, List.getElem?_eq_getElem hkl, Option.getD_some] at h1
    rw [Nat.mul_comm k 32]
    exact (HW.out.2.cell (p := ⟨b4, 32 * k + j, none⟩) (HL4.out.1 (by omega))).trans (h1 j v hj)
   have HVS := Lib.hid (vals_snoc O hkl)
   obtain ⟨tA, tn, tc, htv⟩ := tOf_slice HO.out r[k]
   rw [htv] at HVS
   have HTV := Lib.hid htv
   generalize r[k] = x at hid hrg HVS HTV htv
   have HID := Lib.hid hid
   have HRG := Lib.hid hrg
   have HLT : Hid (k + 1 ≤ nr) := Lib.hid hlt
   clear hkl hid hrg hk hlt htv
   go_wp2_with (with_reducible (show wpList _ _ _ (Oper.mk _ (Op.load 41 _) _ _ _ _ :: _) _ _); refine pause ?_)
   unfold Paused
   refine wpList_mid_w (by rfl) 41 (.tmp 14) (by rfl) b4 (k * 32) (by rfl) (cellsN x) _ HRG.out Tryz.underlying41 (by rfl) (by rw [cellsN_len, HID.out.1]; kernel_rfl) ?_
   clear HRG
   go_wp2_with (with_reducible (show wpList _ _ _ (Oper.mk _ (Op.store 41 _ _) _ _ _ _ :: _) _ _); refine pause ?_)
   unfold Paused
   change wpList _ _ _ _ _ (wr.alloc (.cells (u8s (List.replicate 32 0)) 41))
   refine wpList_store_row (by rfl) 41 (.tmp 5) (.tmp 15) (by rfl) wr.heap.size (u8s x) (by rfl) (by rfl) 41 (u8s (List.replicate 32 0)) (Blk.new wr _ _) (by rw [u8s_size, HID.out.1]; exact cl_oid_load) (by rw [u8s_size, u8s_size, HID.out.1]; rfl) (u8s_one _) ?_
   have b5 : Below wr.heap.size wr ((wr.alloc (.cells (u8s (List.replicate 32 0)) 41)).setRow wr.heap.size (u8s x)) := below_row ((Below.refl _ _).alloc (Nat.le_refl _) _) (Nat.le_refl _) _
   have HI5 : Hid (Blk ((wr.alloc (.cells (u8s (List.replicate 32 0)) 41)).setRow wr.heap.size (u8s x)) wr.heap.size 41 (u8s x)) := Lib.hid ((Blk.new wr _ _).row _)
   have HW5 : Hid (((wr.alloc (.cells (u8s (List.replicate 32 0)) 41)).setRow wr.heap.size (u8s x)).ownsRow w4.heap.size 46 1 (.slice Av k cv) k (((r.take k).map (tOf O)).map (·.val)) ∧ Below w4.heap.size w4 ((wr.alloc (.cells (u8s (List.replicate 32 0)) 41)).setRow wr.heap.size (u8s x))) := Lib.hid ⟨HW.out.1.kept (only_of_below b5 none) (by cases hv : (Value.slice Av k cv).ownBlock with | none => exact Or.inl rfl | some g => exact Or.inr (by simp)), below_next HW.out.2 b5⟩
   clear b5 HW
   generalize (wr.alloc (.cells (u8s (List.replicate 32 0)) 41)).setRow wr.heap.size (u8s x) = w5 at HI5 HW5 ⊢
   generalize wr.heap.size = g5 at HI5 ⊢
   clear wr
   simp only [Act.put]
   have q1 : w5.cell? ⟨w.heap.size, 1, none⟩ = some ob := (HX4.out.below HW5.out.2 HX4.out.lt).cell 1
   have qL : (Instr.lookup 63 ob (.agg (u8s x)) false).run Tryz.prog w5 = .ok (.slice tA tn tc) w5 := by
    have h := (HSO.out.below (below_next HB4.out HW5.out.2)).look Tryz.underlying63 (cl_zero_bytes _) HID.out
    rw [tOf_val, HTV.out] at h
    exact h
   go_wp2_with (with_reducible (show wpList _ _ _ (Oper.mk _ (Op.load 41 _) _ _ _ _ :: _) _ _); refine pause ?_)
   unfold Paused
   refine wpList_row_w (by rfl) 41 (.tmp 5) (by rfl) g5 (by rfl) 41 (u8s x) _ HI5.out Tryz.underlying41 (by rfl) (by rw [u8s_size, HID.out.1]; exact cl_oid_load) ?_
   clear HI5
   go_wp2_with (with_reducible (show wpList _ _ _ (Oper.mk _ (Op.call (Call.mk (Callee.builtin Builtin.append) _ _)) _ _ _ _ :: _) _ _); refine pause ?_)
   unfold Paused
   have hx6 : Blk (w5.alloc (.cells #[.slice tA tn tc] 46)) w5.heap.size 46 #[.slice tA tn tc] := Blk.new w5 _ _
   have b6 : Below w5.heap.size w5 (w5.alloc (.cells #[.slice tA tn tc] 46)) := (Below.refl _ _).alloc (Nat.le_refl _) _
   have HW6 : Hid ((w5.alloc (.cells #[.slice tA tn tc] 46)).ownsRow w4.heap.size 46 1 (.slice Av k cv) k (((r.take k).map (tOf O)).map (·.val)) ∧ Below w4.heap.size w4 (w5.alloc (.cells #[.slice tA tn tc] 46))) := Lib.hid ⟨HW5.out.1.kept (only_of_below b6 none) (by cases hv : (Value.slice Av k cv).ownBlock with | none => exact Or.inl rfl | some g => exact Or.inr (by simp)), below_next HW5.out.2 b6⟩
   have HX6 := Lib.hid hx6
   clear hx6 b6 HW5 qL q1
   generalize w5.alloc (.cells #[.slice tA tn tc] 46) = w6 at HX6 HW6 ⊢
   generalize w5.heap.size = g6 at HX6 ⊢
   clear w5
   refine wpList_append_own w6 (by rfl) (.tmp 16) (.tmp 21) 30 (by rfl) w4.heap.size 46 iq _ 1 24 Tryz.underlying30 HIQ.out.1 HIQ.out.2.1 HIQ.out.2.2.1 HIQ.out.2.2.2 (by rfl) (by decide) (.slice Av k cv) k _ (by rfl) HW6.out.1 ⟨g6, 0, none⟩ 1 1 [.slice tA tn tc] (by rfl) (by rfl) (fun j u hj => by rw [Addr.add_mid, Nat.zero_add, HX6.out.cell j]; simpa using hj) (by simp [Value.oneCell']) (by have := HLT.out; have := HRL.out; have := HNR.out; unfold maxLen; omega) (by have := HLT.out; have := HRL.out; have := HNR.out; omega) HW6.out.2.size ?_
   intro v7 w7 ho hg _
   have HW7 : Hid (w7.ownsRow w4.heap.size 46 1 v7 (k + 1) (((r.take (k + 1)).map (tOf O)).map (·.val)) ∧ Below w4.heap.size w4 w7) := Lib.hid ⟨by rw [HVS.out]; exact ho, ⟨hg.os.trans HW6.out.2.os, hg.tape.trans HW6.out.2.tape, hg.output.trans HW6.out.2.output, Nat.le_trans HW6.out.2.size hg.size, fun b hb => (hg.block b (Nat.lt_of_lt_of_le hb HW6.out.2.size) (fun e => by have := (HW6.out.1.lt b e.symm).1; omega)).trans (HW6.out.2.block b hb)⟩⟩
   clear ho hg HW6 HX6
   simp only [Act.put]
   go_wp2
   go_roundw
   case rel => exact ⟨k + 1, HLT.out, by go_num, HW7⟩
   case measure => have h5 := HLT.out; simp [intOf]; omega
  ·obtain rfl : k = nr := by omega
   have i1 : ¬ ((k : Nat) : Int) < k := by omega
   have HF : Hid (TxPost w O (.returned (.slice Av k cv)) wr) := Lib.hid ⟨_, r, rfl, HKS.out, by
    rw [← HNR.out]
    have h := HW.out.1
    rw [HNR.out, List.take_length] at h
    rw [HNR.out]
    exact own_lower h HB4.out.size, below_next HB4.out HW.out.2⟩
   clear HW hk hge
   go_wp2
   go_ret
   exact HF.out
structure RSents (w : World) (a : Nat → Addr) : Prop where
 e : ESents w a
 m : w.cell? ⟨9, 0, none⟩ = some (ev (a 8))
 c : w.cell? ⟨10, 0, none⟩ = some (ev (a 9))
 s : w.cell? ⟨1, 0, none⟩ = some (ev (a 17))
 d : w.cell? ⟨19, 0, none⟩ = some (ev (a 19))
 f : w.cell? ⟨21, 0, none⟩ = some (ev (a 21))
theorem RSents.at_ {w0 w : World} {a : Nat → Addr} (h : RSents w0 a) (hb : Below w0.heap.size w0 w) : RSents w a :=
 ⟨h.e.at_ hb, (hb.cell (block_lt_of_cell h.m)).trans h.m, (hb.cell (block_lt_of_cell h.c)).trans h.c, (hb.cell (block_lt_of_cell h.s)).trans h.s, (hb.cell (block_lt_of_cell h.d)).trans h.d, (hb.cell (block_lt_of_cell h.f)).trans h.f⟩
def errV (a : Nat → Addr) (k : Nat) : Value := if k = 0 then .nilIface else ev (a (k - 1))
theorem SrcO.len {w : World} {v : Value} {n : Nat} {f : List Nat → Option Value} (h : SrcO w v n f) :
  ∃ c : Nat, (∀ ty, (Builtin.len_ #[63] ty #[v]).run Tryz.prog w = .ok (.int .i64 (c : Int)) w) ∧ Cnt Id32 f c ∧ c ≤ n := by
 rcases h with ⟨rfl, h0⟩ | ⟨b, rfl, h⟩
 ·exact ⟨0, fun ty => by kernel_rfl, Cnt.nil _ fun k _ => h0 k, Nat.zero_le _⟩
 ·obtain ⟨c, _, hc, hn⟩ := h.len Tryz.underlying63 63
  exact ⟨c, fun ty => by
   obtain ⟨c', h1, h2, _⟩ := h.len Tryz.underlying63 ty
   rw [h1, h2.uniq hc], hc, hn⟩
theorem SrcS.len {w : World} {v : Value} {n : Nat} {f : ByteArray → Option Value} (h : SrcS w v n f) :
  ∃ c : Nat, (∀ ty, (Builtin.len_ #[62] ty #[v]).run Tryz.prog w = .ok (.int .i64 (c : Int)) w) ∧ Cnt okS f c ∧ c ≤ n := by
 rcases h with ⟨rfl, h0⟩ | ⟨b, rfl, h⟩
 ·exact ⟨0, fun ty => by kernel_rfl, Cnt.nil _ fun k _ => h0 k, Nat.zero_le _⟩
 ·obtain ⟨c, _, hc, hn⟩ := h.len Tryz.underlying62 62
  exact ⟨c, fun ty => by
   obtain ⟨c', h1, h2, _⟩ := h.len Tryz.underlying62 ty
   rw [h1, h2.uniq hc], hc, hn⟩
def cellsJ (js : List Jt) : List Value := js.flatMap fun j => j.cs.toList
theorem ent_info : (Tryz.prog.info? 32).map (fun i => (i.zero, i.size, i.bytes)) = some (some (.agg zJ), 5, 72) := by kernel_rfl
theorem cellsJ_len {js : List Jt} (h5 : ∀ j ∈ js, j.cs.size = 5) : (cellsJ js).length = js.length * 5 := by
 induction js with
 | nil => rfl
 | cons u us ih =>
  have h1 : cellsJ (u :: us) = u.cs.toList ++ cellsJ us := List.flatMap_cons ..
  rw [h1, List.length_append, ih (fun v hv => h5 v (List.mem_cons_of_mem _ hv)), Array.length_toList, h5 u (List.mem_cons_self ..), List.length_cons]
  omega
theorem cellsJ_at {js : List Jt} (h5 : ∀ j ∈ js, j.cs.size = 5) {k : Nat} {j : Jt} (hk : js[k]? = some j) {i : Nat} (hi : i < 5) : (cellsJ js)[k * 5 + i]? = j.cs.toList[i]? := by
 obtain ⟨hk1, rfl⟩ := List.getElem?_eq_some_iff.1 hk
 have h := flat_get (fun j : Jt => j.cs.toList) 5 js (fun a ha => by rw [Array.length_toList]; exact h5 a ha) k hk1 i hi
 rw [Nat.mul_comm k 5]
 exact h
theorem JrT.five {w : World} {A : Option Addr} {n : Nat} {js : List Jt} (h : JrT w A n js) : ∀ j ∈ js, j.cs.size = 5 := fun j hj => (h.ok j hj).five
theorem JrT.cell {w : World} {b o n : Nat} {js : List Jt} (h : JrT w (some ⟨b, o, none⟩) n js) (h0 : 0 < n) {i : Nat} {u : Value} (hi : (cellsJ js)[i]? = some u) : w.cell? ⟨b, o + i, none⟩ = some u := by
 obtain ⟨b', o', ha, _, hx⟩ := h.row h0
 injection ha with ha
 injection ha with e1 e2 _
 subst e1 e2
 have hlen := (List.getElem?_eq_some_iff.1 hi).1
 rw [cellsJ_len h.five] at hlen
 have hk : i / 5 < js.length := by omega
 have hj := List.getElem?_eq_getElem hk
 have h1 := cellsJ_at h.five hj (i := i % 5) (by omega)
 rw [show i / 5 * 5 + i % 5 = i by omega, hi] at h1
 have h2 := hx (i / 5) _ hj (i % 5) u h1.symm
 rwa [show o + i / 5 * 5 + i % 5 = o + i by omega] at h2
theorem cellsJ_one {w : World} {A : Option Addr} {n : Nat} {js : List Jt} (h : JrT w A n js) : ∀ v ∈ cellsJ js, v.oneCell' = true := fun v hv => by
 obtain ⟨j, hj, hv⟩ := List.mem_flatMap.1 hv
 have h1 := (h.ok j hj).oneJ
 rw [Array.all_eq_true_iff_forall_mem] at h1
 exact h1 v (by simpa using hv)
set_option maxRecDepth 100000 in
set_option maxHeartbeats 2000000 in
theorem cloneJ_any (js : List Jt) (A : Option Addr) (n c : Nat) (w : World) (hx : JrT w A n js) (hA0 : A = none → n = 0) (hn : n ≤ 100000) :
  Calls Tryz.prog 21 #[.slice A n c] w fun e w' => ∃ v, e = .returned v ∧ w'.ownsRow w.heap.size 32 5 v n (cellsJ js) ∧ Below w.heap.size w w' := by
 have qT : ∀ (w : World) (a : Option Addr) (n c n' c' : Nat), (binOp .eql 22 (.slice a n c) (.slice none n' c')).run Tryz.prog w = .ok (.bool a.isNone) w := fun w a n c n' c' => Lib.run_eql_slice_nil w _ _ a n c n' c' Tryz.underlying22
 have hl := hx.len
 cases A with
 | none =>
  have h0 := hA0 rfl
  have HE : Hid (js = []) := Lib.hid (List.eq_nil_of_length_eq_zero (by omega))
  subst h0
  clear hx hA0 hl
  go_enter Tryz.func21, Tryz.ntmps21
  go_wp2
  go_ret
  exact ⟨_, rfl, by rw [HE.out]; exact World.ownsRow_nil _ _ _ _, Below.refl _ _⟩
 | some ad =>
  have HX := Lib.hid hx
  have HL : Hid ((cellsJ js).length = n * 5) := Lib.hid (by rw [cellsJ_len hx.five, hl])
  have HN := Lib.hid hn
  obtain ⟨ip, hip, hpz, hps, hpb⟩ := info_parts ent_info
  have HIP : Hid (_ ∧ _ ∧ _ ∧ _) := Lib.hid ⟨hip, hpz, hps, hpb⟩
  have bb : Below w.heap.size w (w.alloc (.cells #[] 32)) := (Below.refl _ _).alloc (Nat.le_refl _) _
  have HO := Lib.hid (own_none w w.heap.size 32 5 (Nat.le_refl _))
  have HB := Lib.hid bb
  clear hx hA0 hl hip hpz hps hpb bb
  go_enter Tryz.func21, Tryz.ntmps21
  go_wp2_with (with_reducible (show wpList _ _ _ (Oper.mk _ (Op.call (Call.mk (Callee.builtin Builtin.append) _ _)) _ _ _ _ :: _) _ _); refine pause ?_)
  unfold Paused
  refine wpList_append_own (w.alloc (.cells #[] 32)) (by rfl) (.tmp 5) (.tmp 6) 22 (by rfl) w.heap.size 32 ip _ 5 72 Tryz.underlying22 HIP.out.1 HIP.out.2.1 HIP.out.2.2.1 HIP.out.2.2.2 (by rfl) (by decide) (.slice (some ⟨w.heap.size, 0, none⟩) 0 0) 0 [] (by rfl) HO.out ad n c (cellsJ js) (by rfl) HL.out (fun j u hj => ?_) (cellsJ_one HX.out) (by have := HN.out; unfold maxLen; omega) (by have := HN.out; omega) HB.out.size ?_
  ·have hj0 : 0 < n := by
    have h1 := (List.getElem?_eq_some_iff.1 hj).1
    have h2 := HL.out
    omega
   obtain ⟨b, o, ha, hb, _⟩ := HX.out.row hj0
   injection ha with ha
   subst ha
   rw [Addr.add_mid]
   exact (HB.out.cell (p := ⟨b, o + j, none⟩) hb).trans (HX.out.cell hj0 hj)
  intro v' w' ho hg _
  have HR : Hid (w'.ownsRow w.heap.size 32 5 v' n (cellsJ js)) := Lib.hid (by
   rw [Nat.zero_add, List.nil_append] at ho
   exact ho)
  have HB2 : Hid (Below w.heap.size w w') := Lib.hid (below_of_only HB.out hg (by simp))
  clear ho hg
  simp only [Act.put]
  go_wp2
  go_ret
  exact ⟨_, rfl, HR.out, HB2.out⟩
theorem rp_size {j rf ob : Value} {ls : List Nat} (h : ls.length = 8) : (Tryz.prog.info? 67).map (·.size) = some (rpC j ls rf ob).toArray.size := by
 have e : (rpC j ls rf ob).toArray.size = 11 := by simp [rpC, h]
 have h0 : (Tryz.prog.info? 67).map (·.size) = some 11 := by kernel_rfl
 rw [e]
 exact h0
def zRp : Array Value := (rpC (.slice none 0 0) (List.replicate 8 0) (.map none) (.map none)).toArray
theorem rp_one {A : Option Addr} {n c : Nat} {rf ob : Value} {ls : List Nat} (h1 : rf.oneCell' = true) (h2 : ob.oneCell' = true) : ((rpC (.slice A n c) ls rf ob).toArray).all (·.oneCell') = true := by
 have h3 : ∀ n : Nat, (Value.int .i64 (n : Int)).oneCell' = true := fun _ => rfl
 have h4 : (Value.slice A n c).oneCell' = true := rfl
 simp only [rpC, List.all_toArray, List.all_cons, List.all_append, List.all_map, List.all_nil, h1, h2, h4, Bool.and_true, Bool.true_and, List.all_eq_true]
 exact fun x _ => h3 x
set_option maxRecDepth 100000 in
set_option maxHeartbeats 4000000 in
theorem copy_any (r : Nat) (A : Option Addr) (n c : Nat) (ls : List Nat) (rf ob : Value) (js : List Jt) (w : World) (h : RpM w r (.slice A n c) ls rf ob) (hx : JrT w A n js) (hA0 : A = none → n = 0) (hn : n ≤ 100000) (o1 : rf.oneCell' = true) (o2 : ob.oneCell' = true) :
  Calls Tryz.prog 8 #[.pointer (some ⟨r, 0, none⟩)] w fun e w' => ∃ v, e = .returned (.pointer (some ⟨w.heap.size, 0, none⟩)) ∧ RpM w' w.heap.size v ls rf ob ∧ w'.ownsRow (w.heap.size + 1) 32 5 v n (cellsJ js) ∧ Below w.heap.size w w' := by
 have HR := Lib.hid h
 have HX := Lib.hid hx
 have HA0 := Lib.hid hA0
 have HN := Lib.hid hn
 have HO1 := Lib.hid (rp_one (A := A) (n := n) (c := c) (ls := ls) o1 o2)
 have HSZ : Hid ((rpC (.slice A n c) ls rf ob).toArray.size = 11) := Lib.hid (by simp [rpC, h.len])
 clear h hx hA0 hn o1 o2
 go_enter Tryz.func8, Tryz.ntmps8
 go_wp2_with (with_reducible (show wpList _ _ _ (Oper.mk _ (Op.load 67 _) _ _ _ _ :: _) _ _); refine pause ?_)
 unfold Paused
 refine wpList_row_w (by rfl) 67 (.tmp 5) (by rfl) r (by rfl) 67 (rpC (.slice A n c) ls rf ob).toArray _ HR.out.blk Tryz.underlying67 (by rfl) (rp_size HR.out.len) ?_
 go_wp2_with (with_reducible (show wpList _ _ _ (Oper.mk _ (Op.store 67 _ _) _ _ _ _ :: _) _ _); refine pause ?_)
 unfold Paused
 change wpList _ _ _ _ _ (w.alloc (.cells zRp 67))
 refine wpList_store_row (by rfl) 67 (.tmp 3) (.tmp 6) (by rfl) w.heap.size (rpC (.slice A n c) ls rf ob).toArray (by rfl) (by rfl) 67 zRp (Blk.new w _ _) (rp_size HR.out.len) (by rw [HSZ.out]; rfl) HO1.out ?_
 have b6 : Below w.heap.size w ((w.alloc (.cells zRp 67)).setRow w.heap.size (rpC (.slice A n c) ls rf ob).toArray) := below_row ((Below.refl _ _).alloc (Nat.le_refl _) _) (Nat.le_refl _) _
 have z6 : ((w.alloc (.cells zRp 67)).setRow w.heap.size (rpC (.slice A n c) ls rf ob).toArray).heap.size = w.heap.size + 1 := by simp
 have hI6 : Blk ((w.alloc (.cells zRp 67)).setRow w.heap.size (rpC (.slice A n c) ls rf ob).toArray) w.heap.size 67 (rpC (.slice A n c) ls rf ob).toArray := (Blk.new w _ _).row _
 generalize (w.alloc (.cells zRp 67)).setRow w.heap.size (rpC (.slice A n c) ls rf ob).toArray = w6 at hI6 b6 z6 ⊢
 have c0 : w6.cell? ⟨r, 0, none⟩ = some (.slice A n c) := (b6.cell (p := ⟨r, 0, none⟩) HR.out.lt).trans HR.out.at0
 have CC := cloneJ_any js A n c w6 (HX.out.below b6) HA0.out HN.out
 have HB6 := Lib.hid b6
 have HI6 := Lib.hid hI6
 have HZ6 := Lib.hid z6
 clear b6 hI6 z6
 simp only [Act.put]
 go_wp2_with (go_at_call 21; refine pause ?_)
 unfold Paused
 refine CC.mono ?_
 rintro e w7 ⟨v, rfl, ho, hb⟩
 obtain ⟨A7, c7, rfl⟩ := cl_own_slice ho
 have hI7 : Blk w7 w.heap.size 67 (rpC (.slice A n c) ls rf ob).toArray := HI6.out.below hb HI6.out.lt
 have d0 : w7.cell? ⟨w.heap.size, 0, none⟩ = some (.slice A n c) := by rw [hI7.cell]; rfl
 have d1 := hI7.frozen 0
 have HI7 := Lib.hid hI7
 have HB7 := Lib.hid (below_next HB6.out hb)
 have HO7 : Hid (w7.ownsRow (w.heap.size + 1) 32 5 (.slice A7 n c7) n (cellsJ js)) := Lib.hid (by rw [HZ6.out] at ho; exact ho)
 clear ho hb CC hI7
 go_wp2
 go_ret
 refine ⟨_, rfl, ⟨?_, HR.out.len⟩, ownsRow_far HO7.out (Nat.lt_succ_self _) _, HB7.out.setCell (p := ⟨w.heap.size, 0, none⟩) (Nat.le_refl _) _⟩
 have h := HI7.out.set_ 0 (.slice A7 n c7)
 exact h
end Go.Proofs.YtgcgomdhdgjpdaaGreatDoor
