/- The law RepoWhole. -/
import Derived.Test.YtgcgomdhdgjpdaaGreatDoorMRp29s
import Derived.Test.YtgcgomdhdgjpdaaGreatDoorMEn19s
namespace Go.Proofs.YtgcgomdhdgjpdaaGreatDoor
open Go Go.RowKit Go.Maps
theorem RpX.copied {w w' : World} {r r2 : Nat} {A A2 : Option Addr} {c c2 : Nat} {rf ob : Value} {N M : Nat} {js : List Jt} {O : List Nat → Option Cl.T} {s : Rp.St} (h : RpX w r A c rf ob N M js O s) (hb : Below w.heap.size w w') (hr : RpM w' r2 (.slice A2 js.length c2) (Rp.lastsOf s.js) rf ob) (ho : w'.ownsRow (r2 + 1) 32 5 (.slice A2 js.length c2) js.length (cellsJ js)) : RpX w' r2 A2 c2 rf ob N M js O s :=
 have h1 := h.below hb
 ⟨hr, ho, h1.es, h1.ent, h1.refs, h1.objs, h1.txt, h1.oeq, h1.good, h1.lim⟩
theorem RpX.apart {w w' : World} {r r2 : Nat} {A A2 : Option Addr} {c c2 n : Nat} {rf ob : Value} {N M : Nat} {js : List Jt} {O : List Nat → Option Cl.T} {s : Rp.St} (h : RpX w r2 A2 c2 rf ob N M js O s) (hr : r < r2) (hg : ∀ g, jB A n c = some g → g < r2) (hn : NoK w (tnP r A n c)) (k : KeptP (tnP r A n c) w w') : RpX w' r2 A2 c2 rf ob N M js O s := by
 refine h.kept k hn (fun hp => ?_) (fun g hgg hp => ?_)
 ·rcases hp with hp | hp
  ·omega
  ·have := hg r2 hp.symm; omega
 ·have h3 := (h.own.lt g hgg).1
  rcases hp with hp | hp
  ·omega
  ·have := hg g hp.symm; omega
def zRf : Array Value := (cellsE1 ⟨⟨#[]⟩, List.replicate 32 0⟩).toArray
theorem refs_one (en : Ent) : ((cellsE1 en).toArray).all (·.oneCell') = true := by
 rw [Array.all_eq_true_iff_forall_mem]
 intro v hv
 simp only [List.mem_toArray, cellsE1, cellsB, List.mem_cons, List.mem_map] at hv
 rcases hv with rfl | ⟨q, _, rfl⟩ <;> rfl
theorem refs_rng {w : World} {g : Nat} {en : Ent} (_hi : Id32 en.id) (h : Blk w g 43 (cellsE1 en).toArray) : w.rangeAt g 1 (cellsB en.id) := fun j v hj => by
 rw [h.cell, List.getElem?_toArray, cellsE1, Nat.add_comm, List.getElem?_cons_succ]
 exact hj
theorem ref_elem {w : World} {A : Option Addr} {n c : Nat} {ss : List (List UInt8)} {f : ByteArray → Option (List Nat)} {m : Nat} (h : RdK w (.slice A n c) n (cellsE (ss.map (refE f)))) (hn : n = ss.length) (hid : ∀ x ∈ ss, Id32 (refE f x).id) (hm : m < n) :
  ∃ en b o, A = some ⟨b, o, none⟩ ∧ b < w.heap.size ∧ w.rangeAt b (o + m * 33) (cellsE1 en) ∧ ∃ x ∈ ss, en = refE f x := by
 have hml : m < (ss.map (refE f)).length := by rw [List.length_map, ← hn]; exact hm
 obtain ⟨b, o, ha, hb, hr⟩ := h.ent (by rw [List.length_map]; exact hn) (fun e he => by
  obtain ⟨x, hx, rfl⟩ := List.mem_map.1 he
  exact hid x hx) hml
 obtain ⟨x, hx, he⟩ := List.mem_map.1 (List.getElem_mem hml)
 exact ⟨_, b, o, ha, hb, hr, x, hx, he.symm⟩
set_option maxRecDepth 100000 in
set_option maxHeartbeats 8000000 in
theorem rwhole_law (A : Option Addr) (n c : Nat) (js : List Jt) (a : Nat → Addr) (w : World) (h : JrO w A n js) (hn : n * 72 ≤ 140737488355328) (ht : Tabs w) (hS : RSents w a) (hm : MaxAt w) :
  Calls Tryz.prog 3 #[.slice A n c] w fun e w' => e = .returned (.bool true) ∧ Below w.heap.size w w' := by
 have CA := ralive_any a w ht hS hm
 have H := Lib.hid h
 have HN := Lib.hid hn
 have HT := Lib.hid ht
 have HS := Lib.hid hS
 have HM := Lib.hid hm
 clear h hn ht hS hm
 go_enter Tryz.func3, Tryz.ntmps3
 go_wp2_with (go_at_call 5; refine pause ?_)
 unfold Paused
 refine CA.mono ?_
 rintro e w1 ⟨rfl, hb1⟩
 have HB1 := Lib.hid hb1
 have CE := ents_any A n c js w1 (H.out.below hb1) HN.out
 unfold EsPost at CE
 clear CA hb1
 go_wp2_with (go_at_call 6; refine pause ?_)
 unfold Paused
 refine CE.mono ?_
 rintro e w2 ⟨v2, β, rfl, hβ, hb2⟩
 have HB2 := Lib.hid (below_next HB1.out hb2)
 clear CE hb2 HB1
 clear w1
 cases β with
 | false =>
  clear hβ
  go_wp2
  go_ret
  exact ⟨rfl, HB2.out⟩
 | true =>
  have HBT := Lib.hid (hβ rfl)
  have CN := new_any w2
  clear hβ
  go_wp2_with (go_at_call 7; refine pause ?_)
  unfold Paused
  refine CN.mono ?_
  rintro e w3 ⟨rfl, hr3, hb3⟩
  have HX3 := Lib.hid (RpX.fresh hr3)
  have HB3 := Lib.hid (below_next HB2.out hb3)
  obtain ⟨r, hr⟩ : ∃ r, r = w2.heap.size := ⟨_, rfl⟩
  rw [← hr] at HX3 ⊢
  have HWR : Hid (w.heap.size ≤ r) := Lib.hid (by rw [hr]; exact HB2.out.size)
  clear CN hr3 hb3 hr HB2
  clear w2
  go_wp2_with fail
  go_loopw [27] (fun i wr => ∃ k : Nat, k ≤ n ∧ i = .int .i64 k ∧ ∃ Aj cj rf ob N M jj O s, Hid (RpX wr r Aj cj rf ob N M jj O s ∧ jj.length ≤ k ∧ Below w.heap.size w wr)) (fun i _ => n - (intOf i).toNat)
  case atStart => exact ⟨0, Nat.zero_le _, rfl, _, _, _, _, _, _, _, _, _, Lib.hid ⟨HX3.out, Nat.le_refl _, HB3.out⟩⟩
  case round =>
   obtain ⟨k, hk, rfl, Aj, cj, rf, ob, N, M, jj, O, s, HR⟩ := hrel
   clear HX3 HB3
   clear w3
   rcases Nat.lt_or_ge k n with hlt | hge
   ·have hkl : k < js.length := by rw [← H.out.len]; exact hlt
    have i1 : ((k : Nat) : Int) < n := by omega
    have i2 : (0 : Int) ≤ ((k : Nat) : Int) := by omega
    have i3 : ((k : Nat) : Int) < 2000000000000 := by have := HN.out; omega
    obtain ⟨b, o, rfl, hbl, hrow⟩ := H.out.row (by omega)
    have hrg : wr.rangeAt b (o + k * 5) js[k].cs.toList := fun i v hi => (HR.out.2.2.cell (p := ⟨b, o + k * 5 + i, none⟩) hbl).trans (hrow k js[k] (List.getElem?_eq_getElem hkl) i v hi)
    have hok := H.out.ok js[k] (List.getElem_mem hkl)
    have hfew := HBT.out.2 js[k] (List.getElem_mem hkl)
    generalize js[k] = j at hrg hok hfew
    have HRG := Lib.hid hrg
    have HOK := Lib.hid hok.1
    have H5 := Lib.hid hok.1.five
    have HU : Hid (j.e.ups.length ≤ 1000) := Lib.hid (by unfold En.few at hfew; simp only [Bool.and_eq_true, decide_eq_true_eq] at hfew; omega)
    have HLT : Hid (k + 1 ≤ n) := Lib.hid hlt
    have HJL : Hid (jj.length ≤ 40) := Lib.hid (by have := HR.out.2.1; have := HBT.out.1; omega)
    clear hkl hbl hrow hrg hok hfew hk hlt
    go_wp2_with (with_reducible (show wpList _ _ _ (Oper.mk _ (Op.load 32 _) _ _ _ _ :: _) _ _); refine pause ?_)
    unfold Paused
    refine wpList_mid_w (by rfl) 32 (.tmp 29) (by rfl) b (o + k * 5) (by rfl) j.cs.toList _ HRG.out Tryz.underlying32 (by rfl) (by rw [Array.length_toList]; exact ent_load H5.out) ?_
    clear HRG
    go_wp2_with (with_reducible (show wpList _ _ _ (Oper.mk _ (Op.store 32 _ _) _ _ _ _ :: _) _ _); refine pause ?_)
    unfold Paused
    change wpList _ _ _ _ _ (wr.alloc (.cells zJ 32))
    refine wpList_store_row (by rfl) 32 (.tmp 7) (.tmp 30) (by rfl) wr.heap.size j.cs (by rfl) (by rfl) 32 zJ (Blk.new wr _ _) (ent_load H5.out) (by rw [H5.out]; rfl) HOK.out.oneJ ?_
    have b6 : Below wr.heap.size wr ((wr.alloc (.cells zJ 32)).setRow wr.heap.size j.cs) := below_row ((Below.refl _ _).alloc (Nat.le_refl _) _) (Nat.le_refl _) _
    have HI6 : Hid (Blk ((wr.alloc (.cells zJ 32)).setRow wr.heap.size j.cs) wr.heap.size 32 j.cs) := Lib.hid ((Blk.new wr _ _).row _)
    have HX6 := Lib.hid (HR.out.1.below b6)
    have HB6 := Lib.hid (below_next HR.out.2.2 b6)
    have HJK := Lib.hid HR.out.2.1
    clear b6 HR
    generalize (wr.alloc (.cells zJ 32)).setRow wr.heap.size j.cs = w6 at HI6 HX6 HB6 ⊢
    generalize wr.heap.size = g6 at HI6 ⊢
    clear wr
    simp only [Act.put]
    have CC := copy_any r Aj jj.length cj (Rp.lastsOf s.js) rf ob jj w6 HX6.out.rp HX6.out.rt HX6.out.nil_none (by have := HJL.out; omega) HX6.out.one.1 HX6.out.one.2
    go_wp2_with (go_at_call 8; refine pause ?_)
    unfold Paused
    refine CC.mono ?_
    rintro e w7 ⟨v7, rfl, hr7, ho7, hb7⟩
    obtain ⟨A7, c7, rfl⟩ := own_slice ho7
    have HX7 := Lib.hid (HX6.out.below hb7)
    have HO7 := Lib.hid (HX6.out.copied hb7 hr7 ho7)
    have HJ7 := Lib.hid (HX6.out.jlt)
    have HI7 := Lib.hid (HI6.out.below hb7 HI6.out.lt)
    have HB7 := Lib.hid (below_next HB6.out hb7)
    have HZ7 : Hid (g6 < w6.heap.size) := Lib.hid HI6.out.lt
    obtain ⟨r2, hr2⟩ : ∃ r2, r2 = w6.heap.size := ⟨_, rfl⟩
    rw [← hr2] at HO7 HJ7 HZ7 ⊢
    clear CC hr7 ho7 hb7 HI6 HX6 HB6 hr2
    clear w6
    have CS := seq_any r Aj jj.length cj (Rp.lastsOf s.js) rf ob w7 HX7.out.rp
    go_wp2_with (go_at_call 9; refine pause ?_)
    unfold Paused
    refine CS.mono ?_
    rintro e w8 ⟨rfl, rfl⟩
    clear CS
    have CP := apply_any r Aj cj rf ob N M jj O s j.e j.cs j.U j.O j.cu j.co j.ts a w7 HX7.out (HOK.out.below HB7.out) HU.out HJL.out (HT.out.below HB7.out (Nat.le_refl _)) (HS.out.at_ HB7.out) (HM.out.below HB7.out (Nat.le_refl _))
    unfold ApPost at CP
    go_wp2_with (with_reducible (show wpList _ _ _ (Oper.mk _ (Op.load 32 _) _ _ _ _ :: _) _ _); refine pause ?_)
    unfold Paused
    refine wpList_row_w (by rfl) 32 (.tmp 7) (by rfl) g6 (by rfl) 32 j.cs _ HI7.out Tryz.underlying32 (by rfl) (ent_load H5.out) ?_
    go_wp2_with (go_at_call 10; refine pause ?_)
    unfold Paused
    refine CP.mono ?_
    rintro e w8 ⟨rfl, ⟨A8, c8, rf8, ob8, N8, M8, j8, O8, hx8⟩, hk8⟩
    have hb8 : Below w.heap.size w w8 := by
     have hx := HX7.out
     have h := hk8.below (B := w.heap.size) (fun j hj => by
      rcases hj with hj | hj
      ·have := HWR.out; omega
      ·have := (hx.own.lt j hj.symm).1; have := HWR.out; omega) HB7.out.size
     exact ⟨h.os.trans HB7.out.os, h.tape.trans HB7.out.tape, h.output.trans HB7.out.output, Nat.le_trans HB7.out.size h.size, fun k hk => (h.block k hk).trans (HB7.out.block k hk)⟩
    have HB8 := Lib.hid hb8
    have HO8 := Lib.hid (HO7.out.apart HJ7.out.1 HJ7.out.2 HX7.out.nok hk8)
    have HX8 := Lib.hid hx8
    clear hb8 hx8 hk8 CP HX7 HO7 HJ7 HB7 HI7
    clear w7
    obtain ⟨q, hq⟩ : ∃ q, q = Rp.step s j.e := ⟨_, rfl⟩
    rw [← hq]
    have HQ := Lib.hid hq
    clear hq
    have HL8 : Hid (j8.length ≤ jj.length + 1) := Lib.hid (by
     have h1 : (Rp.next s j.e).js.length ≤ s.js.length + 1 := by
      unfold Rp.next
      split
      ·rw [Rp.put_js, List.length_append]; exact Nat.le_refl _
      ·omega
     rw [HX8.out.len, HO8.out.len]
     exact h1)
    go_upto_region 13 with fail
    go_cut [61] from 38 to 61 (fun v wx => v = .bool false ∧ Hid (RpX wx r A8 c8 rf8 ob8 N8 M8 j8 O8 (Rp.next s j.e) ∧ Below w.heap.size w wx))
    case first =>
     have hbd : Below w8.heap.size w8 w8.drew := below_drewN (Below.refl _ _) 1
     have HX9 := Lib.hid (HX8.out.below hbd)
     have HO9 := Lib.hid (HO8.out.below hbd)
     have HB9 := Lib.hid (below_next HB8.out hbd)
     have CO := seq_any r2 A7 jj.length c7 (Rp.lastsOf s.js) rf ob w8.drew HO9.out.rp
     have CN := seq_any r A8 j8.length c8 (Rp.lastsOf (Rp.next s j.e).js) rf8 ob8 w8.drew HX9.out.rp
     have HWR1 : Hid (wrap64 ((jj.length : Int) + 1) = ((jj.length + 1 : Nat) : Int) ∧ IntKind.i64.wrap ((jj.length : Int) + 1) = ((jj.length + 1 : Nat) : Int)) := Lib.hid (by
      have h := HJL.out
      have h1 : wrap64 ((jj.length : Int) + 1) = ((jj.length + 1 : Nat) : Int) := by rw [IntWalk.wrap64_in _ (by omega)]; omega
      exact ⟨h1, (IntWalk.i64_left _).trans h1⟩)
     have HSX : Hid True := Lib.hid trivial
     cases q with
     | zero =>
      have hl : j8.length = jj.length + 1 := by
       have h1 : Rp.next s j.e = Rp.put s j.e := by unfold Rp.next; rw [if_pos HQ.out.symm]
       rw [HX9.out.len, h1, Rp.put_js, List.length_append, ← HO9.out.len]; rfl
      have e1 : errV a 0 = .nilIface := rfl
      rw [e1]
      rw [hl] at CN
      clear e1 hl hbd HO8 HX8 HB8
      refine wp_region_upto (S := fun _ => True) (b := 99) (by kernel_rfl) ?_
      change Upto _ _ _ _ _ _ _ _ _ w8.drew
      generalize w8.drew = w9 at CO CN HX9 HO9 HB9 ⊢
      refine Upto.takeY (i := 0) (v := ?_) rfl (by kernel_rfl) (by kernel_rfl) (by kernel_rfl) (by kernel_rfl) (fun _ _ _ h => h) (Or.inl ⟨by rfl, ?_⟩) (fun _ => HSX.out) ?_
      rotate_left
      ·intro w' _; go_simp; with_reducible rfl
      try simp only [Act.put, List.getElem_toArray, List.getElem_cons_zero, List.setIfInBounds_toArray, List.set_cons_zero, List.set_cons_succ]
      refine Upto.takeY (i := 2) (v := ?_) rfl (by kernel_rfl) (by kernel_rfl) (by kernel_rfl) (by kernel_rfl) (fun _ _ _ h => h) (Or.inl ⟨by rfl, ?_⟩) (fun _ => HSX.out) ?_
      rotate_left
      ·intro w' _; go_simp; with_reducible rfl
      try simp only [Act.put, List.getElem_toArray, List.getElem_cons_zero, List.getElem_cons_succ, List.setIfInBounds_toArray, List.set_cons_zero, List.set_cons_succ]
      refine Upto.one (i := 1) (by kernel_rfl) rfl (by rfl) (fun K hK => ?_)
      go_simp
      refine CO.mono ?_
      rintro e wq ⟨rfl, hwq⟩
      subst hwq
      refine hK _ _ (fun _ _ => trivial) ?_
      clear hK
      try simp only [Act.put, List.getElem_toArray, List.getElem_cons_zero, List.getElem_cons_succ, List.setIfInBounds_toArray, List.set_cons_zero, List.set_cons_succ]
      refine Upto.takeY (i := 3) (v := .bool false) rfl (by kernel_rfl) (by kernel_rfl) (by kernel_rfl) (by kernel_rfl) (fun _ _ _ h => h) (Or.inl ⟨by rfl, ?_⟩) (fun _ => HSX.out) ?_
      ·intro w' _; simp; first | (go_simp; done) | (go_simp; with_reducible rfl)
      try simp only [Act.put, List.getElem_toArray, List.getElem_cons_zero, List.getElem_cons_succ, List.setIfInBounds_toArray, List.set_cons_zero, List.set_cons_succ]
      refine Upto.takeY (i := 4) (v := ?_) rfl (by kernel_rfl) (by kernel_rfl) (by kernel_rfl) (by kernel_rfl) (fun _ _ _ h => h) (Or.inl ⟨by rfl, ?_⟩) (fun _ => HSX.out) ?_
      rotate_left
      ·intro w' _; go_simp; with_reducible rfl
      try simp only [Act.put, List.getElem_toArray, List.getElem_cons_zero, List.getElem_cons_succ, List.setIfInBounds_toArray, List.set_cons_zero, List.set_cons_succ]
      refine Upto.takeY (i := 5) (v := ?_) rfl (by kernel_rfl) (by kernel_rfl) (by kernel_rfl) (by kernel_rfl) (fun _ _ _ h => h) (Or.inl ⟨by rfl, ?_⟩) (fun _ => HSX.out) ?_
      rotate_left
      ·intro w' _; go_simp; with_reducible rfl
      try simp only [Act.put, List.getElem_toArray, List.getElem_cons_zero, List.getElem_cons_succ, List.setIfInBounds_toArray, List.set_cons_zero, List.set_cons_succ]
      refine Upto.takeY (i := 6) (v := .bool true) rfl (by kernel_rfl) (by kernel_rfl) (by kernel_rfl) (by kernel_rfl) (fun _ _ _ h => h) (Or.inl ⟨by rfl, ?_⟩) (fun _ => HSX.out) ?_
      ·intro w' _; skip; first | (go_simp; done) | (go_simp; with_reducible rfl)
      try simp only [Act.put, List.getElem_toArray, List.getElem_cons_zero, List.getElem_cons_succ, List.setIfInBounds_toArray, List.set_cons_zero, List.set_cons_succ]
      refine Upto.takeY (i := 7) (v := ?_) rfl (by kernel_rfl) (by kernel_rfl) (by kernel_rfl) (by kernel_rfl) (fun _ _ _ h => h) (Or.inl ⟨by rfl, ?_⟩) (fun _ => HSX.out) ?_
      rotate_left
      ·intro w' _; go_simp; with_reducible rfl
      try simp only [Act.put, List.getElem_toArray, List.getElem_cons_zero, List.getElem_cons_succ, List.setIfInBounds_toArray, List.set_cons_zero, List.set_cons_succ]
      refine Upto.takeY (i := 9) (v := ?_) rfl (by kernel_rfl) (by kernel_rfl) (by kernel_rfl) (by kernel_rfl) (fun _ _ _ h => h) (Or.inl ⟨by rfl, ?_⟩) (fun _ => HSX.out) ?_
      rotate_left
      ·intro w' _; go_simp; with_reducible rfl
      try simp only [Act.put, List.getElem_toArray, List.getElem_cons_zero, List.getElem_cons_succ, List.setIfInBounds_toArray, List.set_cons_zero, List.set_cons_succ]
      refine Upto.takeY (i := 10) (v := .int .i64 ((jj.length + 1 : Nat) : Int)) rfl (by kernel_rfl) (by kernel_rfl) (by kernel_rfl) (by kernel_rfl) (fun _ _ _ h => h) (Or.inl ⟨by rfl, ?_⟩) (fun _ => HSX.out) ?_
      ·intro w' _; have h0 := HWR1.out; first | (go_simp; done) | (go_simp; with_reducible rfl)
      try simp only [Act.put, List.getElem_toArray, List.getElem_cons_zero, List.getElem_cons_succ, List.setIfInBounds_toArray, List.set_cons_zero, List.set_cons_succ]
      refine Upto.one (i := 8) (by kernel_rfl) rfl (by rfl) (fun K hK => ?_)
      go_simp
      refine CN.mono ?_
      rintro e wq ⟨rfl, hwq⟩
      subst hwq
      refine hK _ _ (fun _ _ => trivial) ?_
      clear hK
      try simp only [Act.put, List.getElem_toArray, List.getElem_cons_zero, List.getElem_cons_succ, List.setIfInBounds_toArray, List.set_cons_zero, List.set_cons_succ]
      refine Upto.takeY (i := 11) (v := .bool true) rfl (by kernel_rfl) (by kernel_rfl) (by kernel_rfl) (by kernel_rfl) (fun _ _ _ h => h) (Or.inl ⟨by rfl, ?_⟩) (fun _ => HSX.out) ?_
      ·intro w' _; simp; first | (go_simp; done) | (go_simp; with_reducible rfl)
      try simp only [Act.put, List.getElem_toArray, List.getElem_cons_zero, List.getElem_cons_succ, List.setIfInBounds_toArray, List.set_cons_zero, List.set_cons_succ]
      refine Upto.takeY (i := 12) (v := .bool false) rfl (by kernel_rfl) (by kernel_rfl) (by kernel_rfl) (by kernel_rfl) (fun _ _ _ h => h) (Or.inl ⟨by rfl, ?_⟩) (fun _ => HSX.out) ?_
      ·intro w' _; skip; first | (go_simp; done) | (go_simp; with_reducible rfl)
      try simp only [Act.put, List.getElem_toArray, List.getElem_cons_zero, List.getElem_cons_succ, List.setIfInBounds_toArray, List.set_cons_zero, List.set_cons_succ]
      refine Upto.takeY (i := 13) (v := ?_) rfl (by kernel_rfl) (by kernel_rfl) (by kernel_rfl) (by kernel_rfl) (fun _ _ _ h => h) (Or.inl ⟨by rfl, ?_⟩) (fun _ => HSX.out) ?_
      rotate_left
      ·intro w' _; go_simp; with_reducible rfl
      try simp only [Act.put, List.getElem_toArray, List.getElem_cons_zero, List.getElem_cons_succ, List.setIfInBounds_toArray, List.set_cons_zero, List.set_cons_succ]
      refine Upto.takeY (i := 14) (v := ?_) rfl (by kernel_rfl) (by kernel_rfl) (by kernel_rfl) (by kernel_rfl) (fun _ _ _ h => h) (Or.inl ⟨by rfl, ?_⟩) (fun _ => HSX.out) ?_
      rotate_left
      ·intro w' _; go_simp; with_reducible rfl
      try simp only [Act.put, List.getElem_toArray, List.getElem_cons_zero, List.getElem_cons_succ, List.setIfInBounds_toArray, List.set_cons_zero, List.set_cons_succ]
      refine Upto.takeY (i := 15) (v := ?_) rfl (by kernel_rfl) (by kernel_rfl) (by kernel_rfl) (by kernel_rfl) (fun _ _ _ h => h) (Or.inl ⟨by rfl, ?_⟩) (fun _ => HSX.out) ?_
      rotate_left
      ·intro w' _; go_simp; with_reducible rfl
      try simp only [Act.put, List.getElem_toArray, List.getElem_cons_zero, List.getElem_cons_succ, List.setIfInBounds_toArray, List.set_cons_zero, List.set_cons_succ]
      refine Upto.takeY (i := 16) (v := .bool false) rfl (by kernel_rfl) (by kernel_rfl) (by kernel_rfl) (by kernel_rfl) (fun _ _ _ h => h) (Or.inl ⟨by rfl, ?_⟩) (fun _ => HSX.out) ?_
      ·intro w' _; skip; first | (go_simp; done) | (go_simp; with_reducible rfl)
      try simp only [Act.put, List.getElem_toArray, List.getElem_cons_zero, List.getElem_cons_succ, List.setIfInBounds_toArray, List.set_cons_zero, List.set_cons_succ]
      refine Upto.takeY (i := 17) (v := ?_) rfl (by kernel_rfl) (by kernel_rfl) (by kernel_rfl) (by kernel_rfl) (fun _ _ _ h => h) (Or.inl ⟨by rfl, ?_⟩) (fun _ => HSX.out) ?_
      rotate_left
      ·intro w' _; go_simp; with_reducible rfl
      try simp only [Act.put, List.getElem_toArray, List.getElem_cons_zero, List.getElem_cons_succ, List.setIfInBounds_toArray, List.set_cons_zero, List.set_cons_succ]
      refine Upto.takeY (i := 18) (v := undef) rfl (by kernel_rfl) (by kernel_rfl) (by kernel_rfl) (by kernel_rfl) (fun _ _ _ h => h) (Or.inr ⟨by rfl, rfl⟩) (fun _ => HSX.out) ?_
      try simp only [Act.put, List.getElem_toArray, List.getElem_cons_zero, List.getElem_cons_succ, List.setIfInBounds_toArray, List.set_cons_zero, List.set_cons_succ]
      refine Upto.takeY (i := 19) (v := undef) rfl (by kernel_rfl) (by kernel_rfl) (by kernel_rfl) (by kernel_rfl) (fun _ _ _ h => h) (Or.inr ⟨by rfl, rfl⟩) (fun _ => HSX.out) ?_
      try simp only [Act.put, List.getElem_toArray, List.getElem_cons_zero, List.getElem_cons_succ, List.setIfInBounds_toArray, List.set_cons_zero, List.set_cons_succ]
      refine Upto.takeY (i := 20) (v := undef) rfl (by kernel_rfl) (by kernel_rfl) (by kernel_rfl) (by kernel_rfl) (fun _ _ _ h => h) (Or.inr ⟨by rfl, rfl⟩) (fun _ => HSX.out) ?_
      try simp only [Act.put, List.getElem_toArray, List.getElem_cons_zero, List.getElem_cons_succ, List.setIfInBounds_toArray, List.set_cons_zero, List.set_cons_succ]
      refine Upto.takeY (i := 21) (v := undef) rfl (by kernel_rfl) (by kernel_rfl) (by kernel_rfl) (by kernel_rfl) (fun _ _ _ h => h) (Or.inr ⟨by rfl, rfl⟩) (fun _ => HSX.out) ?_
      try simp only [Act.put, List.getElem_toArray, List.getElem_cons_zero, List.getElem_cons_succ, List.setIfInBounds_toArray, List.set_cons_zero, List.set_cons_succ]
      refine Upto.takeY (i := 22) (v := ?_) rfl (by kernel_rfl) (by kernel_rfl) (by kernel_rfl) (by kernel_rfl) (fun _ _ _ h => h) (Or.inl ⟨by rfl, ?_⟩) (fun _ => HSX.out) ?_
      rotate_left
      ·intro w' _; go_simp; with_reducible rfl
      try simp only [Act.put, List.getElem_toArray, List.getElem_cons_zero, List.getElem_cons_succ, List.setIfInBounds_toArray, List.set_cons_zero, List.set_cons_succ]
      refine Upto.takeY (i := 23) (v := ?_) rfl (by kernel_rfl) (by kernel_rfl) (by kernel_rfl) (by kernel_rfl) (fun _ _ _ h => h) (Or.inl ⟨by rfl, ?_⟩) (fun _ => HSX.out) ?_
      rotate_left
      ·intro w' _; go_simp; with_reducible rfl
      try simp only [Act.put, List.getElem_toArray, List.getElem_cons_zero, List.getElem_cons_succ, List.setIfInBounds_toArray, List.set_cons_zero, List.set_cons_succ]
      refine Upto.done (by kernel_rfl) ?_ _
      go_wp2
      go_meet
      case rel => exact ⟨rfl, Lib.hid ⟨HX9.out, HB9.out⟩⟩
     | succ q =>
      have h1 : Rp.next s j.e = s := by unfold Rp.next; rw [if_neg (by rw [← HQ.out]; omega)]
      have hl : j8.length = jj.length := by rw [HX9.out.len, h1, ← HO9.out.len]
      have CM := same_any r2 r A7 A8 jj.length j8.length c7 c8 (Rp.lastsOf s.js) (Rp.lastsOf (Rp.next s j.e).js) rf ob rf8 ob8 jj j8 w8.drew HO9.out.rp HX9.out.rp HO9.out.rt HX9.out.rt (by have := HJL.out; omega)
      have e2 : eqv (jj.map (·.e)) (j8.map (·.e)) = true := eqv_true (by rw [HO9.out.es, HX9.out.es, h1])
      rw [e2] at CM
      have e1 : errV a (q + 1) = ev (a q) := rfl
      rw [e1]
      rw [hl] at CN
      clear e1 hl hbd HO8 HX8 HB8 h1 e2
      refine wp_region_upto (S := fun _ => True) (b := 99) (by kernel_rfl) ?_
      change Upto _ _ _ _ _ _ _ _ _ w8.drew
      generalize w8.drew = w9 at CO CN CM HX9 HO9 HB9 ⊢
      refine Upto.takeY (i := 0) (v := ?_) rfl (by kernel_rfl) (by kernel_rfl) (by kernel_rfl) (by kernel_rfl) (fun _ _ _ h => h) (Or.inl ⟨by rfl, ?_⟩) (fun _ => HSX.out) ?_
      rotate_left
      ·intro w' _; go_simp; with_reducible rfl
      try simp only [Act.put, List.getElem_toArray, List.getElem_cons_zero, List.setIfInBounds_toArray, List.set_cons_zero, List.set_cons_succ]
      refine Upto.takeY (i := 2) (v := ?_) rfl (by kernel_rfl) (by kernel_rfl) (by kernel_rfl) (by kernel_rfl) (fun _ _ _ h => h) (Or.inl ⟨by rfl, ?_⟩) (fun _ => HSX.out) ?_
      rotate_left
      ·intro w' _; go_simp; with_reducible rfl
      try simp only [Act.put, List.getElem_toArray, List.getElem_cons_zero, List.getElem_cons_succ, List.setIfInBounds_toArray, List.set_cons_zero, List.set_cons_succ]
      refine Upto.one (i := 1) (by kernel_rfl) rfl (by rfl) (fun K hK => ?_)
      go_simp
      refine CO.mono ?_
      rintro e wq ⟨rfl, hwq⟩
      subst hwq
      refine hK _ _ (fun _ _ => trivial) ?_
      clear hK
      try simp only [Act.put, List.getElem_toArray, List.getElem_cons_zero, List.getElem_cons_succ, List.setIfInBounds_toArray, List.set_cons_zero, List.set_cons_succ]
      refine Upto.takeY (i := 3) (v := .bool false) rfl (by kernel_rfl) (by kernel_rfl) (by kernel_rfl) (by kernel_rfl) (fun _ _ _ h => h) (Or.inl ⟨by rfl, ?_⟩) (fun _ => HSX.out) ?_
      ·intro w' _; simp; first | (go_simp; done) | (go_simp; with_reducible rfl)
      try simp only [Act.put, List.getElem_toArray, List.getElem_cons_zero, List.getElem_cons_succ, List.setIfInBounds_toArray, List.set_cons_zero, List.set_cons_succ]
      refine Upto.takeY (i := 4) (v := ?_) rfl (by kernel_rfl) (by kernel_rfl) (by kernel_rfl) (by kernel_rfl) (fun _ _ _ h => h) (Or.inl ⟨by rfl, ?_⟩) (fun _ => HSX.out) ?_
      rotate_left
      ·intro w' _; go_simp; with_reducible rfl
      try simp only [Act.put, List.getElem_toArray, List.getElem_cons_zero, List.getElem_cons_succ, List.setIfInBounds_toArray, List.set_cons_zero, List.set_cons_succ]
      refine Upto.takeY (i := 5) (v := ?_) rfl (by kernel_rfl) (by kernel_rfl) (by kernel_rfl) (by kernel_rfl) (fun _ _ _ h => h) (Or.inl ⟨by rfl, ?_⟩) (fun _ => HSX.out) ?_
      rotate_left
      ·intro w' _; go_simp; with_reducible rfl
      try simp only [Act.put, List.getElem_toArray, List.getElem_cons_zero, List.getElem_cons_succ, List.setIfInBounds_toArray, List.set_cons_zero, List.set_cons_succ]
      refine Upto.takeY (i := 6) (v := .bool false) rfl (by kernel_rfl) (by kernel_rfl) (by kernel_rfl) (by kernel_rfl) (fun _ _ _ h => h) (Or.inl ⟨by rfl, ?_⟩) (fun _ => HSX.out) ?_
      ·intro w' _; skip; first | (go_simp; done) | (go_simp; with_reducible rfl)
      try simp only [Act.put, List.getElem_toArray, List.getElem_cons_zero, List.getElem_cons_succ, List.setIfInBounds_toArray, List.set_cons_zero, List.set_cons_succ]
      refine Upto.takeY (i := 7) (v := ?_) rfl (by kernel_rfl) (by kernel_rfl) (by kernel_rfl) (by kernel_rfl) (fun _ _ _ h => h) (Or.inl ⟨by rfl, ?_⟩) (fun _ => HSX.out) ?_
      rotate_left
      ·intro w' _; go_simp; with_reducible rfl
      try simp only [Act.put, List.getElem_toArray, List.getElem_cons_zero, List.getElem_cons_succ, List.setIfInBounds_toArray, List.set_cons_zero, List.set_cons_succ]
      refine Upto.takeY (i := 9) (v := ?_) rfl (by kernel_rfl) (by kernel_rfl) (by kernel_rfl) (by kernel_rfl) (fun _ _ _ h => h) (Or.inl ⟨by rfl, ?_⟩) (fun _ => HSX.out) ?_
      rotate_left
      ·intro w' _; go_simp; with_reducible rfl
      try simp only [Act.put, List.getElem_toArray, List.getElem_cons_zero, List.getElem_cons_succ, List.setIfInBounds_toArray, List.set_cons_zero, List.set_cons_succ]
      refine Upto.takeY (i := 10) (v := .int .i64 ((jj.length + 1 : Nat) : Int)) rfl (by kernel_rfl) (by kernel_rfl) (by kernel_rfl) (by kernel_rfl) (fun _ _ _ h => h) (Or.inl ⟨by rfl, ?_⟩) (fun _ => HSX.out) ?_
      ·intro w' _; have h0 := HWR1.out; first | (go_simp; done) | (go_simp; with_reducible rfl)
      try simp only [Act.put, List.getElem_toArray, List.getElem_cons_zero, List.getElem_cons_succ, List.setIfInBounds_toArray, List.set_cons_zero, List.set_cons_succ]
      refine Upto.one (i := 8) (by kernel_rfl) rfl (by rfl) (fun K hK => ?_)
      go_simp
      refine CN.mono ?_
      rintro e wq ⟨rfl, hwq⟩
      subst hwq
      refine hK _ _ (fun _ _ => trivial) ?_
      clear hK
      try simp only [Act.put, List.getElem_toArray, List.getElem_cons_zero, List.getElem_cons_succ, List.setIfInBounds_toArray, List.set_cons_zero, List.set_cons_succ]
      refine Upto.takeY (i := 11) (v := .bool false) rfl (by kernel_rfl) (by kernel_rfl) (by kernel_rfl) (by kernel_rfl) (fun _ _ _ h => h) (Or.inl ⟨by rfl, ?_⟩) (fun _ => HSX.out) ?_
      ·intro w' _; go_simp; omega
      try simp only [Act.put, List.getElem_toArray, List.getElem_cons_zero, List.getElem_cons_succ, List.setIfInBounds_toArray, List.set_cons_zero, List.set_cons_succ]
      refine Upto.takeY (i := 12) (v := .bool false) rfl (by kernel_rfl) (by kernel_rfl) (by kernel_rfl) (by kernel_rfl) (fun _ _ _ h => h) (Or.inl ⟨by rfl, ?_⟩) (fun _ => HSX.out) ?_
      ·intro w' _; skip; first | (go_simp; done) | (go_simp; with_reducible rfl)
      try simp only [Act.put, List.getElem_toArray, List.getElem_cons_zero, List.getElem_cons_succ, List.setIfInBounds_toArray, List.set_cons_zero, List.set_cons_succ]
      refine Upto.takeY (i := 13) (v := ?_) rfl (by kernel_rfl) (by kernel_rfl) (by kernel_rfl) (by kernel_rfl) (fun _ _ _ h => h) (Or.inl ⟨by rfl, ?_⟩) (fun _ => HSX.out) ?_
      rotate_left
      ·intro w' _; go_simp; with_reducible rfl
      try simp only [Act.put, List.getElem_toArray, List.getElem_cons_zero, List.getElem_cons_succ, List.setIfInBounds_toArray, List.set_cons_zero, List.set_cons_succ]
      refine Upto.takeY (i := 14) (v := ?_) rfl (by kernel_rfl) (by kernel_rfl) (by kernel_rfl) (by kernel_rfl) (fun _ _ _ h => h) (Or.inl ⟨by rfl, ?_⟩) (fun _ => HSX.out) ?_
      rotate_left
      ·intro w' _; go_simp; with_reducible rfl
      try simp only [Act.put, List.getElem_toArray, List.getElem_cons_zero, List.getElem_cons_succ, List.setIfInBounds_toArray, List.set_cons_zero, List.set_cons_succ]
      refine Upto.takeY (i := 15) (v := ?_) rfl (by kernel_rfl) (by kernel_rfl) (by kernel_rfl) (by kernel_rfl) (fun _ _ _ h => h) (Or.inl ⟨by rfl, ?_⟩) (fun _ => HSX.out) ?_
      rotate_left
      ·intro w' _; go_simp; with_reducible rfl
      try simp only [Act.put, List.getElem_toArray, List.getElem_cons_zero, List.getElem_cons_succ, List.setIfInBounds_toArray, List.set_cons_zero, List.set_cons_succ]
      refine Upto.takeY (i := 16) (v := .bool true) rfl (by kernel_rfl) (by kernel_rfl) (by kernel_rfl) (by kernel_rfl) (fun _ _ _ h => h) (Or.inl ⟨by rfl, ?_⟩) (fun _ => HSX.out) ?_
      ·intro w' _; skip; first | (go_simp; done) | (go_simp; with_reducible rfl)
      try simp only [Act.put, List.getElem_toArray, List.getElem_cons_zero, List.getElem_cons_succ, List.setIfInBounds_toArray, List.set_cons_zero, List.set_cons_succ]
      refine Upto.takeY (i := 17) (v := ?_) rfl (by kernel_rfl) (by kernel_rfl) (by kernel_rfl) (by kernel_rfl) (fun _ _ _ h => h) (Or.inl ⟨by rfl, ?_⟩) (fun _ => HSX.out) ?_
      rotate_left
      ·intro w' _; go_simp; with_reducible rfl
      try simp only [Act.put, List.getElem_toArray, List.getElem_cons_zero, List.getElem_cons_succ, List.setIfInBounds_toArray, List.set_cons_zero, List.set_cons_succ]
      refine Upto.takeY (i := 18) (v := ?_) rfl (by kernel_rfl) (by kernel_rfl) (by kernel_rfl) (by kernel_rfl) (fun _ _ _ h => h) (Or.inl ⟨by rfl, ?_⟩) (fun _ => HSX.out) ?_
      rotate_left
      ·intro w' _; go_simp; with_reducible rfl
      try simp only [Act.put, List.getElem_toArray, List.getElem_cons_zero, List.getElem_cons_succ, List.setIfInBounds_toArray, List.set_cons_zero, List.set_cons_succ]
      refine Upto.takeY (i := 19) (v := ?_) rfl (by kernel_rfl) (by kernel_rfl) (by kernel_rfl) (by kernel_rfl) (fun _ _ _ h => h) (Or.inl ⟨by rfl, ?_⟩) (fun _ => HSX.out) ?_
      rotate_left
      ·intro w' _; go_simp; with_reducible rfl
      try simp only [Act.put, List.getElem_toArray, List.getElem_cons_zero, List.getElem_cons_succ, List.setIfInBounds_toArray, List.set_cons_zero, List.set_cons_succ]
      refine Upto.one (i := 20) (by kernel_rfl) rfl (by rfl) (fun K hK => ?_)
      go_simp
      refine CM.mono ?_
      rintro e wq ⟨rfl, hbq⟩
      refine hK _ _ (fun _ _ => trivial) ?_
      clear hK
      try simp only [Act.put, List.getElem_toArray, List.getElem_cons_zero, List.getElem_cons_succ, List.setIfInBounds_toArray, List.set_cons_zero, List.set_cons_succ]
      refine Upto.takeY (i := 21) (v := ?_) rfl (by kernel_rfl) (by kernel_rfl) (by kernel_rfl) (by kernel_rfl) (fun _ _ _ h => h) (Or.inl ⟨by rfl, ?_⟩) (fun _ => HSX.out) ?_
      rotate_left
      ·intro w' _; go_simp; with_reducible rfl
      try simp only [Act.put, List.getElem_toArray, List.getElem_cons_zero, List.getElem_cons_succ, List.setIfInBounds_toArray, List.set_cons_zero, List.set_cons_succ]
      refine Upto.takeY (i := 22) (v := ?_) rfl (by kernel_rfl) (by kernel_rfl) (by kernel_rfl) (by kernel_rfl) (fun _ _ _ h => h) (Or.inl ⟨by rfl, ?_⟩) (fun _ => HSX.out) ?_
      rotate_left
      ·intro w' _; go_simp; with_reducible rfl
      try simp only [Act.put, List.getElem_toArray, List.getElem_cons_zero, List.getElem_cons_succ, List.setIfInBounds_toArray, List.set_cons_zero, List.set_cons_succ]
      refine Upto.takeY (i := 23) (v := ?_) rfl (by kernel_rfl) (by kernel_rfl) (by kernel_rfl) (by kernel_rfl) (fun _ _ _ h => h) (Or.inl ⟨by rfl, ?_⟩) (fun _ => HSX.out) ?_
      rotate_left
      ·intro w' _; go_simp; with_reducible rfl
      try simp only [Act.put, List.getElem_toArray, List.getElem_cons_zero, List.getElem_cons_succ, List.setIfInBounds_toArray, List.set_cons_zero, List.set_cons_succ]
      refine Upto.done (by kernel_rfl) ?_ _
      have HFIN := Lib.hid (And.intro (HX9.out.below hbq) (below_next HB9.out hbq))
      clear hbq CM CN CO
      go_wp2
      go_meet
      case rel => exact ⟨rfl, HFIN⟩
    case rest =>
     obtain ⟨rfl, HC⟩ := hcut
     clear HX8 HO8 HB8
     clear w8
     obtain ⟨s8, hs8⟩ : ∃ s8, s8 = Rp.next s j.e := ⟨_, rfl⟩
     rw [← hs8] at HC
     clear hs8
     have CR := refs_any r (.slice A8 j8.length c8) rf8 ob8 (Rp.lastsOf s8.js) N8 s8.refs wc HC.out.1.rp HC.out.1.refs (fun i x h => (HC.out.1.good.refs i x h).2.1) (by have := HC.out.1.lim; have := HL8.out; have := HJL.out; omega)
     unfold RfPost at CR
     generalize errV a q = qv
     go_wp2_with (go_at_call 12; refine pause ?_)
     unfold Paused
     refine CR.mono ?_
     rintro e wd ⟨vd, ss, rfl, hod, hmd, hcd, hbd⟩
     obtain ⟨Ad, cd, rfl⟩ := own_slice hod
     have HXd := Lib.hid (HC.out.1.below hbd)
     have HBd := Lib.hid (below_next HC.out.2 hbd)
     have HGD : Hid (∀ x ∈ ss, Id32 (refE s8.refs x).id ∧ (refE s8.refs x).id ≠ Rp.z32 ∧ (s8.objs (refE s8.refs x).id).isSome = true) := Lib.hid (fun x hx => by
      obtain ⟨y, hy⟩ := hmd x hx
      have h1 := HC.out.1.good.refs _ y hy
      unfold refE
      dsimp only
      rw [hy]
      exact h1.2)
     have HRW := Lib.hid (rdk_own hod)
     have HLE : Hid (ss.length ≤ 100000) := Lib.hid (by
      obtain ⟨d, _, hd, hdm⟩ := HC.out.1.refs.len
      have h1 := hcd.uniq (Rp.cnt_map hd (fun i _ => by simp))
      have := HC.out.1.lim
      have := HL8.out
      have := HJL.out
      omega)
     obtain ⟨nss, hnss⟩ : ∃ nss, nss = ss.length := ⟨_, rfl⟩
     rw [← hnss] at HRW HLE ⊢
     have HNS := Lib.hid hnss
     clear CR hod hmd hcd hbd HC hnss
     clear wc
     go_wp2_with fail
     go_loopw [65] (fun i we => ∃ m : Nat, m ≤ nss ∧ i = .int .i64 m ∧ Hid (Below wd.heap.size wd we)) (fun i _ => nss - (intOf i).toNat)
     case atStart => exact ⟨0, Nat.zero_le _, rfl, Lib.hid (Below.refl _ _)⟩
     case round =>
      obtain ⟨m, hm, rfl, HW⟩ := hrel
      rcases Nat.lt_or_ge m nss with hlt2 | hge2
      ·have hml : m < ss.length := by rw [← HNS.out]; exact hlt2
       have m1 : ((m : Nat) : Int) < nss := by omega
       have m2 : (0 : Int) ≤ ((m : Nat) : Int) := by omega
       have m3 : ((m : Nat) : Int) < 1000000 := by have := HLE.out; omega
       obtain ⟨en, b2, o2, rfl, hbl2, hrg2, x, hx, rfl⟩ := ref_elem HRW.out HNS.out (fun x hx => (HGD.out x hx).1) hlt2
       have hgd := HGD.out x hx
       generalize refE s8.refs x = en at hrg2 hgd
       clear hx
       have HRG : Hid (wr.rangeAt b2 (o2 + m * 33) (cellsE1 en)) := Lib.hid (fun i v hi => (HW.out.cell (p := ⟨b2, o2 + m * 33 + i, none⟩) hbl2).trans (hrg2 i v hi))
       have HEN := Lib.hid hgd
       have HLT2 : Hid (m + 1 ≤ nss) := Lib.hid hlt2
       clear hml hbl2 hrg2 hgd hm hlt2
       go_wp2_with (with_reducible (show wpList _ _ _ (Oper.mk _ (Op.load 43 _) _ _ _ _ :: _) _ _); refine pause ?_)
       unfold Paused
       refine wpList_mid_w (by rfl) 43 (.tmp 67) (by rfl) b2 (o2 + m * 33) (by rfl) (cellsE1 en) _ HRG.out Tryz.underlying43 (by rfl) (by rw [cellsE1_len HEN.out.1]; kernel_rfl) ?_
       clear HRG
       go_wp2_with (with_reducible (show wpList _ _ _ (Oper.mk _ (Op.store 43 _ _) _ _ _ _ :: _) _ _); refine pause ?_)
       unfold Paused
       change wpList _ _ _ _ _ (wr.alloc (.cells zRf 43))
       refine wpList_store_row (by rfl) 43 (.tmp 12) (.tmp 68) (by rfl) wr.heap.size (cellsE1 en).toArray (by rfl) (by rfl) 43 zRf (Blk.new wr _ _) (by rw [List.size_toArray, cellsE1_len HEN.out.1]; kernel_rfl) (by rw [show (cellsE1 en).toArray.size = 33 by rw [List.size_toArray, cellsE1_len HEN.out.1]]; kernel_rfl) (refs_one en) ?_
       have b5 : Below wr.heap.size wr ((wr.alloc (.cells zRf 43)).setRow wr.heap.size (cellsE1 en).toArray) := below_row ((Below.refl _ _).alloc (Nat.le_refl _) _) (Nat.le_refl _) _
       have HI5 : Hid (Blk ((wr.alloc (.cells zRf 43)).setRow wr.heap.size (cellsE1 en).toArray) wr.heap.size 43 (cellsE1 en).toArray) := Lib.hid ((Blk.new wr _ _).row _)
       have HW5 := Lib.hid (below_next HW.out b5)
       clear b5 HW
       generalize (wr.alloc (.cells zRf 43)).setRow wr.heap.size (cellsE1 en).toArray = w5 at HI5 HW5 ⊢
       generalize wr.heap.size = g5 at HI5 ⊢
       clear wr
       simp only [Act.put]
       go_wp2_with (with_reducible (show wpList _ _ _ (Oper.mk _ (Op.load 41 _) _ _ _ _ :: _) _ _); refine pause ?_)
       unfold Paused
       refine wpList_mid_w (by rfl) 41 (.tmp 70) (by rfl) g5 1 (by rfl) (cellsB en.id) _ (refs_rng HEN.out.1 HI5.out) Tryz.underlying41 (by rfl) (by rw [cellsB_len, HEN.out.1.1]; kernel_rfl) ?_
       have hx5 := HXd.out.below HW5.out
       have CH := has_any r (.slice A8 j8.length c8) rf8 ob8 (Rp.lastsOf s8.js) M8 (fun x => (O8 x).map (·.val)) en.id w5 hx5.rp hx5.objs HEN.out.1
       have hsm : ((fun x => (O8 x).map (·.val)) en.id).isSome = true := by
        have h1 := HEN.out.2.2
        rw [← hx5.oeq en.id] at h1
        dsimp only
        cases hO : O8 en.id with
        | none => rw [hO] at h1; cases h1
        | some p => rfl
       rw [hsm] at CH
       clear hx5 hsm
       go_wp2_with (go_at_call 13; refine pause ?_)
       unfold Paused
       refine CH.mono ?_
       rintro e w6 ⟨rfl, hb6⟩
       have HI6 := Lib.hid (HI5.out.below hb6 HI5.out.lt)
       have HW6 := Lib.hid (below_next HW5.out hb6)
       clear CH hb6 HI5 HW5
       clear w5
       have qN : (Op.equalIn 10000 41 (.agg (cellsB en.id).toArray) (.agg #[.int .u8 0, .int .u8 0, .int .u8 0, .int .u8 0, .int .u8 0, .int .u8 0, .int .u8 0, .int .u8 0, .int .u8 0, .int .u8 0, .int .u8 0, .int .u8 0, .int .u8 0, .int .u8 0, .int .u8 0, .int .u8 0, .int .u8 0, .int .u8 0, .int .u8 0, .int .u8 0, .int .u8 0, .int .u8 0, .int .u8 0, .int .u8 0, .int .u8 0, .int .u8 0, .int .u8 0, .int .u8 0, .int .u8 0, .int .u8 0, .int .u8 0, .int .u8 0])).run Tryz.prog w6 = .ok false w6 := by
        have h := run_equalIn_u8s w6 _ _ 32 Tryz.underlying41 Tryz.underlying5 (fun w => by kernel_rfl) en.id Rp.z32 HEN.out.1.1 Rp.z32_id.1 HEN.out.1.2 Rp.z32_id.2
        rw [show (en.id == Rp.z32) = false by simp [HEN.out.2.1]] at h
        exact h
       go_wp2_with (with_reducible (show wpList _ _ _ (Oper.mk _ (Op.load 41 _) _ _ _ _ :: _) _ _); refine pause ?_)
       unfold Paused
       refine wpList_mid_w (by rfl) 41 (.tmp 75) (by rfl) g5 1 (by rfl) (cellsB en.id) _ (refs_rng HEN.out.1 HI6.out) Tryz.underlying41 (by rfl) (by rw [cellsB_len, HEN.out.1.1]; kernel_rfl) ?_
       clear HI6
       go_wp2
       go_roundw
       case rel => exact ⟨m + 1, HLT2.out, by go_num, HW6⟩
       case measure => have h5 := HLT2.out; simp [intOf]; omega
      ·obtain rfl : m = nss := by omega
       have m1 : ¬ ((m : Nat) : Int) < m := by omega
       have HXr := Lib.hid (HXd.out.below HW.out)
       have HBr := Lib.hid (below_next HBd.out HW.out)
       clear HW hm hge2 HXd HBd HRW
       obtain ⟨w9, hw9⟩ : ∃ w9, w9 = wr := ⟨_, rfl⟩
       subst hw9
       have CO := objs_any r A8 c8 rf8 ob8 N8 M8 j8 O8 s8 w9 HXr.out (by have := HL8.out; have := HJK.out; have := HLT.out; have := HBT.out.1; omega)
       unfold ObsPost at CO
       go_wp2_with (go_at_call 14; refine pause ?_)
       unfold Paused
       refine CO.mono ?_
       rintro e wo ⟨At, ct, tt, rfl, hbt, htm, htc, hbd⟩
       have HXd := Lib.hid (HXr.out.below hbd)
       have HBd := Lib.hid (below_next HBr.out hbd)
       have HTT := Lib.hid hbt
       have HTS : Hid (∀ t ∈ tt, t.text.length ≤ 300 ∧ (s8.objs (Sha.sum t.text)).isSome = true) := Lib.hid (fun t ht => by
        obtain ⟨x, hx⟩ := htm t ht
        have h1 := HXr.out.good.objs x t.text hx
        exact ⟨h1.2.2, by rw [← h1.1, hx]; rfl⟩)
       have HLE : Hid (tt.length ≤ 100000) := Lib.hid (by
        obtain ⟨d, _, hd, hdm⟩ := HXr.out.objs.len
        have h1 := htc.uniq (cntT HXr.out.oeq hd).1
        have := HXr.out.lim
        have := HL8.out
        have := HJL.out
        omega)
       obtain ⟨nt, hnt⟩ : ∃ nt, nt = tt.length := ⟨_, rfl⟩
       rw [← hnt] at HTT HLE ⊢
       clear CO hbt htm htc hbd hnt HXr HBr
       clear w9
       go_wp2_with fail
       go_loopw [84] (fun i we => ∃ m : Nat, m ≤ nt ∧ i = .int .i64 m ∧ Hid (Below wo.heap.size wo we)) (fun i _ => nt - (intOf i).toNat)
       case atStart => exact ⟨0, Nat.zero_le _, rfl, Lib.hid (Below.refl _ _)⟩
       case round =>
        obtain ⟨m, hm, rfl, HW⟩ := hrel
        rcases Nat.lt_or_ge m nt with hlt2 | hge2
        ·have hml : m < tt.length := by rw [← HTT.out.len]; exact hlt2
         have m1 : ((m : Nat) : Int) < nt := by omega
         have m2 : (0 : Int) ≤ ((m : Nat) : Int) := by omega
         have m3 : ((m : Nat) : Int) < 1000000 := by have := HLE.out; omega
         obtain ⟨b2, o2, rfl, hbl2, hrow2⟩ := HTT.out.row (by omega)
         have pc0 := hrow2 m tt[m] (List.getElem?_eq_getElem hml)
         have hrd := HTT.out.rd tt[m] (List.getElem_mem hml)
         have hts := HTS.out tt[m] (List.getElem_mem hml)
         generalize tt[m] = tx at pc0 hrd hts
         obtain ⟨A1, c1, hval⟩ : ∃ A1 c1, tx.val = .slice A1 tx.text.length c1 := by obtain ⟨⟨A1, c1, h, _⟩, _⟩ := hrd; exact ⟨A1, c1, h⟩
         have pc : wr.cell? ⟨b2, o2 + m, none⟩ = some (.slice A1 tx.text.length c1) := by
          rw [← hval]
          exact (HW.out.cell (p := ⟨b2, o2 + m, none⟩) hbl2).trans pc0
         have CID := oid_any tx.text (.slice A1 tx.text.length c1) wr (by rw [← hval]; exact hrd.1.below HW.out (Nat.le_refl _)) hrd.2 (HT.out.below (below_next HBd.out HW.out) (Nat.le_refl _)) (by omega)
         have HSI := Lib.hid (cl_sum_id tx.text)
         have HSO := Lib.hid hts.2
         generalize Sha.sum tx.text = su at CID HSI HSO
         generalize tx.text.length = tl at CID pc
         have HLT2 : Hid (m + 1 ≤ nt) := Lib.hid hlt2
         clear hml hbl2 hrow2 pc0 hrd hts hval hm hlt2
         go_wp2_with (go_at_call 15; refine pause ?_)
         unfold Paused
         refine CID.mono ?_
         rintro e w5 ⟨rfl, hb5⟩
         have HW5 := Lib.hid (below_next HW.out hb5)
         have hx5 := HXd.out.below HW5.out
         have CH := has_any r (.slice A8 j8.length c8) rf8 ob8 (Rp.lastsOf s8.js) M8 (fun x => (O8 x).map (·.val)) su w5 hx5.rp hx5.objs HSI.out
         have hsm : ((fun x => (O8 x).map (·.val)) su).isSome = true := by
          have h1 := HSO.out
          rw [← hx5.oeq su] at h1
          dsimp only
          cases hO : O8 su with
          | none => rw [hO] at h1; cases h1
          | some p => rfl
         rw [hsm] at CH
         clear hx5 hsm hb5 CID HW pc
         clear wr
         go_wp2_with (go_at_call 13; refine pause ?_)
         unfold Paused
         refine CH.mono ?_
         rintro e w6 ⟨rfl, hb6⟩
         have HW6 := Lib.hid (below_next HW5.out hb6)
         clear CH hb6 HW5
         clear w5
         go_wp2
         go_roundw
         case rel => exact ⟨m + 1, HLT2.out, by go_num, HW6⟩
         case measure => have h5 := HLT2.out; simp [intOf]; omega
        ·obtain rfl : m = nt := by omega
         have m1 : ¬ ((m : Nat) : Int) < m := by omega
         have HFIN : Hid (RpX wr r A8 c8 rf8 ob8 N8 M8 j8 O8 s8 ∧ j8.length ≤ k + 1 ∧ Below w.heap.size w wr) := Lib.hid ⟨HXd.out.below HW.out, by have := HL8.out; have := HJK.out; omega, below_next HBd.out HW.out⟩
         clear HW hm hge2 HXd HBd
         go_wp2
         go_roundw
         case rel => exact ⟨k + 1, HLT.out, by go_num, A8, c8, rf8, ob8, N8, M8, j8, O8, s8, HFIN⟩
         case measure => have h5 := HLT.out; simp [intOf]; omega
   ·obtain rfl : k = n := by omega
    have i1 : ¬ ((k : Nat) : Int) < k := by omega
    have HB := Lib.hid HR.out.2.2
    clear HR hk hge
    go_wp2
    go_ret
    exact ⟨rfl, HB.out⟩
end Go.Proofs.YtgcgomdhdgjpdaaGreatDoor
