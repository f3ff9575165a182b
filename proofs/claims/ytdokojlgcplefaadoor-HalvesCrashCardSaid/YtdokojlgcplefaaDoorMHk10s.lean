/- Layer 5: Compact, wherever the power fails. -/
import Derived.Test.YtdokojlgcplefaaDoorMHk9
import Derived.Test.YtdokojlgcplefaaDoorMHk8s
namespace Go.Proofs.YtdokojlgcplefaaDoor
open Go Go.RowKit
set_option maxRecDepth 100000 in
set_option maxHeartbeats 1000000 in
theorem cowork_any {B l d z k U V f : Nat} {S : Dk.D} (a : Nat → Addr) (w0 w : World) (n0 m : Nat) (v : Value) (hUV : (U = 0 ∧ V = 1) ∨ (U = 1 ∧ V = 0)) (hf : f = Hv.fst z V) (hL : LogAt B w l d z U n0 v m false) (hv : v.oneCell' = true) (hD : DkX B w d S k) (ho : S.off = false) (hz : 2 ≤ z) (hi : z + z ≤ S.size) (hk : k + 100000 < 1000000) (hE : Env B a w0 w) (s0 t0 s1 t1 : Nat) (h0 : Hv.headM (Dk.seen S 0) = (s0, t0)) (h1 : Hv.headM (Dk.seen S z) = (s1, t1)) (n : Nat) (hn : n = max (max 1 (s0 + 1)) (s1 + 1)) (htop : n ≤ Hv.top)
  (A : Option Addr) (cA : Nat) (vs : List Value) (L : List (List Nat)) (hx : ∀ w', TFr B w w' → RdLL w' (.slice A L.length cA) vs L) (hxs : Hv.Small L) (hxb : ∀ y ∈ L, Sha.Byte y) (hll : L.length ≤ 1000) (hfit : Hv.pos L L.length ≤ z)
  (q2 q3 : Nat) (b2 : Blk w q2 30 #[.pointer (some ⟨l, 0, none⟩)]) (b3 : Blk w q3 33 #[.slice A L.length cA]) :
  Calls Tryd.prog 28 #[.pointer (some ⟨q2, 0, none⟩), .pointer (some ⟨q3, 0, none⟩)] w (LayP B a w l d z V n (Hv.pos L L.length) (k + z + z + 10) L (Hv.layM f z n L S)) := by
 obtain ⟨w1, hw1⟩ : ∃ w1, w1 = w.drew := ⟨_, rfl⟩
 have HB1 : Hid (Below w.heap.size w w1) := Lib.hid (by rw [hw1]; exact below_drewN (Below.refl _ _) 1)
 have HL1 := Lib.hid (hL.below HB1.out)
 have H2 := Lib.hid (b2.below HB1.out b2.lt)
 have H3 := Lib.hid (b3.below HB1.out b3.lt)
 have CL := lay_any a w0 w1 n0 m v (by omega) (by omega) hf HL1.out hv (hD.below HB1.out) ho hz hi hk (hE.below HB1.out) s0 t0 s1 t1 h0 h1 n hn htop (.slice A L.length cA) vs L (fun w' ht => hx w' ((TFr.below HB1.out).trans ht)) hxs hxb hll hfit
 have HW1 := Lib.hid hw1
 have HUV := Lib.hid hUV
 generalize Hv.layM f z n L S = M at CL ⊢
 generalize Hv.pos L L.length = mm at CL ⊢
 clear hL hv hD ho hE h0 h1 hn b2 b3 hw1 hx hxs hxb hfit hUV hf
 go_enter Tryd.func28, Tryd.ntmps28
 go_wp2_with fail
 refine wp_region_upto (S := (fun w' => Blk w' q2 30 #[.pointer (some ⟨l, 0, none⟩)] ∧ Blk w' q3 33 #[.slice A L.length cA] ∧ Blk w' l 59 (logCells d z U n0 v m false))) (b := 7) (by kernel_rfl) ?_
 change Upto _ _ _ _ _ _ _ _ _ w.drew
 rw [← HW1.out]
 refine Upto.take (i := 0) (v := ?_) rfl (by kernel_rfl) (by kernel_rfl) (by kernel_rfl) (by kernel_rfl) (fun _ _ _ h => h) (Or.inl ⟨by rfl, ?_⟩) (⟨H2.out, H3.out, HL1.out.blk⟩) ?_
 rotate_left
 ·intro w' hS; have q0 : w'.cell? ⟨q2, 0, none⟩ = some (.pointer (some ⟨l, 0, none⟩)) := hS.1.cell 0; go_simp; with_reducible rfl
 try simp only [Act.put, List.getElem_toArray, List.getElem_cons_zero, List.setIfInBounds_toArray, List.set_cons_zero, List.set_cons_succ]
 refine Upto.take (i := 6) (v := ?_) rfl (by kernel_rfl) (by kernel_rfl) (by kernel_rfl) (by kernel_rfl) (fun _ _ _ h => h) (Or.inl ⟨by rfl, ?_⟩) (⟨H2.out, H3.out, HL1.out.blk⟩) ?_
 rotate_left
 ·intro w' hS; have q0 : w'.cell? ⟨q3, 0, none⟩ = some (.slice A L.length cA) := hS.2.1.cell 0; go_simp; with_reducible rfl
 try simp only [Act.put, List.getElem_toArray, List.getElem_cons_zero, List.getElem_cons_succ, List.setIfInBounds_toArray, List.set_cons_zero, List.set_cons_succ]
 have p2 : w1.cell? ⟨q2, 0, none⟩ = some (.pointer (some ⟨l, 0, none⟩)) := H2.out.cell 0
 have p6 : w1.cell? ⟨l, 6, none⟩ = some (.int .i64 (U : Nat)) := HL1.out.blk.cell 6
 refine Upto.one (i := 1) (by kernel_rfl) rfl (by rfl) (fun K hK => ?_)
 go_simp
 refine hK _ _ (fun _ _ => ⟨H2.out, H3.out, HL1.out.blk⟩) ?_; clear hK K
 try simp only [Act.put, List.getElem_toArray, List.getElem_cons_zero, List.getElem_cons_succ, List.setIfInBounds_toArray, List.set_cons_zero, List.set_cons_succ]
 refine Upto.one (i := 2) (by kernel_rfl) rfl (by rfl) (fun K hK => ?_)
 go_simp
 refine hK _ _ (fun _ _ => ⟨H2.out, H3.out, HL1.out.blk⟩) ?_; clear hK K
 try simp only [Act.put, List.getElem_toArray, List.getElem_cons_zero, List.getElem_cons_succ, List.setIfInBounds_toArray, List.set_cons_zero, List.set_cons_succ]
 refine Upto.one (i := 3) (by kernel_rfl) rfl (by rfl) (fun K hK => ?_)
 go_simp
 refine hK _ _ (fun _ _ => ⟨H2.out, H3.out, HL1.out.blk⟩) ?_; clear hK K
 try simp only [Act.put, List.getElem_toArray, List.getElem_cons_zero, List.getElem_cons_succ, List.setIfInBounds_toArray, List.set_cons_zero, List.set_cons_succ]
 refine Upto.one (i := 4) (by kernel_rfl) rfl (by rfl) (fun K hK => ?_)
 go_simp
 refine hK _ _ (fun _ _ => ⟨H2.out, H3.out, HL1.out.blk⟩) ?_; clear hK K
 try simp only [Act.put, List.getElem_toArray, List.getElem_cons_zero, List.getElem_cons_succ, List.setIfInBounds_toArray, List.set_cons_zero, List.set_cons_succ]
 refine Upto.takeY (i := 5) (v := .int .i64 (V : Nat)) rfl (by kernel_rfl) (by kernel_rfl) (by kernel_rfl) (by kernel_rfl) (fun _ _ _ h => h) (Or.inl ⟨by rfl, ?_⟩) (fun _ => ⟨H2.out, H3.out, HL1.out.blk⟩) ?_
 ·intro w' _; rcases HUV.out with ⟨rfl, rfl⟩ | ⟨rfl, rfl⟩ <;> (go_simp; rfl)
 try simp only [Act.put, List.getElem_toArray, List.getElem_cons_zero, List.getElem_cons_succ, List.setIfInBounds_toArray, List.set_cons_zero, List.set_cons_succ]
 refine Upto.one (i := 7) (by kernel_rfl) rfl (by rfl) (fun K hK => ?_)
 go_simp
 refine CL.mono ?_
 rintro e w2 hP
 rcases hP with ⟨hm, rfl, hl2, hd2, hf2⟩ | ⟨hm, rfl, hd2, ht2⟩
 ·have HF : Hid (LayP B a w l d z V n mm (k + z + z + 10) L M (.returned (.tuple #[])) w2) := Lib.hid (Or.inl ⟨hm, rfl, hl2, hd2, (LFr.below HB1.out).trans hf2⟩)
  dsimp only
  refine hK _ _ (fun h _ => absurd rfl h) ?_; clear hK K CL hl2 hd2 hf2 hm
  try simp only [Act.put, List.getElem_toArray, List.getElem_cons_zero, List.getElem_cons_succ, List.setIfInBounds_toArray, List.set_cons_zero, List.set_cons_succ]
  refine Upto.done (by kernel_rfl) ?_ _
  go_wp2_with fail
  go_end0
  exact HF.out
 ·refine ⟨rfl, ?_⟩
  exact Or.inr ⟨hm, rfl, hd2, (TFr.below HB1.out).trans ht2⟩
def CompactP (B : Nat) (a : Nat → Addr) (w : World) (l d z U n0 m0 V n m k : Nat) (ls L : List (List Nat)) (M : Bool × Dk.D) (e : Ending) (w' : World) : Prop :=
 (M.1 = true ∧ e = .returned .nilIface ∧ LogsAt B w' l d z V n m false L M.2 k ∧ LFr B l w w') ∨
 (M.1 = false ∧ e = .returned (ev (a 15)) ∧ LogsAt B w' l d z U n0 m0 true ls M.2 k ∧ LFr B l w w')
theorem coattempt_any {B l d z k U V f : Nat} {S : Dk.D} (a : Nat → Addr) (w0 w : World) (n0 m : Nat) (v : Value) (hUV : (U = 0 ∧ V = 1) ∨ (U = 1 ∧ V = 0)) (hf : f = Hv.fst z V) (hL : LogAt B w l d z U n0 v m false) (hv : v.oneCell' = true) (hD : DkX B w d S k) (ho : S.off = false) (hz : 2 ≤ z) (hi : z + z ≤ S.size) (hk : k + 100000 < 1000000) (hE : Env B a w0 w) (s0 t0 s1 t1 : Nat) (h0 : Hv.headM (Dk.seen S 0) = (s0, t0)) (h1 : Hv.headM (Dk.seen S z) = (s1, t1)) (n : Nat) (hn : n = max (max 1 (s0 + 1)) (s1 + 1)) (htop : n ≤ Hv.top)
  (us : List Value) (ls : List (List Nat)) (hR : Recs B w v us ls) (A : Option Addr) (cA : Nat) (vs : List Value) (L : List (List Nat)) (hx : ∀ w', TFr B w w' → RdLL w' (.slice A L.length cA) vs L) (hxs : Hv.Small L) (hxb : ∀ y ∈ L, Sha.Byte y) (hll : L.length ≤ 1000) (hfit : Hv.pos L L.length ≤ z)
  (wc : World) (q3 : Nat) (hwc : Below w.heap.size w wc) (_hq : w.heap.size ≤ q3) (h2 : Blk wc w.heap.size 30 #[.pointer (some ⟨l, 0, none⟩)]) (h3 : Blk wc q3 33 #[.slice A L.length cA]) :
  Calls Tryd.prog 20 #[.pointer (some ⟨l, 0, none⟩), .func (.func 28) #[] #[.pointer (some ⟨w.heap.size, 0, none⟩), .pointer (some ⟨q3, 0, none⟩)]] wc (CompactP B a w l d z U n0 m V n (Hv.pos L L.length) (k + z + z + 10) ls L (Hv.layM f z n L S)) := by
 have hba := below_attBox wc l
 have hwc2 := below_then hwc hba
 have hw := cowork_any a w0 (attBox wc l) n0 m v hUV hf (hL.below hwc2) hv (hD.below hwc2) ho hz hi hk (hE.below hwc2) s0 t0 s1 t1 h0 h1 n hn htop A cA vs L (fun w' ht => hx w' ((TFr.below hwc2).trans ht)) hxs hxb hll hfit w.heap.size q3 (h2.below hba h2.lt) (h3.below hba h3.lt)
 have e3 : (#[] : Array Value) ++ #[.pointer (some ⟨w.heap.size, 0, none⟩), .pointer (some ⟨q3, 0, none⟩)] = #[.pointer (some ⟨w.heap.size, 0, none⟩), .pointer (some ⟨q3, 0, none⟩)] := by simp
 have hlt := hL.blk.lt
 have hsw := hwc.size
 have hB0 : B ≤ w.heap.size := by have := hD.lt; omega
 have her : Blk (attBox wc l) (wc.heap.size + 1) 27 #[.nilIface] := by
  have := Blk.new (wc.alloc (.cells #[.pointer (some ⟨l, 0, none⟩)] 30)) 27 #[.nilIface]
  simpa using this
 have hbx : Blk (attBox wc l) wc.heap.size 30 #[.pointer (some ⟨l, 0, none⟩)] := (Blk.new wc _ _).alloc _
 have hLa := hL.below hwc2
 have hRa := hR.below hwc2
 have hEa := hE.below hwc2
 clear hL hD hE h2 h3 hR hx
 generalize Hv.layM f z n L S = M at hw ⊢
 generalize Hv.pos L L.length = mm at hw ⊢
 rcases hM : M.1 with _ | _
 ·have hw2 : Calls Tryd.prog 28 (#[] ++ #[.pointer (some ⟨w.heap.size, 0, none⟩), .pointer (some ⟨q3, 0, none⟩)]) (attBox wc l) fun e w' => e = .panicked [{ v := ev (a 15), recovered := false }] ∧ (DkX B w' d M.2 (k + z + z + 10) ∧ TFr B (attBox wc l) w') := by
   rw [e3]
   refine hw.mono ?_
   rintro e w' (⟨h, _⟩ | ⟨_, h1, h2, h3⟩)
   ·rw [hM] at h; cases h
   ·exact ⟨h1, h2, h3⟩
  refine Calls.mono (attempt_down 28 #[] _ l (a 15) (a 15) wc _ (fun args w => by simp [go_sem]) hw2 (fun x hx => ⟨hx.2.typed _ _ _ her (by decide) (by decide), hx.2.typed _ _ _ hbx (by decide) (by decide), ⟨_, (hLa.tfr hx.2).blk.cell 10⟩, (hLa.tfr hx.2).blk.frozen 10, (hEa.tfr hx.2).down⟩) (by omega)) ?_
  rintro e w' ⟨rfl, x, ⟨hx1, hx2⟩, rfl⟩
  have hlx := (hLa.tfr hx2).blk
  have hex := hx2.typed _ _ _ her (by decide) (by decide)
  have he1 : Blk (x.setCell ⟨l, 10, none⟩ (.bool true)) (wc.heap.size + 1) 27 #[.nilIface] := hex.far (by show wc.heap.size + 1 ≠ l; omega) _
  refine Or.inr ⟨hM, rfl, ⟨⟨v, ⟨?_, hLa.low⟩, us, ?_⟩, ?_⟩, ?_⟩
  ·exact (hlx.set_ 10 (.bool true)).far (by show l ≠ wc.heap.size + 1; omega) _
  ·exact ((hRa.tfr hx2).far hlx 10 (.bool true)).of (fun b t cs hb ht => hb.far (by
    show b ≠ wc.heap.size + 1
    exact blk_ne hb he1 (by rcases ht with rfl | rfl <;> decide)) _)
  ·exact (hx1.farX hlx (by decide) (by decide) 10 (.bool true)).farX he1 (by decide) (by decide) 0 (ev (a 15))
  ·exact ((((LFr.below hwc2).trans (LFr.of hx2)).trans (LFr.set hLa.low 10 (.bool true))).setNew hB0 (show w.heap.size ≤ wc.heap.size + 1 by omega) 0 _)
 ·refine Calls.mono (attempt_ok 28 #[] #[.pointer (some ⟨w.heap.size, 0, none⟩), .pointer (some ⟨q3, 0, none⟩)] l wc (fun w' => LogsAt B w' l d z V n mm false L M.2 (k + z + z + 10) ∧ LFr B l w w' ∧ ∃ c, Blk w' (wc.heap.size + 1) 27 #[c]) (fun args w => by simp [go_sem]) ?_ (fun a h => h.2.2) ?_) ?_
  ·rw [e3]
   refine hw.mono ?_
   rintro e w' (⟨_, h1, h2, h3, h4⟩ | ⟨h, _⟩)
   ·exact ⟨h1, ⟨h2, h3⟩, (LFr.below hwc2).trans h4, .nilIface, h4.typed _ _ _ (by omega) her (by decide) (by decide)⟩
   ·rw [hM] at h; cases h
  ·rintro a x ⟨h1, h2, c, h3⟩
   exact ⟨h1.set h3 rfl 0 x, h2.setNew hB0 (by omega) 0 x, x, h3.set_ 0 x⟩
  rintro e w' ⟨h1, h2, h3, _⟩
  exact Or.inl ⟨hM, h1, h2, h3⟩
end Go.Proofs.YtdokojlgcplefaaDoor
/- Layer 5: Compact, the call. -/
namespace Go.Proofs.YtdokojlgcplefaaDoor
open Go Go.RowKit
def CoP (B : Nat) (a : Nat → Addr) (w : World) (l d z U n0 m0 V n k : Nat) (ls L : List (List Nat)) (M : Bool × Dk.D) (e : Ending) (w' : World) : Prop :=
 (¬ Hv.Small L ∧ e = .returned (ev (a 0)) ∧ Below w.heap.size w w') ∨ (Hv.Small L ∧ z < Hv.pos L L.length ∧ e = .returned (ev (a 10)) ∧ Below w.heap.size w w') ∨
 (Hv.Small L ∧ Hv.pos L L.length ≤ z ∧ CompactP B a w l d z U n0 m0 V n (Hv.pos L L.length) k ls L M e w')
theorem pos_low (L : List (List Nat)) : ∀ i, Hv.pos L i ≤ 1 + 95 * i
 | 0 => Nat.le_refl _
 | i + 1 => by
  have h1 := pos_low L i
  have h2 := Hv.need_le ((L.getD i []).length : Int)
  rw [Hv.pos_step]
  omega
theorem need_zero {n : Nat} (h : Hv.need (n : Int) = 0) : ¬ (1 ≤ n ∧ n ≤ 3000) := fun h1 => by
 have := Hv.need_pos h1.1 h1.2
 omega
set_option maxRecDepth 100000 in
set_option maxHeartbeats 1000000 in
theorem compact_any {B l d z k U V f : Nat} {S : Dk.D} (a : Nat → Addr) (w0 w : World) (n0 m : Nat) (v : Value) (hUV : (U = 0 ∧ V = 1) ∨ (U = 1 ∧ V = 0)) (hf : f = Hv.fst z V) (hL : LogAt B w l d z U n0 v m false) (hv : v.oneCell' = true) (hD : DkX B w d S k) (ho : S.off = false) (hz : 2 ≤ z) (hi : z + z ≤ S.size) (hk : k + 100000 < 1000000) (hE : Env B a w0 w) (s0 t0 s1 t1 : Nat) (h0 : Hv.headM (Dk.seen S 0) = (s0, t0)) (h1 : Hv.headM (Dk.seen S z) = (s1, t1)) (n : Nat) (hn : n = max (max 1 (s0 + 1)) (s1 + 1)) (htop : n ≤ Hv.top)
  (us : List Value) (ls : List (List Nat)) (hR : Recs B w v us ls) (A : Option Addr) (cA : Nat) (vs : List Value) (L : List (List Nat)) (hx : ∀ w', TFr B w w' → RdLL w' (.slice A L.length cA) vs L) (hxb : ∀ y ∈ L, Sha.Byte y) (hll : L.length ≤ 1000) (hxl : ∀ y ∈ L, y.length ≤ 1000000) :
  Calls Tryd.prog 12 #[.pointer (some ⟨l, 0, none⟩), .slice A L.length cA] w (CoP B a w l d z U n0 m V n (k + z + z + 10) ls L (Hv.layM f z n L S)) := by
 obtain ⟨wa, hwa⟩ : ∃ wa, wa = (w.alloc (.cells #[.pointer (some ⟨l, 0, none⟩)] 30)).alloc (.cells #[.slice A L.length cA] 33) := ⟨_, rfl⟩
 have HWA := Lib.hid hwa
 have HBA : Hid (Below w.heap.size w wa) := Lib.hid (by rw [hwa]; exact ((Below.refl _ _).alloc (Nat.le_refl _) _).alloc (by simp) _)
 have HQ2 : Hid (Blk wa w.heap.size 30 #[.pointer (some ⟨l, 0, none⟩)]) := Lib.hid (by rw [hwa]; exact (Blk.new w _ _).alloc _)
 have HQ3 : Hid (Blk wa (w.heap.size + 1) 33 #[.slice A L.length cA]) := Lib.hid (by
  rw [hwa]
  have := Blk.new (w.alloc (.cells #[.pointer (some ⟨l, 0, none⟩)] 30)) 33 #[.slice A L.length cA]
  simpa using this)
 have HWK : Hid (Hv.Small L → Hv.pos L L.length ≤ z → ∀ wc, Below w.heap.size w wc → Blk wc w.heap.size 30 #[.pointer (some ⟨l, 0, none⟩)] → Blk wc (w.heap.size + 1) 33 #[.slice A L.length cA] →
   Calls Tryd.prog 20 #[.pointer (some ⟨l, 0, none⟩), .func (.func 28) #[] #[.pointer (some ⟨w.heap.size, 0, none⟩), .pointer (some ⟨w.heap.size + 1, 0, none⟩)]] wc (CompactP B a w l d z U n0 m V n (Hv.pos L L.length) (k + z + z + 10) ls L (Hv.layM f z n L S))) := Lib.hid (fun hxs hfit wc hwc h2 h3 =>
  coattempt_any a w0 w n0 m v hUV hf hL hv hD ho hz hi hk hE s0 t0 s1 t1 h0 h1 n hn htop us ls hR A cA vs L hx hxs hxb hll hfit wc (w.heap.size + 1) hwc (by omega) h2 h3)
 have HLA := Lib.hid (hL.below HBA.out)
 have HXA : Hid (RdLL wa (.slice A L.length cA) vs L) := Lib.hid (hx wa (TFr.below HBA.out))
 have HCR : Hid (∀ i, i < L.length → ∃ b o A1 c1, A = some ⟨b, o, none⟩ ∧ wa.cell? ⟨b, o + i, none⟩ = some (.slice A1 (L.getD i []).length c1)) := Lib.hid (fun i hi => by
  obtain ⟨A', c', e1, _, hvl, hAx, hrd⟩ := HXA.out
  injection e1 with x1 x2 x3
  subst x1 x3
  obtain ⟨b, o, hb, hbw, hcell⟩ := hAx (by omega)
  obtain ⟨u, hu⟩ : ∃ u, vs[i]? = some u := ⟨vs[i]'(by omega), List.getElem?_eq_getElem _⟩
  have pc := hcell i u hu
  obtain ⟨A1, c1, e, _⟩ := hrd i u hu
  rw [e] at pc
  exact ⟨b, o, A1, c1, hb, pc⟩)
 have HLN : Hid (∀ i, (L.getD i []).length ≤ 1000000) := Lib.hid (fun i => by
  rw [List.getD_eq_getElem?_getD]
  cases hg : L[i]? with
  | none => exact Nat.zero_le _
  | some y => exact hxl y (List.mem_of_getElem? hg))
 have HPL := Lib.hid (pos_low L)
 have HEA := Lib.hid (hE.below HBA.out)
 have HZ : Hid (S.size ≤ 4096) := Lib.hid hD.ok.size
 have HUV := Lib.hid hUV
 have HI := Lib.hid hi
 generalize Hv.layM f z n L S = M at *
 have p2 : wa.cell? ⟨w.heap.size, 0, none⟩ = some (.pointer (some ⟨l, 0, none⟩)) := HQ2.out.cell 0
 have p3 : wa.cell? ⟨w.heap.size + 1, 0, none⟩ = some (.slice A L.length cA) := HQ3.out.cell 0
 have c10 : wa.cell? ⟨l, 10, none⟩ = some (.bool false) := HLA.out.blk.cell 10
 have hzz : (z : Int) ≤ 4096 := by have := HZ.out; omega
 have hlL : (L.length : Int) ≤ 1000 := by omega
 have pR : wa.cell? ⟨0, 0, none⟩ = some (ev (a 0)) := (HEA.out.s 0 (by omega)).var
 have pQ : ∀ j, (wa.drewN j).cell? ⟨3, 0, none⟩ = some (ev (a 10)) := fun j => ((HEA.out.below (below_drewN (Below.refl _ _) j)).s 10 (by omega)).var
 have HPQ := Lib.hid pQ
 rw [HWA.out] at p2 p3 c10
 have HMZ : Hid ((wa.heap.size : Int) < 0 ∨ True) := Lib.hid (Or.inr trivial)
 clear hwa hL hv hD hE h0 h1 hn hUV hf hR hx hxb hxl pQ hi ho hz HMZ
 go_enter Tryd.func12, Tryd.ntmps12
 go_wp2_with fail
 rw [← HWA.out] at p2 p3 c10 ⊢
 have HS0 : Hid (∀ j, j < 0 → 1 ≤ (L.getD j []).length ∧ (L.getD j []).length ≤ 3000) := Lib.hid (fun j h => absurd h (by omega))
 go_loopw [5, 16] (fun s j wr => ∃ i : Nat, i ≤ L.length ∧ j = .int .i64 (i : Int) ∧ s = .int .i64 (Hv.pos L i : Nat) ∧ wr = wa ∧ Hid (∀ j, j < i → 1 ≤ (L.getD j []).length ∧ (L.getD j []).length ≤ 3000)) (fun _ j _ => L.length - (intOf j).toNat)
 case atStart => exact ⟨0, Nat.zero_le _, rfl, rfl, rfl, HS0⟩
 case round =>
  obtain ⟨i, hi, rfl, rfl, rfl, HSM⟩ := hrel
  by_cases hlt : i < L.length
  ·obtain ⟨b, o, A1, c1, rfl, pc⟩ := HCR.out i hlt
   have hli := HLN.out i
   have hpl := HPL.out i
   have HPS : Hid (Hv.pos L (i + 1) = Hv.pos L i + Hv.need ((L.getD i []).length : Int)) := Lib.hid rfl
   have HL2 : Hid ((L.getD i []).length = (L.getD i []).length) := Lib.hid rfl
   have CN := need_any ((L.getD i []).length : Int)
   have hnl := Hv.need_le ((L.getD i []).length : Int)
   obtain ⟨ln, hln⟩ : ∃ ln, ln = (L.getD i []).length := ⟨_, rfl⟩
   rw [← hln] at pc CN hli HPS hnl
   obtain ⟨nd, hnd⟩ : ∃ nd, nd = Hv.need (ln : Int) := ⟨_, rfl⟩
   obtain ⟨pp, hpp⟩ : ∃ pp, pp = Hv.pos L i := ⟨_, rfl⟩
   rw [← hnd] at CN HPS hnl
   rw [← hpp] at HPS hpl ⊢
   have HLT := Lib.hid hlt
   have HND := Lib.hid hnd
   have HLE := Lib.hid hln
   have i1 : (i : Int) < (L.length : Int) := by omega
   have i2 : (pp : Int) + (nd : Int) ≤ 100000 := by omega
   have i3 : (ln : Int) ≤ 1000000 := by omega
   clear HL2 hln hnd hpp hpl hli hnl hi hlt
   rcases Nat.eq_zero_or_pos nd with h0 | h0
   ·have HF : Hid (¬ Hv.Small L) := Lib.hid (fun hs => need_zero (by rw [← HND.out]; exact h0) (by rw [HLE.out]; exact hs i HLT.out))
    subst h0
    go_wp2_with fail
    go_at_call 22
    refine (CN _ (WalkArith.wf_i64 (by omega))).mono ?_
    rintro e wn ⟨rfl, rfl⟩
    clear CN
    go_wp2_with fail
    go_ret
    exact Or.inl ⟨HF.out, rfl, HBA.out⟩
   ·have b0 : ((nd : Int) == 0) = false := by simp; omega
    have HN1 := Lib.hid h0
    clear h0
    go_wp2_with fail
    go_at_call 22
    refine (CN _ (WalkArith.wf_i64 (by omega))).mono ?_
    rintro e wn ⟨rfl, rfl⟩
    clear CN
    have HS1 : Hid (∀ j, j < i + 1 → 1 ≤ (L.getD j []).length ∧ (L.getD j []).length ≤ 3000) := Lib.hid (fun j hj => by
     rcases Nat.lt_or_ge j i with h | h
     ·exact HSM.out j h
     ·obtain rfl : j = i := by omega
      rw [← HLE.out]
      exact Hv.need_bounds (by rw [← HND.out]; have := HN1.out; omega))
    go_wp2
    go_roundw
    case rel => exact ⟨i + 1, HLT.out, by go_num, by rw [HPS.out]; go_num, trivial, HS1⟩
    case measure => have := HLT.out; simp [intOf]; omega
  ·obtain rfl : i = L.length := by omega
   have HSMA : Hid (Hv.Small L) := Lib.hid HSM.out
   have hpl := HPL.out L.length
   obtain ⟨pp, hpp⟩ : ∃ pp, pp = Hv.pos L L.length := ⟨_, rfl⟩
   rw [← hpp] at HWK hpl ⊢
   have HPP := Lib.hid hpp
   clear hi hlt hpp p3 c10
   go_wp2_with fail
   have HS7 : Hid (∀ j, Blk (wr.drewN j) w.heap.size 30 #[.pointer (some ⟨l, 0, none⟩)] ∧ Blk (wr.drewN j) l 59 (logCells d z U n0 v m false)) := Lib.hid (fun j => ⟨HQ2.out.drewN j, HLA.out.blk.drewN j⟩)
   refine wp_region_held (S := (fun w' => Blk w' w.heap.size 30 #[.pointer (some ⟨l, 0, none⟩)] ∧ Blk w' l 59 (logCells d z U n0 v m false))) (by kernel_rfl) ?_
   change wpAnyH _ _ _ _ _ _ _ _ (wr.drewN 1)
   refine wpAnyH_take (i := 0) (v := ?_) rfl (by kernel_rfl) (by kernel_rfl) (by kernel_rfl) (fun _ _ _ h => h) (Or.inl ⟨by rfl, ?_⟩) ((HS7.out 1)) ?_
   rotate_left
   ·intro w _; go_simp; with_reducible rfl
   try simp only [Act.put, List.getElem_toArray, List.getElem_cons_zero, List.setIfInBounds_toArray, List.set_cons_zero, List.set_cons_succ]
   refine wpAnyH_take (i := 1) (v := ?_) rfl (by kernel_rfl) (by kernel_rfl) (by kernel_rfl) (fun _ _ _ h => h) (Or.inl ⟨by rfl, ?_⟩) ((HS7.out 1)) ?_
   rotate_left
   ·intro w' hS; have q0 : w'.cell? ⟨w.heap.size, 0, none⟩ = some (.pointer (some ⟨l, 0, none⟩)) := hS.1.cell 0; go_simp; with_reducible rfl
   try simp only [Act.put, List.getElem_toArray, List.getElem_cons_zero, List.getElem_cons_succ, List.setIfInBounds_toArray, List.set_cons_zero, List.set_cons_succ]
   refine wpAnyH_take (i := 2) (v := ?_) rfl (by kernel_rfl) (by kernel_rfl) (by kernel_rfl) (fun _ _ _ h => h) (Or.inl ⟨by rfl, ?_⟩) ((HS7.out 1)) ?_
   rotate_left
   ·intro w' hS; have q0 : w'.cell? ⟨w.heap.size, 0, none⟩ = some (.pointer (some ⟨l, 0, none⟩)) := hS.1.cell 0; go_simp; with_reducible rfl
   try simp only [Act.put, List.getElem_toArray, List.getElem_cons_zero, List.getElem_cons_succ, List.setIfInBounds_toArray, List.set_cons_zero, List.set_cons_succ]
   refine wpAnyH_take (i := 3) (v := ?_) rfl (by kernel_rfl) (by kernel_rfl) (by kernel_rfl) (fun _ _ _ h => h) (Or.inl ⟨by rfl, ?_⟩) ((HS7.out 1)) ?_
   rotate_left
   ·intro w _; go_simp; with_reducible rfl
   try simp only [Act.put, List.getElem_toArray, List.getElem_cons_zero, List.getElem_cons_succ, List.setIfInBounds_toArray, List.set_cons_zero, List.set_cons_succ]
   refine wpAnyH_take (i := 4) (v := ?_) rfl (by kernel_rfl) (by kernel_rfl) (by kernel_rfl) (fun _ _ _ h => h) (Or.inl ⟨by rfl, ?_⟩) ((HS7.out 1)) ?_
   rotate_left
   ·intro w _; go_simp; with_reducible rfl
   try simp only [Act.put, List.getElem_toArray, List.getElem_cons_zero, List.getElem_cons_succ, List.setIfInBounds_toArray, List.set_cons_zero, List.set_cons_succ]
   refine wpAnyH_take (i := 5) (v := ?_) rfl (by kernel_rfl) (by kernel_rfl) (by kernel_rfl) (fun _ _ _ h => h) (Or.inl ⟨by rfl, ?_⟩) ((HS7.out 1)) ?_
   rotate_left
   ·intro w' hS; have q0 : w'.cell? ⟨l, 6, none⟩ = some (.int .i64 (U : Nat)) := hS.2.cell 6; go_simp; with_reducible rfl
   try simp only [Act.put, List.getElem_toArray, List.getElem_cons_zero, List.getElem_cons_succ, List.setIfInBounds_toArray, List.set_cons_zero, List.set_cons_succ]
   refine wpAnyH_take (i := 6) (v := ?_) rfl (by kernel_rfl) (by kernel_rfl) (by kernel_rfl) (fun _ _ _ h => h) (Or.inl ⟨by rfl, ?_⟩) ((HS7.out 1)) ?_
   rotate_left
   ·intro w _; go_simp; with_reducible rfl
   try simp only [Act.put, List.getElem_toArray, List.getElem_cons_zero, List.getElem_cons_succ, List.setIfInBounds_toArray, List.set_cons_zero, List.set_cons_succ]
   refine wpAnyH_take (i := 7) (v := ?_) rfl (by kernel_rfl) (by kernel_rfl) (by kernel_rfl) (fun _ _ _ h => h) (Or.inl ⟨by rfl, ?_⟩) ((HS7.out 1)) ?_
   rotate_left
   ·intro w _; go_simp; with_reducible rfl
   try simp only [Act.put, List.getElem_toArray, List.getElem_cons_zero, List.getElem_cons_succ, List.setIfInBounds_toArray, List.set_cons_zero, List.set_cons_succ]
   refine wpAnyH_take (i := 8) (v := .pointer (some ⟨l, 3 * U, none⟩)) rfl (by kernel_rfl) (by kernel_rfl) (by kernel_rfl) (fun _ _ _ h => h) (Or.inl ⟨by rfl, ?_⟩) ((HS7.out 1)) ?_
   ·intro w' _; rcases HUV.out with ⟨rfl, rfl⟩ | ⟨rfl, rfl⟩ <;> (go_simp; try with_reducible rfl)
   try simp only [Act.put, List.getElem_toArray, List.getElem_cons_zero, List.getElem_cons_succ, List.setIfInBounds_toArray, List.set_cons_zero, List.set_cons_succ]
   refine wpAnyH_take (i := 9) (v := .pointer (some ⟨l, 3 * U + 2, none⟩)) rfl (by kernel_rfl) (by kernel_rfl) (by kernel_rfl) (fun _ _ _ h => h) (Or.inl ⟨by rfl, ?_⟩) ((HS7.out 1)) ?_
   ·intro w' _; rcases HUV.out with ⟨rfl, rfl⟩ | ⟨rfl, rfl⟩ <;> (go_simp; try with_reducible rfl)
   try simp only [Act.put, List.getElem_toArray, List.getElem_cons_zero, List.getElem_cons_succ, List.setIfInBounds_toArray, List.set_cons_zero, List.set_cons_succ]
   refine wpAnyH_take (i := 10) (v := .int .i64 (z : Int)) rfl (by kernel_rfl) (by kernel_rfl) (by kernel_rfl) (fun _ _ _ h => h) (Or.inl ⟨by rfl, ?_⟩) ((HS7.out 1)) ?_
   ·intro w' hS; have q0 : w'.cell? ⟨l, 3 * U + 2, none⟩ = some (.int .i64 (z : Int)) := (by rcases HUV.out with ⟨rfl, rfl⟩ | ⟨rfl, rfl⟩; exact hS.2.cell 2; exact hS.2.cell 5); go_simp
   try simp only [Act.put, List.getElem_toArray, List.getElem_cons_zero, List.getElem_cons_succ, List.setIfInBounds_toArray, List.set_cons_zero, List.set_cons_succ]
   refine wpAnyH_take (i := 11) (v := ?_) rfl (by kernel_rfl) (by kernel_rfl) (by kernel_rfl) (fun _ _ _ h => h) (Or.inl ⟨by rfl, ?_⟩) ((HS7.out 1)) ?_
   rotate_left
   ·intro w _; go_simp; with_reducible rfl
   try simp only [Act.put, List.getElem_toArray, List.getElem_cons_zero, List.getElem_cons_succ, List.setIfInBounds_toArray, List.set_cons_zero, List.set_cons_succ]
   refine wpAnyH_done (by kernel_rfl) ?_ _
   by_cases hfz : z < pp
   ·have i5 : (z : Int) < (pp : Int) := by omega
    have HFZ := Lib.hid hfz
    have pq := HPQ.out 1
    clear hfz
    go_wp2_with fail
    go_ret
    exact Or.inr (Or.inl ⟨HSMA.out, by rw [← HPP.out]; exact HFZ.out, rfl, below_drewN HBA.out 1⟩)
   ·have i5 : ¬ (z : Int) < (pp : Int) := by omega
    have CA := HWK.out HSMA.out (by omega) (wr.drewN 1) (below_drewN HBA.out 1) (HQ2.out.drewN 1) (HQ3.out.drewN 1)
    have HFZ : Hid (pp ≤ z) := Lib.hid (by omega)
    have p22 : (wr.drewN 1).cell? ⟨w.heap.size, 0, none⟩ = some (.pointer (some ⟨l, 0, none⟩)) := (HQ2.out.drewN 1).cell 0
    have hmf : ∀ (fn : Fn) (first cap : Array Value) (w : World), (Instr.makeFunc fn first cap).run Tryd.prog w = .ok (.func fn first cap) w := fun _ _ _ _ => rfl
    clear hfz
    go_wp2_with fail
    go_at_call 20
    refine CA.mono ?_
    rintro e w8 hP
    have HB : Hid (pp = Hv.pos L L.length) := HPP
    clear CA
    rcases hP with ⟨hm, rfl, h2, h3⟩ | ⟨hm, rfl, h2, h3⟩
    ·have HF : Hid (CompactP B a w l d z U n0 m V n (Hv.pos L L.length) (k + z + z + 10) ls L M (.returned .nilIface) w8) := Lib.hid (Or.inl ⟨hm, rfl, HB.out ▸ h2, h3⟩)
     clear hm h2 h3 p2 p22
     go_wp2_with fail
     go_ret
     exact Or.inr (Or.inr ⟨HSMA.out, by rw [← HPP.out]; exact HFZ.out, HF.out⟩)
    ·have HF : Hid (CompactP B a w l d z U n0 m V n (Hv.pos L L.length) (k + z + z + 10) ls L M (.returned (ev (a 15))) w8) := Lib.hid (Or.inr ⟨hm, rfl, h2, h3⟩)
     clear hm h2 h3 p2 p22
     go_wp2_with fail
     go_ret
     exact Or.inr (Or.inr ⟨HSMA.out, by rw [← HPP.out]; exact HFZ.out, HF.out⟩)
end Go.Proofs.YtdokojlgcplefaaDoor
