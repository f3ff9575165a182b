/- An entry copied: entry.Copy. -/
import Derived.Test.YtgcgomdhdgjpdaaGreatDoorMEn19s
import Derived.Test.YtgcgomdhdgjpdaaGreatDoorMUpto
import Derived.Test.YtgcgomdhdgjpdaaGreatDoorMRp13
namespace Go.Proofs.YtgcgomdhdgjpdaaGreatDoor
open Go Go.RowKit
structure CpT (B : Nat) (w : World) (u : Value) (xs : List Nat) : Prop where
 rd : Rd w u xs
 off : 0 < xs.length → ∃ g cs c, u = .slice (some ⟨g, 0, none⟩) xs.length c ∧ B ≤ g ∧ Blk w g 5 cs
theorem CpT.below {B : Nat} {w w' : World} {u : Value} {xs : List Nat} (h : CpT B w u xs) (hb : Below w.heap.size w w') : CpT B w' u xs :=
 ⟨h.rd.below hb (Nat.le_refl _), fun h0 => by
  obtain ⟨g, cs, c, hu, hB, hg⟩ := h.off h0
  exact ⟨g, cs, c, hu, hB, hg.below hb hg.lt⟩⟩
theorem CpT.grown {B : Nat} {w w' : World} {u : Value} {xs : List Nat} {row : Option Nat} (h : CpT B w u xs) (hg : w.grownBy w' row) (hr : ∀ g, row = some g → ∃ cs T z, w.heap[g]? = some (.cells cs T z) ∧ T ≠ 5) : CpT B w' u xs := by
 have hne : ∀ g cs, Blk w g 5 cs → some g ≠ row := fun g cs hx e => by
  obtain ⟨cs', T, z', h1, h2⟩ := hr g e.symm
  have hx' : w.heap[g]? = some (.cells cs 5 (0, 0)) := hx
  rw [hx'] at h1
  injection h1 with h1
  injection h1 with _ h3 _
  exact h2 h3.symm
 refine ⟨?_, fun h0 => ?_⟩
 ·obtain ⟨A, c, hv, hc, hA⟩ := h.rd
  refine ⟨A, c, hv, hc, fun h0 => ?_⟩
  obtain ⟨b, o, ha, hl, hx⟩ := hA h0
  obtain ⟨g, cs, c2, hu, _, hgb⟩ := h.off h0
  rw [hv, ha] at hu
  injection hu with e1 _ _
  injection e1 with e1
  injection e1 with e1 _ _
  subst e1
  refine ⟨b, o, ha, Nat.lt_of_lt_of_le hl hg.size, fun i hi => ?_⟩
  rw [World.cell?_of_block (a := ⟨b, o + i, none⟩) (hg.block b hl (hne b cs hgb))]
  exact hx i hi
 ·obtain ⟨g, cs, c, hu, hB, hgb⟩ := h.off h0
  exact ⟨g, cs, c, hu, hB, hgb.grown hg (hne g cs hgb)⟩
structure CpW (w wr : World) (ts : List En.Bt) (v : Value) (us : List Value) (k : Nat) : Prop where
 own : wr.ownsRow w.heap.size 46 1 v ts.length us
 bel : Below w.heap.size w wr
 old : ∀ i, k ≤ i → us[i]? = (ts.map (·.val))[i]?
 new : ∀ i (h : i < ts.length), i < k → ∃ u, us[i]? = some u ∧ CpT w.heap.size wr u ts[i].text
section
variable {w wr w' : World} {ts : List En.Bt} {v : Value} {us : List Value} {k : Nat}
theorem CpW.below (h : CpW w wr ts v us k) (hb : Below wr.heap.size wr w') : CpW w w' ts v us k :=
 ⟨h.own.kept (only_of_below hb none) (by cases hv : v.ownBlock with | none => exact Or.inl rfl | some g => exact Or.inr (by simp)), below_next h.bel hb, h.old, fun i hi hk => by
  obtain ⟨u, hu, hc⟩ := h.new i hi hk
  exact ⟨u, hu, hc.below hb⟩⟩
theorem CpW.put {g n cap : Nat} (h : CpW w wr ts (.slice (some ⟨g, 0, none⟩) n cap) us k) (hn : n = ts.length) (hk : k < ts.length) {u : Value} (hu : CpT w.heap.size wr u ts[k].text) : CpW w (wr.setCell ⟨g, k, none⟩ u) ts (.slice (some ⟨g, 0, none⟩) n cap) (us.set k u) (k + 1) := by
 subst hn
 have hs := h.own.stored k u
 have hl := h.own.lt g rfl
 have hT : ∃ cs T z, wr.heap[g]? = some (.cells cs T z) ∧ T ≠ 5 := by
  rcases h.own.2 with ⟨h', _⟩ | ⟨g', cap', cur, h', _, hg, _⟩
  ·simp at h'
  ·simp only [Value.slice.injEq, Option.some.injEq, Addr.mk.injEq, and_true, true_and] at h'
   obtain ⟨rfl, rfl⟩ := h'
   exact ⟨cur, _, _, hg, by decide⟩
 have hc : ∀ x xs, CpT w.heap.size wr x xs → CpT w.heap.size (wr.setCell ⟨g, k, none⟩ u) x xs := fun x xs hx => hx.grown hs.2 fun g' e => by injection e with e; subst e; exact hT
 have hlen : us.length = ts.length := by have := h.own.1; omega
 refine ⟨hs.1, h.bel.setCell (p := ⟨g, k, none⟩) hl.1 u, fun i hi => ?_, fun i hi hik => ?_⟩
 ·rw [List.getElem?_set_ne (by omega)]
  exact h.old i (by omega)
 ·by_cases hik2 : i = k
  ·subst hik2
   exact ⟨u, by rw [List.getElem?_set_self (by omega)], hc _ _ hu⟩
  ·obtain ⟨x, hx, hcx⟩ := h.new i hi (by omega)
   exact ⟨x, by rw [List.getElem?_set_ne (by omega)]; exact hx, hc _ _ hcx⟩
end
structure CpE (w w' : World) (e : En.E) (cs : Array Value) (U : Option Addr) (cu : Nat) (O : Option Addr) (co : Nat) (ts : List En.Bt) : Prop where
 ent : EnC w' e cs U cu O co ts
 bel : Below w.heap.size w w'
 ups : w'.ownsRow w.heap.size 89 65 (.slice U e.ups.length cu) e.ups.length (cellsU e.ups)
 objs : w'.ownsRow w.heap.size 46 1 (.slice O e.objs.length co) e.objs.length (ts.map (·.val))
 txt : ∀ t ∈ ts, CpT w.heap.size w' t.val t.text
def CpPost (e : En.E) (w : World) (r : Ending) (w' : World) : Prop := ∃ cs U cu O co ts, r = .returned (.agg cs) ∧ CpE w w' e cs U cu O co ts
theorem CpW.all {w wr : World} {ts : List En.Bt} {O : Option Addr} {co n : Nat} {us : List Value} (h : CpW w wr ts (.slice O n co) us ts.length) (hy : ∀ t ∈ ts, Sha.Byte t.text) :
  ∃ ts' : List En.Bt, ts'.map (·.text) = ts.map (·.text) ∧ ts'.map (·.val) = us ∧ BtT wr O ts.length ts' ∧ ∀ t ∈ ts', CpT w.heap.size wr t.val t.text := by
 have hlen : us.length = ts.length := by have := h.own.1; omega
 have hn : n = ts.length := by
  rcases h.own.2 with ⟨h', h0⟩ | ⟨g', cap', cur, h', _⟩
  ·injection h' with _ h2 _; omega
  ·injection h' with _ h2 _
 obtain ⟨ts', hts⟩ : ∃ ts', ts' = List.zipWith (fun t u => (⟨t.text, u⟩ : En.Bt)) ts us := ⟨_, rfl⟩
 have hl' : ts'.length = ts.length := by rw [hts, List.length_zipWith]; omega
 have hv : ∀ i, i < ts.length → us[i]? = some (us.getD i undef) := fun i hi => by
  rw [List.getD_eq_getElem?_getD, List.getElem?_eq_getElem (show i < us.length by omega)]; rfl
 have hg : ∀ i (hi : i < ts.length), ts'[i]? = some ⟨ts[i].text, us.getD i undef⟩ := fun i hi => by
  have h1 := hv i hi
  subst hts
  rw [List.getElem?_zipWith, List.getElem?_eq_getElem hi, h1]
 have hm : ∀ t ∈ ts', ∃ i, ∃ hi : i < ts.length, t = ⟨ts[i].text, us.getD i undef⟩ := fun t ht => by
  obtain ⟨i, hi, rfl⟩ := List.mem_iff_getElem.1 ht
  have h1 := hg i (by omega)
  rw [List.getElem?_eq_getElem hi] at h1
  exact ⟨i, by omega, Option.some.inj h1⟩
 have hc : ∀ t ∈ ts', CpT w.heap.size wr t.val t.text := fun t ht => by
  obtain ⟨i, hi, rfl⟩ := hm t ht
  obtain ⟨u, hu, hc⟩ := h.new i hi hi
  rw [hv i hi] at hu
  injection hu with hu
  show CpT w.heap.size wr (us.getD i undef) ts[i].text
  rw [hu]
  exact hc
 refine ⟨ts', ?_, ?_, ⟨hl'.symm, fun h0 => ?_, fun t ht => ⟨(hc t ht).rd, ?_⟩⟩, hc⟩
 ·apply List.ext_getElem?
  intro i
  rw [List.getElem?_map, List.getElem?_map]
  by_cases hi : i < ts.length
  ·rw [hg i hi, List.getElem?_eq_getElem hi]; rfl
  ·rw [List.getElem?_eq_none (by omega), List.getElem?_eq_none (by omega)]
 ·apply List.ext_getElem?
  intro i
  rw [List.getElem?_map]
  by_cases hi : i < ts.length
  ·rw [hg i hi, hv i hi]; rfl
  ·rw [List.getElem?_eq_none (by omega), List.getElem?_eq_none (by omega)]; rfl
 ·rcases h.own.2 with ⟨_, h'⟩ | ⟨g', cap', cur, h', _, hgg, hnc, hcm, hcs, htk⟩
  ·omega
  ·injection h' with e1 _ _
   refine ⟨g', 0, e1, (Array.getElem?_eq_some_iff.1 hgg).1, fun i t ht => ?_⟩
   have hB : Blk wr g' 46 cur := hgg
   have hi : i < ts.length := by have := (List.getElem?_eq_some_iff.1 ht).1; omega
   rw [hg i hi] at ht
   obtain rfl := Option.some.inj ht
   have h2 := hv i hi
   show wr.cell? ⟨g', 0 + i, none⟩ = some (us.getD i undef)
   rw [Nat.zero_add, hB.cell i]
   generalize us.getD i undef = x at h2
   rw [← htk, List.getElem?_take] at h2
   split at h2
   ·simpa using h2
   ·cases h2
 ·obtain ⟨i, hi, e⟩ := hm t ht
  have h1 := hy _ (List.getElem_mem hi)
  rw [e]
  exact h1
structure CpS (w wr : World) (e : En.E) (ts : List En.Bt) (v1 v2 : Value) : Prop where
 bel : Below w.heap.size w wr
 box : Blk wr w.heap.size 32 #[.int .i64 e.client, .int .i64 e.number, .int .i64 e.answer, v1, v2]
 res : Blk wr (w.heap.size + 1) 32 zR
section
variable {w wr w' : World} {e : En.E} {ts : List En.Bt} {v1 v2 : Value}
theorem CpS.below (h : CpS w wr e ts v1 v2) (hb : Below wr.heap.size wr w') : CpS w w' e ts v1 v2 := ⟨below_next h.bel hb, h.box.below hb h.box.lt, h.res.below hb h.res.lt⟩
theorem CpS.set3 (h : CpS w wr e ts v1 v2) (v : Value) : CpS w (wr.setCell ⟨w.heap.size, 3, none⟩ v) e ts v v2 :=
 ⟨h.bel.setCell (p := ⟨w.heap.size, 3, none⟩) (Nat.le_refl _) v, by have h1 := h.box.set_ 3 v; exact h1, h.res.far (by show w.heap.size + 1 ≠ w.heap.size; omega) v⟩
theorem CpS.set4 (h : CpS w wr e ts v1 v2) (v : Value) : CpS w (wr.setCell ⟨w.heap.size, 4, none⟩ v) e ts v1 v :=
 ⟨h.bel.setCell (p := ⟨w.heap.size, 4, none⟩) (Nat.le_refl _) v, by have h1 := h.box.set_ 4 v; exact h1, h.res.far (by show w.heap.size + 1 ≠ w.heap.size; omega) v⟩
theorem CpS.own {z n B : Nat} {t : TypeId} {v u : Value} {xs : List Value} {i : Nat} (_h : CpS w wr e ts v1 v2) (ho : wr.ownsRow B t z v n xs) (hB : w.heap.size < B) : (wr.setCell ⟨w.heap.size, i, none⟩ u).ownsRow B t z v n xs := ownsRow_far ho hB u
end
theorem own_up {w : World} {B B' z n : Nat} {t : TypeId} {v : Value} {xs : List Value} (h : w.ownsRow B t z v n xs) (hB : B' ≤ B) : w.ownsRow B' t z v n xs := own_low h hB
structure CpR (w wr : World) (e : En.E) (ts : List En.Bt) (v1 v2 : Value) (us : List Value) (k : Nat) : Prop where
 s : CpS w wr e ts v1 v2
 u : wr.ownsRow (w.heap.size + 1) 89 65 v1 e.ups.length (cellsU e.ups)
 t : CpW w wr ts v2 us k
theorem blk_ne {w : World} {g g' t t' : Nat} {cs cs' : Array Value} (h : Blk w g t cs) (h' : Blk w g' t' cs') (ht : t ≠ t') : g ≠ g' := fun e => by
 subst e
 have h1 : w.heap[g]? = some (.cells cs t (0, 0)) := h
 have h2 : w.heap[g]? = some (.cells cs' t' (0, 0)) := h'
 rw [h1] at h2
 injection h2 with h2
 injection h2 with _ h3 _
 exact ht h3
theorem own_blk {w : World} {B z n : Nat} {t : TypeId} {v : Value} {xs : List Value} (h : w.ownsRow B t z v n xs) {g : Nat} (hg : v.ownBlock = some g) : ∃ cs, Blk w g t cs := by
 rcases h.2 with ⟨h', _⟩ | ⟨g', cap', cur, h', _, hh, _⟩
 ·rw [h'] at hg; simp [Value.ownBlock] at hg
 ·rw [h'] at hg
  obtain rfl : g' = g := by simpa [Value.ownBlock] using hg
  exact ⟨cur, hh⟩
section
variable {w wr w' : World} {e : En.E} {ts : List En.Bt} {v1 v2 : Value} {us : List Value} {k : Nat}
theorem CpR.below (h : CpR w wr e ts v1 v2 us k) (hb : Below wr.heap.size wr w') : CpR w w' e ts v1 v2 us k :=
 ⟨h.s.below hb, h.u.kept (only_of_below hb none) (by cases hv : v1.ownBlock with | none => exact Or.inl rfl | some g => exact Or.inr (by simp)), h.t.below hb⟩
theorem CpR.put {g n cap : Nat} (h : CpR w wr e ts v1 (.slice (some ⟨g, 0, none⟩) n cap) us k) (hn : n = ts.length) (hk : k < ts.length) {u : Value} (hu : CpT w.heap.size wr u ts[k].text) : CpR w (wr.setCell ⟨g, k, none⟩ u) e ts v1 (.slice (some ⟨g, 0, none⟩) n cap) (us.set k u) (k + 1) := by
 obtain ⟨cs, hg⟩ := own_blk h.t.own (g := g) rfl
 have h1 := h.t.put hn hk hu
 refine ⟨⟨h1.bel, h.s.box.far (blk_ne h.s.box hg (by decide)) u, h.s.res.far (blk_ne h.s.res hg (by decide)) u⟩, ?_, h1⟩
 exact h.u.kept (only_setCell (World.grownBy.refl wr _) (Or.inl rfl) _ : wr.grownBy _ (some g)) (by
  cases hv : v1.ownBlock with
  | none => exact Or.inl rfl
  | some g' =>
   obtain ⟨cs', hg'⟩ := own_blk h.u hv
   exact Or.inr (fun e => by injection e with e; exact blk_ne hg' hg (by decide) e))
end
set_option maxRecDepth 100000 in
set_option maxHeartbeats 8000000 in
theorem ecopy_any (e : En.E) (ca : Array Value) (U O : Option Addr) (cu co : Nat) (ts : List En.Bt) (w : World) (h : EnC w e ca U cu O co ts) (hu : e.ups.length ≤ 1000) (hno : e.objs.length ≤ 1000) (hz : ∀ x ∈ e.objs, x.length ≤ 100000) :
  Calls Tryz.prog 24 #[.agg ca] w (CpPost e w) := by
 obtain ⟨w2, hw2⟩ : ∃ w2, w2 = (w.alloc (.cells ca 32)).alloc (.cells zR 32) := ⟨_, rfl⟩
 have hb : EnB w w2 e ca U cu O co ts := hw2 ▸ (EnB.of h).below ((Below.refl _ _).alloc (Nat.le_refl _) _)
 have hr1 : Blk w2 (w.heap.size + 1) 32 zR := by rw [hw2]; have h1 := Blk.new (w.alloc (.cells ca 32)) 32 zR; rwa [World.size_alloc] at h1
 have hsz : w2.heap.size = w.heap.size + 2 := by rw [hw2]; simp
 have HS : Hid (CpS w w2 e ts (.slice U e.ups.length cu) (.slice O e.objs.length co)) := Lib.hid ⟨hb.bel, by have h1 := hb.box; rw [hb.ent.cells] at h1; exact h1, hr1⟩
 have p3 := hb.c3
 have HSZ := Lib.hid hsz
 have H0 := Lib.hid h
 have HNO := Lib.hid hno
 have HZ := Lib.hid hz
 have CU := cloneU_any e.ups U e.ups.length cu w2 hb.ent.ups rfl hb.ent.fit hu
 have e1 := hw2.symm
 obtain ⟨nu, hnu⟩ : ∃ n, n = e.ups.length := ⟨_, rfl⟩
 obtain ⟨no, hno'⟩ : ∃ n, n = e.objs.length := ⟨_, rfl⟩
 rw [← hnu] at p3 CU HS
 rw [← hno'] at HS
 have HNU := Lib.hid hnu
 have HNO2 := Lib.hid hno'
 clear h hb hr1 hsz hw2 hu hno hz hnu hno'
 go_enter Tryz.func24, Tryz.ntmps24
 go_wp2_with (go_at_call 38; refine pause ?_)
 unfold Paused
 refine CU.mono ?_
 rintro r w3 ⟨v1, rfl, ho1, hb3⟩
 have HS3 := Lib.hid (HS.out.below hb3)
 have HO1 : Hid (w3.ownsRow (w.heap.size + 1) 89 65 v1 nu (cellsU e.ups)) := Lib.hid (own_up ho1 (by rw [HSZ.out]; omega))
 have p3b : w3.cell? ⟨w.heap.size, 3, none⟩ = some (.slice U nu cu) := HS3.out.box.cell 3
 have f3b := HS3.out.box.frozen 3
 clear ho1 hb3 CU p3 e1 HS HSZ
 clear w2
 obtain ⟨A1, c1, rfl⟩ := own_slice HO1.out
 have HS4 := Lib.hid (HS3.out.set3 (.slice A1 nu c1))
 have HO2 := Lib.hid (HS3.out.own (i := 3) (u := .slice A1 nu c1) HO1.out (Nat.lt_succ_self _))
 have e4 : ∃ w4, w3.setCell ⟨w.heap.size, 3, none⟩ (.slice A1 nu c1) = w4 := ⟨_, rfl⟩
 obtain ⟨w4, hw4⟩ := e4
 rw [hw4] at HS4 HO2
 have p4 : w4.cell? ⟨w.heap.size, 4, none⟩ = some (.slice O no co) := HS4.out.box.cell 4
 have CT := cloneT_any ts O no co w4 (by rw [HNO2.out]; exact (H0.out.below HS4.out.bel).objs) (fun ha => by
  rcases Nat.eq_zero_or_pos no with h0 | h0
  ·exact h0
  ·obtain ⟨b, o, hx, _⟩ := H0.out.objs.row (by rw [← HNO2.out]; exact h0)
   rw [ha] at hx; cases hx) (by have := HNO.out; have := HNO2.out; omega)
 go_wp2_with (go_at_call 39; refine pause ?_)
 unfold Paused
 refine CT.mono ?_
 rintro r w5 ⟨v2, rfl, ho2, hb5⟩
 have HS5 := Lib.hid (HS4.out.below hb5)
 have HO3 := Lib.hid (HO2.out.kept (only_of_below hb5 none) (by cases hv : (Value.slice A1 nu c1).ownBlock with | none => exact Or.inl rfl | some g => exact Or.inr (by simp)))
 have HV2 : Hid (w5.ownsRow (w.heap.size + 1) 46 1 v2 no (ts.map (·.val))) := Lib.hid (own_up ho2 (by have := HS4.out.res.lt; omega))
 have p4b : w5.cell? ⟨w.heap.size, 4, none⟩ = some (.slice O no co) := HS5.out.box.cell 4
 have f4b := HS5.out.box.frozen 4
 clear ho2 hb5 CT p4 p3b f3b hw4 HS3 HO1 HS4 HO2
 clear w4 w3
 obtain ⟨A2, c2, rfl⟩ := own_slice HV2.out
 have HS6 := Lib.hid (HS5.out.set4 (.slice A2 no c2))
 have HO6 := Lib.hid (HS5.out.own (i := 4) (u := .slice A2 no c2) HO3.out (Nat.lt_succ_self _))
 have HV6 := Lib.hid (HS5.out.own (i := 4) (u := .slice A2 no c2) HV2.out (Nat.lt_succ_self _))
 have HNT : Hid (no = ts.length) := Lib.hid (by rw [HNO2.out]; exact H0.out.nobj)
 have e6 : ∃ w6, w5.setCell ⟨w.heap.size, 4, none⟩ (.slice A2 no c2) = w6 := ⟨_, rfl⟩
 obtain ⟨w6, hw6⟩ := e6
 rw [hw6] at HS6 HO6 HV6
 have p4c : w6.cell? ⟨w.heap.size, 4, none⟩ = some (.slice A2 no c2) := HS6.out.box.cell 4
 go_wp2
 clear p4b f4b hw6 HS5 HO3 HV2
 clear w5
 have HR0 : Hid (CpR w w6 e ts (.slice A1 nu c1) (.slice A2 no c2) (ts.map (·.val)) 0) := Lib.hid ⟨HS6.out, by rw [← HNU.out]; exact HO6.out, by rw [← HNT.out]; exact own_up HV6.out (Nat.le_succ _), HS6.out.bel, fun i _ => rfl, fun i _ hi => absurd hi (by omega)⟩
 have HN : Hid (no ≤ 1000) := Lib.hid (by rw [HNO2.out]; exact HNO.out)
 clear HV6 HO6 HS6 p4c
 go_loopw [16] (fun i wr => ∃ k : Nat, k ≤ no ∧ i = .int .i64 k ∧ ∃ us, Hid (CpR w wr e ts (.slice A1 nu c1) (.slice A2 no c2) us k)) (fun i _ => no - (intOf i).toNat)
 case atStart => exact ⟨0, Nat.zero_le _, rfl, _, HR0⟩
 case round =>
  obtain ⟨k, hk, rfl, us, HR⟩ := hrel
  by_cases hlt : k < no
  ·have hkt : k < ts.length := by rw [← HNT.out]; exact hlt
   obtain ⟨g, hA2⟩ : ∃ g, A2 = some ⟨g, 0, none⟩ := by
    rcases HR.out.t.own.2 with ⟨_, h'⟩ | ⟨g', cap', cur, h', _⟩
    ·omega
    ·injection h' with e1 _ _
     exact ⟨g', e1⟩
   subst hA2
   obtain ⟨hrd, hby⟩ := H0.out.objs.rd _ (List.getElem_mem hkt)
   have hsm := HZ.out ts[k].text (by rw [← H0.out.txt]; exact List.mem_map.2 ⟨_, List.getElem_mem hkt, rfl⟩)
   have pc : wr.cell? ⟨g, k, none⟩ = some ts[k].val := by
    have h1 := HR.out.t.own
    rw [← HNT.out] at h1
    have h2 := h1.cellAt k (by omega)
    rw [h2, HR.out.t.old k (Nat.le_refl _), List.getElem?_map, List.getElem?_eq_getElem hkt]
    rfl
   have HPUT := Lib.hid (fun (w' : World) (u : Value) (hb : Below wr.heap.size wr w') (hu : CpT w.heap.size w' u ts[k].text) => ((HR.out.below hb).put HNT.out hkt hu))
   generalize ts[k] = t at hrd hby hsm pc HPUT
   obtain ⟨A1', c1', hval⟩ : ∃ A c, t.val = .slice A t.text.length c := by obtain ⟨A, c, h, _⟩ := hrd; exact ⟨A, c, h⟩
   rw [hval] at pc hrd
   have CB := clone_any (.slice A1' t.text.length c1') t.text wr.drew ((hrd.below HR.out.t.bel (Nat.le_refl _)).below (below_drewN (Below.refl _ wr) 1) (Nat.le_refl _)) (by omega)
   obtain ⟨nt, hnt⟩ : ∃ n, n = t.text.length := ⟨_, rfl⟩
   rw [← hnt] at pc CB
   have HNT2 := Lib.hid hnt
   have i1 : ((k : Nat) : Int) < no := by omega
   have i2 : (0 : Int) ≤ ((k : Nat) : Int) := by omega
   have i3 : ((no : Nat) : Int) ≤ 1000 := by have := HN.out; omega
   have HLT : Hid (k + 1 ≤ no) := Lib.hid hlt
   have HSX : Hid (wr.drew.cell? ⟨w.heap.size, 4, none⟩ = some (.slice (some ⟨g, 0, none⟩) no c2)) := Lib.hid (HR.out.s.box.cell 4)
   have HCX : Hid (∃ us, CpR w wr.drew e ts (.slice A1 nu c1) (.slice (some ⟨g, 0, none⟩) no c2) us k) := Lib.hid ⟨us, HR.out.below (below_drewN (Below.refl _ wr) 1)⟩
   clear hkt hrd hby hsm hval hnt hk hlt
   go_wp2_with fail
   refine wp_region_upto (S := (fun w' => w'.cell? ⟨w.heap.size, 4, none⟩ = some (.slice (some ⟨g, 0, none⟩) no c2))) (b := 6) (by kernel_rfl) ?_
   change Upto _ _ _ _ _ _ _ _ _ wr.drew
   refine Upto.takeY (i := 0) (v := ?_) rfl (by kernel_rfl) (by kernel_rfl) (by kernel_rfl) (by kernel_rfl) (fun _ _ _ h => h) (Or.inl ⟨by rfl, ?_⟩) (fun _ => HSX.out) ?_
   rotate_left
   ·intro w' _; go_simp; with_reducible rfl
   try simp only [Act.put, List.getElem_toArray, List.getElem_cons_zero, List.setIfInBounds_toArray, List.set_cons_zero, List.set_cons_succ]
   refine Upto.take (i := 1) (v := ?_) rfl (by kernel_rfl) (by kernel_rfl) (by kernel_rfl) (by kernel_rfl) (fun _ _ _ h => h) (Or.inl ⟨by rfl, ?_⟩) HSX.out ?_
   rotate_left
   ·intro w' hS; go_simp; with_reducible rfl
   try simp only [Act.put, List.getElem_toArray, List.getElem_cons_zero, List.getElem_cons_succ, List.setIfInBounds_toArray, List.set_cons_zero, List.set_cons_succ]
   refine Upto.takeY (i := 2) (v := ?_) rfl (by kernel_rfl) (by kernel_rfl) (by kernel_rfl) (by kernel_rfl) (fun _ _ _ h => h) (Or.inl ⟨by rfl, ?_⟩) (fun _ => HSX.out) ?_
   rotate_left
   ·intro w' _; go_simp; with_reducible rfl
   try simp only [Act.put, List.getElem_toArray, List.getElem_cons_zero, List.getElem_cons_succ, List.setIfInBounds_toArray, List.set_cons_zero, List.set_cons_succ]
   refine Upto.takeY (i := 3) (v := ?_) rfl (by kernel_rfl) (by kernel_rfl) (by kernel_rfl) (by kernel_rfl) (fun _ _ _ h => h) (Or.inl ⟨by rfl, ?_⟩) (fun _ => HSX.out) ?_
   rotate_left
   ·intro w' _; go_simp; with_reducible rfl
   try simp only [Act.put, List.getElem_toArray, List.getElem_cons_zero, List.getElem_cons_succ, List.setIfInBounds_toArray, List.set_cons_zero, List.set_cons_succ]
   refine Upto.one (i := 4) (by kernel_rfl) rfl (by rfl) (fun K hK => ?_)
   go_simp
   refine CB.mono ?_
   rintro r w8 ⟨A9, c9, rfl, hr9, hk9, hb9⟩
   have HW8 := Lib.hid ((HR.out.below (below_drewN (Below.refl _ wr) 1)).below hb9)
   have HCT : Hid (CpT w.heap.size w8 (.slice A9 nt c9) t.text) := Lib.hid ⟨hr9, fun h0 => by
    obtain ⟨g9, cs9, ha9, hg9, hB9⟩ := hk9 (by rw [HNT2.out]; exact h0)
    exact ⟨g9, cs9, c9, by rw [ha9, HNT2.out], Nat.le_trans HR.out.t.bel.size hg9, hB9⟩⟩
   have HN9 := Lib.hid (HPUT.out w8 (.slice A9 nt c9) (below_next (below_drewN (Below.refl _ wr) 1) hb9) HCT.out)
   have HCL : Hid (w8.cell? ⟨w.heap.size, 4, none⟩ = some (.slice (some ⟨g, 0, none⟩) no c2)) := Lib.hid (HW8.out.s.box.cell 4)
   have pq : ∃ x, w8.cell? ⟨g, k, none⟩ = some x := by
    have h1 := HW8.out.t.own
    rw [← HNT.out] at h1
    have h2 := h1.cellAt k (by have := HLT.out; omega)
    have h3 := h1.1
    rw [h2, List.getElem?_eq_getElem (by have := HLT.out; omega)]
    exact ⟨_, rfl⟩
   have pf : w8.frozen? ⟨g, k, none⟩ = false := by
    have h1 := HW8.out.t.own
    rw [← HNT.out] at h1
    exact h1.frozenAt k
   obtain ⟨x9, pq⟩ := pq
   dsimp only
   refine hK _ _ (fun _ _ => HCL.out) ?_; clear hK K CB hr9 hk9 hb9 pc
   try simp only [Act.put, List.getElem_toArray, List.getElem_cons_zero, List.getElem_cons_succ, List.setIfInBounds_toArray, List.set_cons_zero, List.set_cons_succ]
   refine Upto.takeY (i := 5) (v := ?_) rfl (by kernel_rfl) (by kernel_rfl) (by kernel_rfl) (by kernel_rfl) (fun _ _ _ h => h) (Or.inl ⟨by rfl, ?_⟩) (fun _ => HCL.out) ?_
   rotate_left
   ·intro w' _; go_simp; with_reducible rfl
   try simp only [Act.put, List.getElem_toArray, List.getElem_cons_zero, List.getElem_cons_succ, List.setIfInBounds_toArray, List.set_cons_zero, List.set_cons_succ]
   refine Upto.one (i := 6) (by kernel_rfl) rfl (by rfl) (fun K hK => ?_)
   go_simp
   refine hK _ _ (fun h => absurd rfl h) ?_; clear hK K
   try simp only [Act.put, List.getElem_toArray, List.getElem_cons_zero, List.getElem_cons_succ, List.setIfInBounds_toArray, List.set_cons_zero, List.set_cons_succ]
   refine Upto.done (by kernel_rfl) ?_ _
   clear pq pf HPUT HCT HW8 HCL HSX HCX
   go_wp2
   go_roundw
   case rel => exact ⟨k + 1, HLT.out, by go_num, _, HN9⟩
   case measure => have h5 := HLT.out; simp [intOf]; omega
  ·obtain rfl : k = no := by omega
   have ik : ¬ ((k : Nat) : Int) < k := by omega
   have HCA : Hid (CpW w wr ts (.slice A2 k c2) us ts.length) := Lib.hid (by have h1 := HR.out.t; rwa [← HNT.out])
   obtain ⟨ts', h1, h2, h3, h4⟩ := HCA.out.all (fun t ht => (H0.out.objs.rd t ht).2)
   obtain ⟨ce, hce⟩ : ∃ ce : Array Value, ce = #[.int .i64 e.client, .int .i64 e.number, .int .i64 e.answer, .slice A1 nu c1, .slice A2 k c2] := ⟨_, rfl⟩
   have h5 : ce.size = 5 := by rw [hce]; rfl
   have h6 : ce.all (·.oneCell') = true := by rw [hce]; simp [Value.oneCell']
   have hbx : Blk wr w.heap.size 32 ce := by rw [hce]; exact HR.out.s.box
   have hres : Blk (wr.setRow (w.heap.size + 1) ce) (w.heap.size + 1) 32 ce := HR.out.s.res.row _
   have hgr : wr.grownBy (wr.setRow (w.heap.size + 1) ce) (some (w.heap.size + 1)) := only_setRow (World.grownBy.refl wr _) (Or.inl rfl) _
   have hup : (wr.setRow (w.heap.size + 1) ce).ownsRow w.heap.size 89 65 (.slice A1 e.ups.length c1) e.ups.length (cellsU e.ups) := by
    have h7 := HR.out.u
    rw [HNU.out] at h7
    refine own_up (h7.kept hgr ?_) (Nat.le_succ _)
    cases hv : (Value.slice A1 e.ups.length c1).ownBlock with
    | none => exact Or.inl rfl
    | some g' =>
     obtain ⟨cs', hg'⟩ := own_blk h7 hv
     exact Or.inr (fun e => by injection e with e; exact blk_ne hg' HR.out.s.res (by decide) e)
   have hob : (wr.setRow (w.heap.size + 1) ce).ownsRow w.heap.size 46 1 (.slice A2 e.objs.length c2) e.objs.length (ts'.map (·.val)) := by
    have h7 := HR.out.t.own
    rw [← HNT.out, HNO2.out, ← h2] at h7
    refine h7.kept hgr ?_
    cases hv : (Value.slice A2 e.objs.length c2).ownBlock with
    | none => exact Or.inl rfl
    | some g' =>
     obtain ⟨cs', hg'⟩ := own_blk h7 hv
     exact Or.inr (fun e => by injection e with e; exact blk_ne hg' HR.out.s.res (by decide) e)
   have htx : ∀ t ∈ ts', CpT w.heap.size (wr.setRow (w.heap.size + 1) ce) t.val t.text := fun t ht => (h4 t ht).grown hgr fun g e => by
    injection e with e
    subst e
    exact ⟨_, _, _, HR.out.s.res, by decide⟩
   have hbl : Below w.heap.size w (wr.setRow (w.heap.size + 1) ce) := below_row HR.out.s.bel (Nat.le_succ _) _
   have hent : EnC (wr.setRow (w.heap.size + 1) ce) e ce A1 c1 A2 c2 ts' := ⟨by rw [hce, HNU.out, HNO2.out], rdk_own hup, H0.out.fit, ⟨by rw [HNO2.out.symm, HNT.out]; exact h3.len, fun h0 => ?_, fun t ht => ⟨(htx t ht).rd, (h3.rd t ht).2⟩⟩, by rw [h1]; exact H0.out.txt⟩
   rotate_left
   ·obtain ⟨b, o, ha, hb, hx⟩ := h3.row (by rw [← HNT.out, HNO2.out]; exact h0)
    obtain ⟨cs', hg'⟩ := own_blk HR.out.t.own (g := b) (by rw [ha]; rfl)
    refine ⟨b, o, ha, Nat.lt_of_lt_of_le hb hgr.size, fun i t ht => ?_⟩
    rw [World.cell?_of_block (a := ⟨b, o + i, none⟩) (hgr.block b hb (fun e => by injection e with e; exact blk_ne hg' HR.out.s.res (by decide) e))]
    exact hx i t ht
   have HEND : Hid (CpE w (wr.setRow (w.heap.size + 1) ce) e ce A1 c1 A2 c2 ts') := Lib.hid ⟨hent, hbl, hup, hob, htx⟩
   have HRES := Lib.hid hres
   have HBX := Lib.hid hbx
   have HR1 := Lib.hid HR.out.s.res
   have H5 := Lib.hid h5
   have H6 := Lib.hid h6
   clear hce h5 h6 hbx hres hgr hup hob htx hbl hent h1 h2 h3 h4 HCA HR HR0 hk hlt
   go_wp2_with (with_reducible (show wpList _ _ _ (Oper.mk _ (Op.load 32 _) _ _ _ _ :: _) _ _); refine pause ?_)
   unfold Paused
   refine wpList_row_w (by rfl) 32 (.tmp 1) (by rfl) w.heap.size (by rfl) 32 ce _ HBX.out (by first | exact Tryz.underlying32 | kernel_rfl) (by rfl) (ent_load H5.out) ?_
   go_wp2_with (with_reducible (show wpList _ _ _ (Oper.mk _ (Op.store 32 _ _) _ _ _ _ :: _) _ _); refine pause ?_)
   unfold Paused
   refine wpList_store_row (by rfl) 32 (.tmp 2) (.tmp 28) (by rfl) (w.heap.size + 1) ce (by rfl) (by rfl) 32 zR HR1.out (ent_load H5.out) (by rw [H5.out]; rfl) H6.out ?_
   generalize wr.setRow (w.heap.size + 1) ce = w9 at HEND HRES ⊢
   simp only [Act.put]
   go_wp2
   exact bodyPost_ret (v := .agg ce) (results_cell_row rfl _ _ (w.heap.size + 1) 32 _ (0, 0) _ rfl HRES.out (by first | exact Tryz.underlying32 | kernel_rfl) rfl (ent_load H5.out)) rfl ⟨ce, A1, c1, A2, c2, ts', rfl, HEND.out⟩
end Go.Proofs.YtgcgomdhdgjpdaaGreatDoor
/- A repository in memory. -/
namespace Go.Proofs.YtgcgomdhdgjpdaaGreatDoor
open Go Go.RowKit Go.Maps
structure KeptP (P : Nat → Prop) (w w' : World) : Prop where
 os : w'.os = w.os
 tape : w'.tape = w.tape
 output : w'.output = w.output
 size : w.heap.size ≤ w'.heap.size
 block : ∀ k, k < w.heap.size → ¬ P k → w'.heap[k]? = w.heap[k]?
section
variable {P R : Nat → Prop} {w w' w2 : World}
theorem KeptP.refl (P : Nat → Prop) (w : World) : KeptP P w w := ⟨rfl, rfl, rfl, Nat.le_refl _, fun _ _ _ => rfl⟩
theorem KeptP.trans (h : KeptP P w w') (k : KeptP R w' w2) (hR : ∀ j, j < w.heap.size → R j → P j) : KeptP P w w2 :=
 ⟨k.os.trans h.os, k.tape.trans h.tape, k.output.trans h.output, Nat.le_trans h.size k.size, fun j hj hp => (k.block j (Nat.lt_of_lt_of_le hj h.size) (fun hr => hp (hR j hj hr))).trans (h.block j hj hp)⟩
theorem KeptP.of_grown {row : Option Nat} (h : w.grownBy w' row) : KeptP (fun k => some k = row) w w' := ⟨h.os, h.tape, h.output, h.size, fun k hk hp => h.block k hk hp⟩
theorem KeptP.of_below (h : Below w.heap.size w w') : KeptP (fun _ => False) w w' := ⟨h.os, h.tape, h.output, h.size, fun k hk _ => h.block k hk⟩
theorem KeptP.mono (h : KeptP P w w') (hP : ∀ j, j < w.heap.size → P j → R j) : KeptP R w w' := ⟨h.os, h.tape, h.output, h.size, fun k hk hr => h.block k hk fun hp => hr (hP k hk hp)⟩
theorem KeptP.cell (h : KeptP P w w') {p : Addr} (hl : p.block < w.heap.size) (hp : ¬ P p.block) : w'.cell? p = w.cell? p := World.cell?_of_block (h.block p.block hl hp)
theorem KeptP.blk (h : KeptP P w w') {g : Nat} {t : TypeId} {cs : Array Value} (hb : Blk w g t cs) (hp : ¬ P g) : Blk w' g t cs := (h.block g hb.lt hp).trans hb
theorem KeptP.below {B : Nat} (h : KeptP P w w') (hP : ∀ j, P j → B ≤ j) (hB : B ≤ w.heap.size) : Below B w w' := ⟨h.os, h.tape, h.output, h.size, fun k hk => h.block k (by omega) fun hp => by have := hP k hp; omega⟩
end
def ItK (w : World) (g : Nat) : Prop := ∃ cs T z, w.heap[g]? = some (.cells cs T z) ∧ (T = 89 ∨ T = 46 ∨ T = 5)
theorem ItK.kept {P : Nat → Prop} {w w' : World} {g : Nat} (h : ItK w g) (k : KeptP P w w') (hp : ¬ P g) : ItK w' g := by
 obtain ⟨cs, T, z, h1, h2⟩ := h
 exact ⟨cs, T, z, (k.block g (Array.getElem?_eq_some_iff.1 h1).1 hp).trans h1, h2⟩
def NoK (w : World) (P : Nat → Prop) : Prop := ∀ g, P g → g < w.heap.size → ∃ cs T z, w.heap[g]? = some (.cells cs T z) ∧ (T = 32 ∨ T = 67)
theorem NoK.off {w : World} {P : Nat → Prop} (h : NoK w P) {g : Nat} (hi : ItK w g) : ¬ P g := fun hp => by
 obtain ⟨cs, T, z, h1, h2⟩ := hi
 obtain ⟨cs', T', z', h3, h4⟩ := h g hp (Array.getElem?_eq_some_iff.1 h1).1
 rw [h1] at h3
 injection h3 with h3
 injection h3 with _ h5 _
 subst h5
 rcases h4 with h4 | h4 <;> rcases h2 with h2 | h2 | h2 <;> · rw [h4] at h2; revert h2; decide
structure TxK (w : World) (v : Value) (xs : List Nat) : Prop where
 rd : Rd w v xs
 kind : 0 < xs.length → ∃ g o c, v = .slice (some ⟨g, o, none⟩) xs.length c ∧ ItK w g
theorem TxK.kept {P : Nat → Prop} {w w' : World} {v : Value} {xs : List Nat} (h : TxK w v xs) (k : KeptP P w w') (hn : NoK w P) : TxK w' v xs := by
 refine ⟨?_, fun h0 => ?_⟩
 ·obtain ⟨A, c, hv, hc, hA⟩ := h.rd
  refine ⟨A, c, hv, hc, fun h0 => ?_⟩
  obtain ⟨b, o, ha, hl, hx⟩ := hA h0
  obtain ⟨g, o2, c2, hu, hi⟩ := h.kind h0
  rw [hv, ha] at hu
  injection hu with e1 _ _
  injection e1 with e1
  injection e1 with e1 _ _
  subst e1
  exact ⟨b, o, ha, Nat.lt_of_lt_of_le hl k.size, fun i hi' => (k.cell (p := ⟨b, o + i, none⟩) hl (hn.off hi)).trans (hx i hi')⟩
 ·obtain ⟨g, o, c, hu, hi⟩ := h.kind h0
  exact ⟨g, o, c, hu, hi.kept k (hn.off hi)⟩
theorem TxK.below {w w' : World} {v : Value} {xs : List Nat} (h : TxK w v xs) (hb : Below w.heap.size w w') : TxK w' v xs := h.kept (KeptP.of_below hb) (fun _ h => h.elim)
theorem TxK.of_cp {B : Nat} {w : World} {v : Value} {xs : List Nat} (h : CpT B w v xs) : TxK w v xs :=
 ⟨h.rd, fun h0 => by
  obtain ⟨g, cs, c, hu, _, hg⟩ := h.off h0
  exact ⟨g, 0, c, hu, cs, 5, (0, 0), hg, Or.inr (Or.inr rfl)⟩⟩
structure EnK (w : World) (j : Jt) : Prop where
 ent : EnC w j.e j.cs j.U j.cu j.O j.co j.ts
 ups : 0 < j.e.ups.length → ∃ g o, j.U = some ⟨g, o, none⟩ ∧ ItK w g
 objs : 0 < j.e.objs.length → ∃ g o, j.O = some ⟨g, o, none⟩ ∧ ItK w g
 txt : ∀ t ∈ j.ts, TxK w t.val t.text
theorem EnK.kept {P : Nat → Prop} {w w' : World} {j : Jt} (h : EnK w j) (k : KeptP P w w') (hn : NoK w P) : EnK w' j := by
 refine ⟨⟨h.ent.cells, ?_, h.ent.fit, ⟨h.ent.objs.len, fun h0 => ?_, fun t ht => ⟨((h.txt t ht).kept k hn).rd, (h.ent.objs.rd t ht).2⟩⟩, h.ent.txt⟩, fun h0 => ?_, fun h0 => ?_, fun t ht => (h.txt t ht).kept k hn⟩
 ·obtain ⟨A, c, hv, hc, hA⟩ := h.ent.ups
  refine ⟨A, c, hv, hc, fun h0 => ?_⟩
  obtain ⟨b, o, ha, hl, hx⟩ := hA h0
  obtain ⟨g, o2, hU, hi⟩ := h.ups h0
  injection hv with e1 _ _
  rw [← e1, hU] at ha
  injection ha with ha
  injection ha with e2 e3 _
  subst e2
  subst e3
  exact ⟨_, _, e1.symm.trans hU, Nat.lt_of_lt_of_le hl k.size, fun i u hu => (k.cell (p := ⟨_, _ + i, none⟩) hl (hn.off hi)).trans (hx i u hu)⟩
 ·obtain ⟨b, o, ha, hl, hx⟩ := h.ent.objs.row h0
  obtain ⟨g, o2, hU, hi⟩ := h.objs h0
  rw [hU] at ha
  injection ha with ha
  injection ha with e2 e3 _
  subst e2
  subst e3
  exact ⟨_, _, hU, Nat.lt_of_lt_of_le hl k.size, fun i t ht => (k.cell (p := ⟨_, _ + i, none⟩) hl (hn.off hi)).trans (hx i t ht)⟩
 ·obtain ⟨g, o, hU, hi⟩ := h.ups h0
  exact ⟨g, o, hU, hi.kept k (hn.off hi)⟩
 ·obtain ⟨g, o, hU, hi⟩ := h.objs h0
  exact ⟨g, o, hU, hi.kept k (hn.off hi)⟩
theorem EnK.below {w w' : World} {j : Jt} (h : EnK w j) (hb : Below w.heap.size w w') : EnK w' j := h.kept (KeptP.of_below hb) (fun _ h => h.elim)
theorem itk_own {w : World} {B : Nat} {T : TypeId} {z n : Nat} {v : Value} {xs : List Value} {A : Option Addr} {c : Nat} (h : w.ownsRow B T z v n xs) (hv : v = .slice A n c) (h0 : 0 < n) (hT : T = 89 ∨ T = 46 ∨ T = 5) : ∃ g o, A = some ⟨g, o, none⟩ ∧ ItK w g := by
 rcases h.2 with ⟨_, h1⟩ | ⟨g, cap, cur, h1, _, h2, _⟩
 ·omega
 ·rw [hv] at h1
  injection h1 with h1 _ _
  exact ⟨g, 0, h1, cur, T, (0, 0), h2, hT⟩
theorem EnK.of_cp {w w' : World} {e : En.E} {cs : Array Value} {U O : Option Addr} {cu co : Nat} {ts : List En.Bt} (h : CpE w w' e cs U cu O co ts) : EnK w' ⟨e, cs, U, cu, O, co, ts⟩ :=
 ⟨h.ent, fun h0 => itk_own h.ups rfl h0 (Or.inl rfl), fun h0 => itk_own h.objs rfl h0 (Or.inr (Or.inl rfl)), fun t ht => TxK.of_cp (h.txt t ht)⟩
end Go.Proofs.YtgcgomdhdgjpdaaGreatDoor
