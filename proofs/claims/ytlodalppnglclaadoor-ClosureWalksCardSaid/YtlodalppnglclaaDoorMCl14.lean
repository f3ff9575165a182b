/- The document's search for an object by its id. -/
import Derived.Test.YtlodalppnglclaaDoorMCl13s
import Derived.Test.YtlodalppnglclaaDoorMOb41s
import Derived.Test.YtlodalppnglclaaDoorMSum12s
namespace Go.Proofs.YtlodalppnglclaaDoor
open Go Go.RowKit
theorem gid_size : (Tryd.prog.info? 36).map (·.size) = some 32 := by kernel_rfl
theorem gsum_id (t : List Nat) : Id32 (Sha.sum t) := ⟨Sha.join_len _, Sha.join_byte _⟩
theorem gid_any (v : Value) (bs : List Nat) (w : World) (hv : Rd w v bs) (hb : Sha.Byte bs) (hz : bs.length ≤ 1099511627776) :
    Calls Tryd.prog 24 #[v] w fun e w' => e = .returned (.agg (u8s (Sha.sum bs))) ∧ Below w.heap.size w w' := by
  obtain ⟨w1, hw1⟩ : ∃ w1, w1 = w.alloc (.cells (u8s (List.replicate 32 0)) 36) := ⟨_, rfl⟩
  have b1 : Below w.heap.size w w1 := hw1 ▸ (Below.refl _ _).alloc (Nat.le_refl _) _
  have HX : Hid (Blk w1 w.heap.size 36 (u8s (List.replicate 32 0))) := Lib.hid (hw1 ▸ Blk.new w _ _)
  have C := refsum_any v bs w1 (hv.below b1 (Nat.le_refl _)) hb hz
  have HB := Lib.hid b1
  have HS := Lib.hid (gsum_id bs)
  have e1 := hw1.symm
  clear hv hw1 b1
  go_enter Tryd.func24, Tryd.ntmps24
  go_wp2_with (go_at_call 38; refine pause ?_)
  unfold Paused
  try change Calls _ _ _ (w.alloc (.cells (u8s (List.replicate 32 0)) 36)) _
  try rw [e1]
  refine C.mono ?_
  rintro e w3 ⟨rfl, hb3⟩
  have HX3 := Lib.hid (HX.out.below hb3 HX.out.lt)
  have HB3 := Lib.hid (below_next HB.out hb3)
  clear hb3 C
  generalize hsu : Sha.sum bs = su at HS ⊢
  have HSU := Lib.hid hsu
  clear hsu
  go_wp2_with (with_reducible (show wpList _ _ _ (Oper.mk _ (Op.store 36 _ _) _ _ _ _ :: _) _ _); refine pause ?_)
  unfold Paused
  refine wpList_store_row (by rfl) 36 (.tmp 2) (.tmp 4) (by rfl) w.heap.size (u8s su) (by rfl) (by rfl) 36 _ HX3.out (by rw [u8s_size, HS.out.1]; exact gid_size) (by rw [u8s_size, u8s_size, HS.out.1]; rfl) (u8s_one _) ?_
  have HX4 := Lib.hid (HX3.out.row (u8s su))
  have HB4 := Lib.hid (below_of_only HB3.out (only_setRow (World.grownBy.refl w3 _) (Or.inl rfl) (u8s su) : w3.grownBy _ (some w.heap.size)) (Nat.le_refl _))
  generalize w3.setRow w.heap.size (u8s su) = w4 at HX4 HB4 ⊢
  simp only [Act.put]
  go_wp2
  exact bodyPost_ret (v := .agg (u8s su)) (results_cell_row rfl _ _ w.heap.size 36 _ (0, 0) _ rfl HX4.out Tryd.underlying36 rfl (by rw [u8s_size, HS.out.1]; exact gid_size)) rfl ⟨by rw [HSU.out], HB4.out⟩

/-- what the cells of an object say: its kind, its target, its lists, made behind B -/
structure RObj (B : Nat) (w : World) (o : Option Ob) (cs : Array Value) : Prop where
  none_ : o = none → cs = zc0
  some_ : ∀ x, o = some x → ∃ T tc E ec P pc, x.Fit ∧ cs = (.int .i64 x.kind :: .slice T x.text.length tc :: .slice E x.ents.length ec :: (cellsB x.target ++ [.slice P x.pars.length pc])).toArray ∧ w.ownsRow B 86 33 (.slice E x.ents.length ec) x.ents.length (cellsE x.ents) ∧ w.ownsRow B 36 32 (.slice P x.pars.length pc) x.pars.length (cellsP x.pars)
  size : cs.size = 36
  one : cs.all (·.oneCell') = true
theorem RObj.below {B : Nat} {w w' : World} {o : Option Ob} {cs : Array Value} (h : RObj B w o cs) (hb : Below w.heap.size w w') : RObj B w' o cs := by
  refine ⟨h.none_, fun x hx => ?_, h.size, h.one⟩
  obtain ⟨T, tc, E, ec, P, pc, hf, hc, h1, h2⟩ := h.some_ x hx
  exact ⟨T, tc, E, ec, P, pc, hf, hc, own_below h1 hb, own_below h2 hb⟩
theorem RObj.cell {B y : Nat} {w w' : World} {o : Option Ob} {cs : Array Value} (h : RObj B w o cs) (hg : w.grownBy w' (some y)) (hy : y < B) : RObj B w' o cs := by
  refine ⟨h.none_, fun x hx => ?_, h.size, h.one⟩
  obtain ⟨T, tc, E, ec, P, pc, hf, hc, h1, h2⟩ := h.some_ x hx
  exact ⟨T, tc, E, ec, P, pc, hf, hc, own_grow h1 hg (fun z hz e => by injection e with e; have := (own_in h1 hz).1; omega), own_grow h2 hg (fun z hz e => by injection e with e; have := (own_in h2 hz).1; omega)⟩
theorem RObj.low {B B' : Nat} {w : World} {o : Option Ob} {cs : Array Value} (h : RObj B w o cs) (hB : B' ≤ B) : RObj B' w o cs := by
  refine ⟨h.none_, fun x hx => ?_, h.size, h.one⟩
  obtain ⟨T, tc, E, ec, P, pc, hf, hc, h1, h2⟩ := h.some_ x hx
  exact ⟨T, tc, E, ec, P, pc, hf, hc, obr_low h1 hB, obr_low h2 hB⟩
theorem robj_none (B : Nat) (w : World) : RObj B w none zc0 := ⟨fun _ => rfl, fun x hx => (by cases hx), by kernel_rfl, by kernel_rfl⟩
theorem rparse_un0 (t : List Nat) (A : Option Addr) (c : Nat) (w : World) (hv : Rd w (.slice A t.length c) t) (hb : Oc.bytes t) (hz : t.length ≤ 300) :
    Calls Tryd.prog 37 #[.slice A t.length c] w fun e w' => ∃ (cs : Array Value) (k : Int), e = .returned (.tuple #[.agg cs, .int .i64 k]) ∧ RObj w.heap.size w' (Cl.ob t) cs ∧ Below w.heap.size w w' := by
  refine (rparse_any t A c w hv hb hz).mono ?_
  rintro e w' ⟨h1, h2, h3⟩
  cases hp : Ob.parse t with
  | bad k =>
    have e0 : Cl.ob t = none := by unfold Cl.ob; rw [if_neg (by omega), hp]
    exact ⟨zc0, _, h2 k hp, by rw [e0]; exact robj_none _ _, h1⟩
  | ok o =>
    obtain ⟨cs, T, tc, E, ec, P, pc, he, hf, _, ho⟩ := h3 o hp
    have e0 : Cl.ob t = some o := by unfold Cl.ob; rw [if_neg (by omega), hp]
    refine ⟨cs, _, he, ⟨fun hx => (by rw [e0] at hx; cases hx), fun x hx => ?_, ho.toObC.size hf, by rw [ho.cells]; exact cellsOb_one _ _ _ _ _ _ _ _ _ _ _⟩, h1⟩
    rw [e0] at hx
    injection hx with hx
    subst hx
    exact ⟨T, tc, E, ec, P, pc, hf, ho.cells, ho.ownE, ho.ownP⟩
theorem rparse_un (t : List Nat) (A : Option Addr) (c : Nat) (w : World) (hv : Rd w (.slice A t.length c) t) (hb : Oc.bytes t) :
    Calls Tryd.prog 37 #[.slice A t.length c] w fun e w' => ∃ (cs : Array Value) (k : Int), e = .returned (.tuple #[.agg cs, .int .i64 k]) ∧ RObj w.heap.size w' (Cl.ob t) cs ∧ Below w.heap.size w w' := by
  by_cases hz : 300 < t.length
  · refine (rparse_large A t.length c w hz).mono ?_
    rintro e w' ⟨he, hb⟩
    exact ⟨zc0, 13, he, by unfold Cl.ob; rw [if_pos hz]; exact robj_none _ _, hb⟩
  · exact rparse_un0 t A c w hv hb (by omega)
/-- how the search ends -/
def GetPost (objs : List (List Nat)) (id : List Nat) (w : World) (e : Ending) (w' : World) : Prop :=
  ∃ cs, e = .returned (.tuple #[.agg cs, .bool (Cl.the objs id)]) ∧ RObj w.heap.size w' (Cl.obAt objs id) cs ∧ Below w.heap.size w w'
theorem stk_take_none {l : List (List Nat)} {k : Nat} {id t : List Nat} (hk : k < l.length) (ht : l.getD k [] = t) (h : Cl.stk (l.take k) id = none) : Cl.stk (l.take (k + 1)) id = if id = Sha.sum t then some t else none := by
  rw [(take_next hk ht).1, Cl.stk_snoc, h]
  rfl
theorem stk_some_go (id : List Nat) : ∀ (l : List (List Nat)) (t : List Nat), l.foldl (fun o t => if o.isSome then o else if id = Sha.sum t then some t else o) (some t) = some t
  | [], _ => rfl
  | _ :: l, t => by rw [List.foldl_cons]; exact stk_some_go id l t
theorem stk_take_some {l : List (List Nat)} {k : Nat} {id t : List Nat} (h : Cl.stk (l.take k) id = some t) : Cl.stk l id = some t := by
  have e : Cl.stk l id = (l.drop k).foldl (fun o t => if o.isSome then o else if id = Sha.sum t then some t else o) (Cl.stk (l.take k) id) := by
    unfold Cl.stk
    rw [← List.foldl_append, List.take_append_drop]
  rw [e, h]
  exact stk_some_go id _ t
set_option maxRecDepth 100000 in
set_option maxHeartbeats 4000000 in
theorem rget_any (A : Option Addr) (n c : Nat) (its : List Cl.T) (id : List Nat) (w : World) (h : ClT w (.slice A n c) its) (hid : Id32 id) (hn : its.length ≤ 1000) (hl : ∀ p ∈ its, p.text.length ≤ 400) :
    Calls Tryd.prog 21 #[.slice A n c, .agg (u8s id)] w (GetPost (its.map (·.text)) id w) := by
  have hnl : n = its.length := by
    obtain ⟨A', c', hv, _⟩ := h.row
    injection hv with e1 e2 e3
    rw [e2, List.length_map]
  have HROW : Hid (0 < n → ∃ b o, A = some ⟨b, o, none⟩ ∧ b < w.heap.size ∧ ∀ i u, (its.map (·.val))[i]? = some u → w.cell? ⟨b, o + i, none⟩ = some u) := Lib.hid (by
    obtain ⟨A', c', hv, _, hx⟩ := h.row
    injection hv with e1 e2 e3
    subst e1
    rw [← e2] at hx
    exact hx)
  have HRD := Lib.hid h.rd
  have HNL := Lib.hid hnl
  have HN : Hid (n ≤ 1000) := Lib.hid (by omega)
  have HL := Lib.hid hl
  have HID := Lib.hid hid
  obtain ⟨w1, hw1⟩ : ∃ w1, w1 = (w.alloc (.cells (u8s id) 36)).alloc (.cells zc0 54) := ⟨_, rfl⟩
  have z0 : (w.alloc (.cells (u8s id) 36)).heap.size = w.heap.size + 1 := by simp
  have HI0 : Hid (Blk w1 w.heap.size 36 (u8s id)) := Lib.hid (hw1 ▸ (Blk.new w _ _).alloc _)
  have HR0 : Hid (Blk w1 (w.heap.size + 1) 54 zc0) := Lib.hid (by
    have h1 := Blk.new (w.alloc (.cells (u8s id) 36)) 54 zc0
    rw [z0] at h1
    exact hw1 ▸ h1)
  have HB0 : Hid (Below w.heap.size w w1) := Lib.hid (hw1 ▸ ((Below.refl _ _).alloc (Nat.le_refl _) _).alloc (by rw [z0]; omega) _)
  have e1 := hw1.symm
  clear h hn hl hnl hid z0 hw1
  go_enter Tryd.func21, Tryd.ntmps21
  go_wp2
  try change Code.wp _ _ _ _ ((w.alloc (.cells (u8s id) 36)).alloc (.cells zc0 54))
  try rw [e1]
  clear e1
  go_loopw [12] (fun i wr => ∃ k : Nat, k ≤ n ∧ i = .int .i64 k ∧ Hid (Below w.heap.size w wr ∧ Blk wr w.heap.size 36 (u8s id) ∧ Blk wr (w.heap.size + 1) 54 zc0 ∧ Cl.stk ((its.map (·.text)).take k) id = none)) (fun i _ => n - (intOf i).toNat)
  case atStart => exact ⟨0, Nat.zero_le _, rfl, Lib.hid ⟨HB0.out, HI0.out, HR0.out, by rw [List.take_zero]; rfl⟩⟩
  case round =>
    obtain ⟨k, hk, rfl, HW⟩ := hrel
    by_cases hlt : k < n
    · have hki : k < its.length := by rw [← HNL.out]; exact hlt
      obtain ⟨b, o, rfl, hbl, hcell⟩ := HROW.out (by omega)
      obtain ⟨p, hp⟩ : ∃ p : Cl.T, its[k] = p := ⟨_, rfl⟩
      have hpm : p ∈ its := hp ▸ List.getElem_mem hki
      obtain ⟨hrd, hby⟩ := HRD.out p hpm
      obtain ⟨A1, c1, hval⟩ : ∃ A1 c1, p.val = .slice A1 p.text.length c1 := by obtain ⟨A1, c1, h, _⟩ := hrd; exact ⟨A1, c1, h⟩
      have pc : wr.cell? ⟨b, o + k, none⟩ = some (.slice A1 p.text.length c1) := by
        rw [← hval, ← hp]
        exact (HW.out.1.cell (p := ⟨b, o + k, none⟩) hbl).trans (hcell k _ (by rw [List.getElem?_map, List.getElem?_eq_getElem hki]; rfl))
      rw [hval] at hrd
      have hst := stk_take_none (l := its.map (·.text)) (id := id) (t := p.text) (by rw [List.length_map]; exact hki) (by rw [List.getD_eq_getElem?_getD, List.getElem?_map, List.getElem?_eq_getElem hki, hp]; rfl) HW.out.2.2.2
      have hpl := HL.out p hpm
      generalize p.text = t at hrd hby pc hst hpl
      have HRT : Hid (Rd wr (.slice A1 t.length c1) t ∧ Sha.Byte t ∧ t.length ≤ 400) := Lib.hid ⟨hrd.below HW.out.1 (Nat.le_refl _), hby, hpl⟩
      have CID := gid_any (.slice A1 t.length c1) t wr.drew (HRT.out.1.below (below_drewN (Below.refl _ wr) 1) (Nat.le_refl _)) hby (by omega)
      obtain ⟨nt, hnt⟩ : ∃ q, q = t.length := ⟨_, rfl⟩
      rw [← hnt] at pc CID HRT
      have HNT := Lib.hid hnt
      have i1 : ((k : Nat) : Int) < n := by omega
      have i2 : (0 : Int) ≤ ((k : Nat) : Int) := by omega
      have i3 : ((k : Nat) : Int) < 1000 := by have := HN.out; omega
      have HLT := Lib.hid hlt
      have HST := Lib.hid hst
      have HS32 := Lib.hid (gsum_id t)
      have HSX : Hid (Blk wr.drew w.heap.size 36 (u8s id)) := Lib.hid (HW.out.2.1.below (below_drewN (Below.refl _ wr) 1) HW.out.2.1.lt)
      have HW1 : Hid (Below wr.heap.size wr wr.drew) := Lib.hid (below_drewN (Below.refl _ wr) 1)
      clear hki hbl hcell hp hpm hrd hby hval hst hpl hnt hk hlt
      go_wp2_with fail
      refine wp_region_upto (S := fun w' => Blk w' w.heap.size 36 (u8s id)) (b := 3) (by kernel_rfl) ?_
      change Upto _ _ _ _ _ _ _ _ _ wr.drew
      refine Upto.takeY (i := 0) (v := ?_) rfl (by kernel_rfl) (by kernel_rfl) (by kernel_rfl) (by kernel_rfl) (fun _ _ _ h => h) (Or.inl ⟨by rfl, ?_⟩) (fun _ => HSX.out) ?_
      rotate_left
      · intro w' _; go_simp; with_reducible rfl
      try simp only [Act.put, List.getElem_toArray, List.getElem_cons_zero, List.setIfInBounds_toArray, List.set_cons_zero, List.set_cons_succ]
      refine Upto.take (i := 2) (v := .agg (u8s id)) rfl (by kernel_rfl) (by kernel_rfl) (by kernel_rfl) (by kernel_rfl) (fun _ _ _ h => h) (takes_row 36 (.tmp 3) rfl (by rfl) w.heap.size (by rfl) 36 (u8s id) _ (fun w' hS => hS) (by first | exact Tryd.underlying36 | kernel_rfl) (by rfl) (by rw [u8s_size, HID.out.1]; exact gid_size)) HSX.out ?_
      try simp only [Act.put, List.getElem_toArray, List.getElem_cons_zero, List.getElem_cons_succ, List.setIfInBounds_toArray, List.set_cons_zero, List.set_cons_succ]
      refine Upto.one (i := 1) (by kernel_rfl) rfl (by rfl) (fun K hK => ?_)
      go_simp
      refine CID.mono ?_
      rintro e w4 ⟨rfl, hb4⟩
      have HB4 := Lib.hid (below_next HW1.out hb4)
      have hI4 : Blk w4 w.heap.size 36 (u8s id) := HSX.out.below hb4 HSX.out.lt
      refine hK _ _ (fun _ _ => hI4) ?_
      try simp only [Act.put, List.getElem_toArray, List.getElem_cons_zero, List.getElem_cons_succ, List.setIfInBounds_toArray, List.set_cons_zero, List.set_cons_succ]
      have qe := run_equalIn_u8s (P := Tryd.prog) w4 36 5 32 Tryd.underlying36 Tryd.underlying5 size_u8 (Sha.sum t) id HS32.out.1 HID.out.1 HS32.out.2 HID.out.2
      have HW4 : Hid (Below w.heap.size w w4 ∧ Blk w4 w.heap.size 36 (u8s id) ∧ Blk w4 (w.heap.size + 1) 54 zc0) := Lib.hid ⟨below_next HW.out.1 HB4.out, hI4, HW.out.2.2.1.below HB4.out HW.out.2.2.1.lt⟩
      have HRT4 : Hid (Rd w4 (.slice A1 nt c1) t) := Lib.hid (HRT.out.1.below HB4.out (Nat.le_refl _))
      clear hb4 CID hI4 pc
      obtain ⟨su, hsu⟩ : ∃ su, su = Sha.sum t := ⟨_, rfl⟩
      rw [← hsu] at qe HST ⊢
      have HSU := Lib.hid hsu
      clear hsu
      generalize hg : (su == id) = r at qe
      refine Upto.one (i := 3) (by kernel_rfl) rfl (by rfl) (fun K hK => ?_)
      go_simp
      refine hK _ _ (fun h => absurd rfl h) ?_
      try simp only [Act.put, List.getElem_toArray, List.getElem_cons_zero, List.getElem_cons_succ, List.setIfInBounds_toArray, List.set_cons_zero, List.set_cons_succ]
      refine Upto.done (by kernel_rfl) ?_ _
      clear HW
      cases r with
      | true =>
        have HOB : Hid (Cl.the (its.map (·.text)) id = true ∧ Cl.obAt (its.map (·.text)) id = Cl.ob t) := Lib.hid (by
          have e : id = su := by have h1 : su = id := by simpa using hg
                                 exact h1.symm
          have h1 := stk_take_some (by rw [HST.out, if_pos e] : Cl.stk ((its.map (·.text)).take (k + 1)) id = some t)
          exact ⟨by unfold Cl.the; rw [h1]; rfl, by unfold Cl.obAt; rw [h1]; rfl⟩)
        have CP := rparse_un t A1 c1 w4 (by rw [← HNT.out]; exact HRT4.out) (Oc.bytes_of HRT.out.2.1)
        rw [← HNT.out] at CP
        clear hg qe
        go_wp2_with (go_at_call 37; refine pause ?_)
        unfold Paused
        refine CP.mono ?_
        rintro e w5 ⟨cs, kk, rfl, hro, hb5⟩
        have HCS := Lib.hid (And.intro hro.size hro.one)
        have HW5 : Hid (Below w.heap.size w w5 ∧ Blk w5 (w.heap.size + 1) 54 zc0 ∧ RObj w4.heap.size w5 (Cl.ob t) cs) := Lib.hid ⟨below_next HW4.out.1 hb5, HW4.out.2.2.below hb5 HW4.out.2.2.lt, hro⟩
        clear hro hb5 CP
        go_wp2_with (with_reducible (show wpList _ _ _ (Oper.mk _ (Op.store 54 _ _) _ _ _ _ :: _) _ _); refine pause ?_)
        unfold Paused
        change wpList _ _ _ _ _ (w5.alloc (.cells zc0 54))
        refine wpList_store_row (by rfl) 54 (.tmp 8) (.tmp 23) (by rfl) w5.heap.size cs (by rfl) (by rfl) 54 zc0 (Blk.new w5 _ _) (by rw [HCS.out.1]; kernel_rfl) (by rw [HCS.out.1]; rfl) HCS.out.2 ?_
        have b6 : Below w5.heap.size w5 ((w5.alloc (.cells zc0 54)).setRow w5.heap.size cs) := below_row ((Below.refl _ _).alloc (Nat.le_refl _) _) (Nat.le_refl _) _
        have HX6 : Hid (Blk ((w5.alloc (.cells zc0 54)).setRow w5.heap.size cs) w5.heap.size 54 cs) := Lib.hid ((Blk.new w5 _ _).row _)
        have HW6 : Hid (Below w.heap.size w _ ∧ Blk _ (w.heap.size + 1) 54 zc0 ∧ RObj w4.heap.size _ (Cl.ob t) cs) := Lib.hid ⟨below_next HW5.out.1 b6, HW5.out.2.1.below b6 HW5.out.2.1.lt, HW5.out.2.2.below b6⟩
        clear b6
        generalize (w5.alloc (.cells zc0 54)).setRow w5.heap.size cs = w6 at HX6 HW6 ⊢
        generalize w5.heap.size = g6 at HX6 ⊢
        simp only [Act.put]
        go_wp2_with (with_reducible (show wpList _ _ _ (Oper.mk _ (Op.load 54 _) _ _ _ _ :: _) _ _); refine pause ?_)
        unfold Paused
        refine wpList_row_w (by rfl) 54 (.tmp 8) (by rfl) g6 (by rfl) 54 cs _ HX6.out Tryd.underlying54 (by rfl) (by rw [HCS.out.1]; kernel_rfl) ?_
        go_wp2_with (with_reducible (show wpList _ _ _ (Oper.mk _ (Op.store 54 _ _) _ _ _ _ :: _) _ _); refine pause ?_)
        unfold Paused
        refine wpList_store_row (by rfl) 54 (.tmp 4) (.tmp 25) (by rfl) (w.heap.size + 1) cs (by rfl) (by rfl) 54 zc0 HW6.out.2.1 (by rw [HCS.out.1]; kernel_rfl) (by rw [HCS.out.1]; rfl) HCS.out.2 ?_
        have hg7 : w6.grownBy (w6.setRow (w.heap.size + 1) cs) (some (w.heap.size + 1)) := only_setRow (World.grownBy.refl w6 _) (Or.inl rfl) cs
        have HX7 : Hid (Blk (w6.setRow (w.heap.size + 1) cs) (w.heap.size + 1) 54 cs) := Lib.hid (HW6.out.2.1.row _)
        have HF : Hid (GetPost (its.map (·.text)) id w (.returned (.tuple #[.agg cs, .bool true])) (w6.setRow (w.heap.size + 1) cs)) := Lib.hid ⟨cs, by rw [HOB.out.1], by
          rw [HOB.out.2]
          have hlt4 := HW4.out.2.2.lt
          exact (HW6.out.2.2.cell hg7 hlt4).low HW4.out.1.size, below_of_only HW6.out.1 hg7 (Nat.le_succ _)⟩
        clear hg7 HX6 HW6
        generalize w6.setRow (w.heap.size + 1) cs = w7 at HX7 HF ⊢
        simp only [Act.put]
        go_wp2
        exact bodyPost_ret (v := .tuple #[.agg cs, .bool true]) (results_cell_row2 rfl _ _ (w.heap.size + 1) 54 cs _ _ (by rfl) (by rfl) HX7.out robj_under rfl (by rw [HCS.out.1]; kernel_rfl)) rfl HF.out
      | false =>
        have HN9 : Hid (Cl.stk ((its.map (·.text)).take (k + 1)) id = none) := Lib.hid (by
          rw [HST.out, if_neg]
          intro e
          rw [e] at hg
          simp at hg)
        clear hg qe
        go_wp2
        go_roundw
        case rel => exact ⟨k + 1, by have := HLT.out; omega, by go_num, Lib.hid ⟨HW4.out.1, HW4.out.2.1, HW4.out.2.2, HN9.out⟩⟩
        case measure => have := HLT.out; simp [intOf]; omega
    · obtain rfl : k = n := by omega
      have ik : ¬ ((k : Nat) : Int) < k := by omega
      have HF : Hid (Cl.the (its.map (·.text)) id = false ∧ Cl.obAt (its.map (·.text)) id = none ∧ Below w.heap.size w wr ∧ Blk wr (w.heap.size + 1) 54 zc0) := Lib.hid (by
        have h1 := HW.out.2.2.2
        rw [List.take_of_length_le (by rw [List.length_map, HNL.out]; exact Nat.le_refl _)] at h1
        exact ⟨by unfold Cl.the; rw [h1]; rfl, by unfold Cl.obAt; rw [h1]; rfl, HW.out.1, HW.out.2.2.1⟩)
      have HZ : Hid (GetPost (its.map (·.text)) id w (.returned (.tuple #[.agg zc0, .bool false])) wr) := Lib.hid ⟨zc0, by rw [HF.out.1], by rw [HF.out.2.1]; exact robj_none _ _, HF.out.2.2.1⟩
      go_wp2_with (with_reducible (show wpList _ _ _ (Oper.mk _ (Op.build 54 _) _ _ _ _ :: _) _ _); refine pause ?_)
      unfold Paused
      refine wpList_buildK (by rfl) 54 _ (by rfl) [] (by simp) zc0 robj_empty ?_
      go_wp2_with (with_reducible (show wpList _ _ _ (Oper.mk _ (Op.store 54 _ _) _ _ _ _ :: _) _ _); refine pause ?_)
      unfold Paused
      refine wpList_store_row (by rfl) 54 (.tmp 4) (.tmp 27) (by rfl) (w.heap.size + 1) zc0 (by rfl) (by rfl) 54 zc0 HF.out.2.2.2 (by kernel_rfl) (by rfl) (by kernel_rfl) ?_
      rw [setRow_self wr (w.heap.size + 1) zc0 54 (0, 0) HF.out.2.2.2]
      simp only [Act.put]
      go_wp2
      exact bodyPost_ret (v := .tuple #[.agg zc0, .bool false]) (results_cell_row2 rfl _ _ (w.heap.size + 1) 54 zc0 _ _ (by rfl) (by rfl) HF.out.2.2.2 robj_under rfl (by kernel_rfl)) rfl HZ.out
end Go.Proofs.YtlodalppnglclaaDoor
