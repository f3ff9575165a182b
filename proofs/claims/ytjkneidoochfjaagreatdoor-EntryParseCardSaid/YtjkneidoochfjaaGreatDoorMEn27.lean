/- An entry read: entry.read. -/
import Derived.Test.YtjkneidoochfjaaGreatDoorMEn25s
import Derived.Test.YtjkneidoochfjaaGreatDoorMEn27a
namespace Go.Proofs.YtjkneidoochfjaaGreatDoor
open Go Go.RowKit
/-- how entry.read ends -/
def EReadPost (xs : List Nat) (a : Nat → Addr) (w0 w : World) (i r : Nat) (e : Ending) (w' : World) : Prop :=
  (∀ k, En.parts xs = .bad k → e = .panicked [{ v := stopV r, recovered := false }] ∧ Dead w' r (ev (a (k - 1))) ∧ Kpt (fun b => b = r) w w') ∧
  ∀ en zs, En.parts xs = .ok en zs → ∃ cs U cu O co ts, e = .returned (.agg cs) ∧ EnO w.heap.size w' en cs U cu O co ts ∧ InAt w0 w' i r zs ∧ Kpt (fun b => b = r) w w'
theorem RdE.fails {w0 w wr w' : World} {i r : Nat} {x y z : Int} {vU vO : Value} {us : List En.Up} {ts : List En.Bt} {ys : List Nat} {er : Value} {e : Ending} (h : RdE w0 w wr i r x y z vU us vO ts ys) (hf : Fails wr r er e w') : e = .panicked [{ v := stopV r, recovered := false }] ∧ Dead w' r er ∧ Kpt (fun b => b = r) w w' :=
  ⟨hf.1, hf.2.1, h.kpt.trans (Kpt.of_grown hf.2.2 rfl)⟩
theorem eread_bad {xs : List Nat} {a : Nat → Addr} {w0 w w' : World} {i r k : Nat} {e : Ending} (hp : En.parts xs = .bad k) (h : e = .panicked [{ v := stopV r, recovered := false }] ∧ Dead w' r (ev (a (k - 1))) ∧ Kpt (fun b => b = r) w w') : EReadPost xs a w0 w i r e w' :=
  ⟨fun k' hk => (by rw [hp] at hk; injection hk with hk; subst hk; exact h), fun en zs hk => (by rw [hp] at hk; cases hk)⟩
/-- what stands when the entry is stored as the result -/
theorem RdE.fin {w0 w wr : World} {i r : Nat} {x y z : Int} {vU vO : Value} {us : List En.Up} {ts : List En.Bt} {ys : List Nat} (h : RdE w0 w wr i r x y z vU us vO ts ys) : ∃ (cs : Array Value) (U : Option Addr) (cu : Nat) (O : Option Addr) (co : Nat), cs = #[.int .i64 x, .int .i64 y, .int .i64 z, vU, vO] ∧ EnO w.heap.size (wr.setRow w.heap.size cs) ⟨x, y, z, us, ts.map (·.text)⟩ cs U cu O co ts ∧ InAt w0 (wr.setRow w.heap.size cs) i r ys ∧ Kpt (fun b => b = r) w (wr.setRow w.heap.size cs) ∧ Blk (wr.setRow w.heap.size cs) w.heap.size 25 cs := by
  obtain ⟨U, cu, rfl⟩ := own_slice h.ups
  obtain ⟨O, co, rfl⟩ := own_slice h.objs
  obtain ⟨cs, hcs⟩ : ∃ cs : Array Value, cs = #[.int .i64 x, .int .i64 y, .int .i64 z, .slice U us.length cu, .slice O ts.length co] := ⟨_, rfl⟩
  have hg : wr.grownBy (wr.setRow w.heap.size cs) (some w.heap.size) := only_setRow (World.grownBy.refl wr _) (Or.inl rfl) _
  have hty : ∀ g', some w.heap.size = some g' → ∃ cs T z, wr.heap[g']? = some (.cells cs T z) ∧ T ≠ 5 := fun g' e => by injection e with e; subst e; exact ⟨_, _, _, h.res, by decide⟩
  refine ⟨cs, U, cu, O, co, hcs, ⟨by rw [hcs, List.length_map], own_low (own_off2 h.ups hg h.res (by decide)) (by omega), h.fit, ?_, fun t ht => ⟨((h.txt t ht).1.grown hg hty).lower (by omega), (h.txt t ht).2⟩, rfl⟩, ?_, ?_, h.res.row _⟩
  · rw [List.length_map]
    exact own_low (own_off2 h.objs hg h.res (by decide)) (by omega)
  · obtain ⟨v, k, hr, hw, h1, h2⟩ := h.at_
    have := h.old.1
    have := h.old.2
    exact ⟨v, ⟨k.i_.grown hg (fun e => by injection e with e; omega), k.r_.grown hg (fun e => by injection e with e; omega), k.ne⟩, hr, below_of_only hw hg (by omega), h1, h2⟩
  · exact ⟨hg.os.trans h.kpt.os, hg.tape.trans h.kpt.tape, hg.output.trans h.kpt.output, Nat.le_trans h.kpt.size hg.size, fun b hb hs => (hg.block b (Nat.lt_of_lt_of_le hb h.kpt.size) (fun e => by injection e with e; omega)).trans (h.kpt.block b hb hs)⟩
set_option maxRecDepth 100000 in
set_option maxHeartbeats 16000000 in
theorem eread_any (i r : Nat) (xs : List Nat) (a : Nat → Addr) (w0 w : World) (h : InAt w0 w i r xs) (hb : Oc.bytes xs) (hz : xs.length ≤ 100000) (hS : ESents w0 a) (hi : i < w.heap.size) :
    Calls Tryz.prog 31 #[.pointer (some ⟨i, 0, none⟩)] w fun e w' => EReadPost xs a w0 w i r e w' := by
  obtain ⟨w2, hw2⟩ : ∃ w2, w2 = (w.alloc (.cells zE 25)).alloc (.cells zE 25) := ⟨_, rfl⟩
  have b2 : Below w.heap.size w w2 := hw2 ▸ boxed zE zE _
  have hR : RdE w0 w w2 i r 0 0 0 (.slice none 0 0) [] (.slice none 0 0) [] xs := ⟨h.below b2, hb, hw2 ▸ boxed2 zE zE _, hw2 ▸ (Blk.new w _ _).alloc _, World.ownsRow_nil _ _ _ _, World.ownsRow_nil _ _ _ _, fun t ht => (by cases ht), fun u hu => (by cases hu), Kpt.of_below b2, h.lt, hi⟩
  have HR := Lib.hid hR
  have HS := Lib.hid hS
  have HZ := Lib.hid hz
  obtain ⟨ip, hip, hpz, hps, hpb⟩ := info_parts upd_info
  have HIP : Hid (_ ∧ _ ∧ _ ∧ _) := Lib.hid ⟨hip, hpz, hps, hpb⟩
  obtain ⟨iq, hip2, hpz2, hps2, hpb2⟩ := info_parts bts_info
  have HIQ : Hid (_ ∧ _ ∧ _ ∧ _) := Lib.hid ⟨hip2, hpz2, hps2, hpb2⟩
  clear hip hpz hps hpb hip2 hpz2 hps2 hpb2
  have e1 := hw2.symm
  have hp : En.parts xs = En.parts xs := rfl
  conv at hp => rhs; unfold En.parts
  have HP := Lib.hid hp
  clear h hb hz hS hi b2 hR hw2 hp
  go_enter Tryz.func31, Tryz.ntmps31
  have CN : Calls Tryz.prog 59 #[.pointer (some ⟨i, 0, none⟩), .int .u8 98] w2 (NumR w0 w2 i r 98 xs a) := enumE_any i r 98 (Or.inl rfl) xs a w0 w2 HR.out.at_ HR.out.bys HS.out
  go_wp2_with (go_at_call 59; refine pause ?_)
  unfold Paused
  change Calls _ _ _ ((w.alloc (.cells zE 25)).alloc (.cells zE 25)) _
  rw [e1]
  refine CN.mono ?_
  rintro e w3 ⟨hbad, hok⟩
  have hp := HP.out
  cases h1 : En.num 98 xs with
  | bad k =>
    rw [h1] at hp
    dsimp only at hp
    have hF := hbad k h1
    have HE := Lib.hid (eread_bad (i := i) (a := a) (w0 := w0) hp (HR.out.fails hF))
    obtain ⟨rfl, _, _⟩ := hF
    exact ⟨rfl, HE.out⟩
  | ok n1 z1 =>
  rw [h1] at hp
  dsimp only at hp
  obtain ⟨rfl, hi', hg', hby', hln', hm', h98'⟩ := hok n1 z1 h1
  have HRn := Lib.hid (HR.out.read hg' hi' hby')
  have HZn : Hid (z1.length ≤ 100000) := Lib.hid (by have := HZ.out; omega)
  have HMn1 := Lib.hid hm'
  have HBn1 := Lib.hid h98'
  clear CN hbad hok HP HR HZ h1 hi' hg' hby' hln' hm' h98'
  have HR := HRn
  have HZ := HZn
  have HP := Lib.hid hp
  clear HRn HZn hp
  clear e1
  clear w2
  have CN : Calls Tryz.prog 59 #[.pointer (some ⟨i, 0, none⟩), .int .u8 113] w3 (NumR w0 w3 i r 113 z1 a) := enumE_any i r 113 (Or.inr rfl) z1 a w0 w3 HR.out.at_ HR.out.bys HS.out
  go_wp2_with (go_at_call 59; refine pause ?_)
  unfold Paused
  refine CN.mono ?_
  rintro e w4 ⟨hbad, hok⟩
  have hp := HP.out
  cases h1 : En.num 113 z1 with
  | bad k =>
    rw [h1] at hp
    dsimp only at hp
    have hF := hbad k h1
    have HE := Lib.hid (eread_bad (i := i) (a := a) (w0 := w0) hp (HR.out.fails hF))
    obtain ⟨rfl, _, _⟩ := hF
    exact ⟨rfl, HE.out⟩
  | ok n2 z2 =>
  rw [h1] at hp
  dsimp only at hp
  obtain ⟨rfl, hi', hg', hby', hln', hm', h98'⟩ := hok n2 z2 h1
  have HRn := Lib.hid (HR.out.read hg' hi' hby')
  have HZn : Hid (z2.length ≤ 100000) := Lib.hid (by have := HZ.out; omega)
  have HMn2 := Lib.hid hm'
  have HBn2 := Lib.hid h98'
  clear CN hbad hok HP HR HZ h1 hi' hg' hby' hln' hm' h98'
  have HR := HRn
  have HZ := HZn
  have HP := Lib.hid hp
  clear HRn HZn hp
  have CN : Calls Tryz.prog 59 #[.pointer (some ⟨i, 0, none⟩), .int .u8 98] w4 (NumR w0 w4 i r 98 z2 a) := enumE_any i r 98 (Or.inl rfl) z2 a w0 w4 HR.out.at_ HR.out.bys HS.out
  go_wp2_with (go_at_call 59; refine pause ?_)
  unfold Paused
  refine CN.mono ?_
  rintro e w5 ⟨hbad, hok⟩
  have hp := HP.out
  cases h1 : En.num 98 z2 with
  | bad k =>
    rw [h1] at hp
    dsimp only at hp
    have hF := hbad k h1
    have HE := Lib.hid (eread_bad (i := i) (a := a) (w0 := w0) hp (HR.out.fails hF))
    obtain ⟨rfl, _, _⟩ := hF
    exact ⟨rfl, HE.out⟩
  | ok n3 z3 =>
  rw [h1] at hp
  dsimp only at hp
  obtain ⟨rfl, hi', hg', hby', hln', hm', h98'⟩ := hok n3 z3 h1
  have HRn := Lib.hid (HR.out.read hg' hi' hby')
  have HZn : Hid (z3.length ≤ 100000) := Lib.hid (by have := HZ.out; omega)
  have HMn3 := Lib.hid hm'
  have HBn3 := Lib.hid h98'
  clear CN hbad hok HP HR HZ h1 hi' hg' hby' hln' hm' h98'
  have HR := HRn
  have HZ := HZn
  have HP := Lib.hid hp
  clear HRn HZn hp
  have q0 : w5.cell? ⟨w.heap.size + 1, 0, none⟩ = some (.int .i64 0) := HR.out.box.cell 0
  have q1 : w5.cell? ⟨w.heap.size + 1, 1, none⟩ = some (.int .i64 0) := HR.out.box.cell 1
  have q2 : w5.cell? ⟨w.heap.size + 1, 2, none⟩ = some (.int .i64 0) := HR.out.box.cell 2
  have f0 := HR.out.box.frozen 0
  have f1 := HR.out.box.frozen 1
  have f2 := HR.out.box.frozen 2
  have HRa := Lib.hid (HR.out.set 0 (.int .i64 (n1 : Int)) (x' := (n1 : Int)) rfl HR.out.ups HR.out.objs HR.out.fit HR.out.txt)
  have HRb := Lib.hid (HRa.out.set 1 (.int .i64 (n2 : Int)) (y' := (n2 : Int)) rfl HRa.out.ups HRa.out.objs HRa.out.fit HRa.out.txt)
  have HRc := Lib.hid (HRb.out.set 2 (.int .i64 (n3 : Int)) (z' := (n3 : Int)) rfl HRb.out.ups HRb.out.objs HRb.out.fit HRb.out.txt)
  clear HR HRa HRb
  have HR := HRc
  clear HRc
  obtain ⟨w6, hw6⟩ : ∃ w6, w6 = ((w5.setCell ⟨w.heap.size + 1, 0, none⟩ (.int .i64 (n1 : Int))).setCell ⟨w.heap.size + 1, 1, none⟩ (.int .i64 (n2 : Int))).setCell ⟨w.heap.size + 1, 2, none⟩ (.int .i64 (n3 : Int)) := ⟨_, rfl⟩
  rw [← hw6] at HR
  have e6 := hw6.symm
  clear hw6
  have CN : Calls Tryz.prog 59 #[.pointer (some ⟨i, 0, none⟩), .int .u8 98] w6 (NumR w0 w6 i r 98 z3 a) := enumE_any i r 98 (Or.inl rfl) z3 a w0 w6 HR.out.at_ HR.out.bys HS.out
  go_wp2_with (go_at_call 59; refine pause ?_)
  unfold Paused
  refine CN.mono ?_
  rintro e w7 ⟨hbad, hok⟩
  have hp := HP.out
  cases h1 : En.num 98 z3 with
  | bad k =>
    rw [h1] at hp
    dsimp only at hp
    have hF := hbad k h1
    have HE := Lib.hid (eread_bad (i := i) (a := a) (w0 := w0) hp (HR.out.fails hF))
    obtain ⟨rfl, _, _⟩ := hF
    exact ⟨rfl, HE.out⟩
  | ok nu z4 =>
  rw [h1] at hp
  dsimp only at hp
  obtain ⟨rfl, hi', hg', hby', hln', hm', h98'⟩ := hok nu z4 h1
  have HRn := Lib.hid (HR.out.read hg' hi' hby')
  have HZn : Hid (z4.length ≤ 100000) := Lib.hid (by have := HZ.out; omega)
  have HMnu := Lib.hid hm'
  have HBnu := Lib.hid h98'
  clear CN hbad hok HP HR HZ h1 hi' hg' hby' hln' hm' h98'
  have HR := HRn
  have HZ := HZn
  have HP := Lib.hid hp
  clear HRn HZn hp
  clear q0 q1 q2 f0 f1 f2 e6
  clear w5 w6
  go_wp2
  go_loopw [18] (fun i' wr => ∃ k : Nat, k ≤ nu ∧ i' = .int .i64 k ∧ ∃ vU us zs, Hid (RdE w0 w wr i r (n1 : Int) (n2 : Int) (n3 : Int) vU us (.slice none 0 0) [] zs) ∧ Hid (us.length = k ∧ En.many En.rdUp (nu - k) us zs = En.many En.rdUp nu [] z4 ∧ zs.length ≤ 100000)) (fun i' _ => nu - (intOf i').toNat)
  case atStart => exact ⟨0, Nat.zero_le _, rfl, _, [], z4, HR, Lib.hid ⟨rfl, rfl, HZ.out⟩⟩
  case round =>
    obtain ⟨k, hk, rfl, vU, us, zs, HRk, HU⟩ := hrel
    by_cases hlt : k < nu
    · have i1 : ((k : Nat) : Int) < nu := by omega
      have i2 : (0 : Int) ≤ ((k : Nat) : Int) := by omega
      have i3 : ((nu : Nat) : Int) ≤ 255 := by have := HBnu.out trivial; omega
      have HLT : Hid (k + 1 ≤ nu) := Lib.hid hlt
      clear hk hlt
      go_wp2_with fail
      refine wp_region_held (S := (fun _ => True)) (by kernel_rfl) ?_
      change wpAnyH _ _ _ _ _ _ _ _ wr.drew
      refine wpAnyH_take (i := 0) (v := ?_) rfl (by kernel_rfl) (by kernel_rfl) (by kernel_rfl) (fun _ _ _ h => h) (Or.inl ⟨by rfl, ?_⟩) trivial ?_
      rotate_left
      · intro w' hS; go_simp; with_reducible rfl
      try simp only [Act.put, List.getElem_toArray, List.getElem_cons_zero, List.setIfInBounds_toArray, List.set_cons_zero, List.set_cons_succ]
      refine wpAnyH_take (i := 3) (v := ?_) rfl (by kernel_rfl) (by kernel_rfl) (by kernel_rfl) (fun _ _ _ h => h) (Or.inl ⟨by rfl, ?_⟩) trivial ?_
      rotate_left
      · intro w' hS; go_simp; with_reducible rfl
      try simp only [Act.put, List.getElem_toArray, List.getElem_cons_zero, List.getElem_cons_succ, List.setIfInBounds_toArray, List.set_cons_zero, List.set_cons_succ]
      refine wpAnyH_take (i := 5) (v := ?_) rfl (by kernel_rfl) (by kernel_rfl) (by kernel_rfl) (fun _ _ _ h => h) (Or.inl ⟨by rfl, ?_⟩) trivial ?_
      rotate_left
      · intro w' hS; go_simp; with_reducible rfl
      try simp only [Act.put, List.getElem_toArray, List.getElem_cons_zero, List.getElem_cons_succ, List.setIfInBounds_toArray, List.set_cons_zero, List.set_cons_succ]
      refine frame_intro (p := fun x => wpAnyH _ _ _ _ _ _ _ x wr.drew) _ ?_
      intro a1 ha1
      have HA1 := Lib.hid ha1
      clear ha1
      have HBAD : Hid (∀ e, En.rdUp zs = .bad e → En.parts xs = .bad e) := Lib.hid (fun e he => by
        have h1 := HU.out.2.1
        obtain ⟨m, hm⟩ : ∃ m, nu - k = m + 1 := ⟨nu - k - 1, by have := HLT.out; omega⟩
        rw [hm, En.many_bad he] at h1
        rw [HP.out, ← h1])
      have HPOST := Lib.hid (fun (e : Ending) (w' : World) (h : EReadPost xs a w0 w i r e w') => h)
      have HI0 : Hid (I5 w0 w i r (n1 : Int) (n2 : Int) (n3 : Int) vU us zs ⟨false, false, false, false, false, false⟩ u21 u22 u24 u26 u5 u6 zs wr.drew) := Lib.hid ⟨HRk.out.below (below_drewN (Below.refl _ wr) 1), HU.out.2.2, ⟨rfl, rfl, rfl, rfl⟩, fun h => (by cases h), fun h => (by cases h), fun h => (by cases h)⟩
      change wpAnyH _ _ _ _ _ (3 + 6) (St5.ls ⟨false, false, false, false, false, false⟩) a1 wr.drew
      refine wpAnyH_states2 St5.ls St5.left St5.nx St5.V (IS5 a1 w0 w i r (n1 : Int) (n2 : Int) (n3 : Int) vU us zs) 3 ?_ ?_ (fun s hv hl => St5.nx_ne hv hl) ?_ ?_ 6 ⟨false, false, false, false, false, false⟩ a1 wr.drew ⟨u21, u22, u24, u26, u5, u6, zs, by rw [HA1.out]; rfl, HI0.out⟩ rfl
      · rintro ⟨b1, z, b2, b3, ax, bx⟩ ⟨hv1, hv2⟩ hl
        cases b1 <;> cases z <;> cases b2 <;> cases b3 <;> cases ax <;> cases bx <;> first | exact absurd rfl hl | exact absurd (hv2 rfl) (by decide) | exact absurd (hv1 rfl) (by decide) | kernel_rfl
      · rintro s x w' ⟨v21, v22, v24, v26, v5, v6, ys, _, hi⟩
        exact hi.wf
      · rintro ⟨b1, z', b2, b3, ax, bx⟩ x w' ⟨v21, v22, v24, v26, v5, v6, ys, hx, hI⟩ j hj
        rcases St5.mem_nx hj with ⟨rfl, h1⟩ | ⟨rfl, h1, h2⟩ | ⟨rfl, h1, h2⟩ | ⟨rfl, h1, h2⟩ | ⟨rfl, h1⟩ | ⟨rfl, h1⟩
        · obtain rfl : b1 = false := h1
          refine ⟨⟨true, z', b2, b3, ax, bx⟩, by rfl, by simp [St5.left]; try omega, wpOp_of rfl (by rfl) ?_⟩
          rw [hx, HA1.out]
          clear hx
          simp only [Act.put, List.getElem_toArray, List.getElem_cons_zero, List.getElem_cons_succ, List.setIfInBounds_toArray, List.set_cons_zero, List.set_cons_succ]
          have CT := etxtE_any i r ys a w0 w' hI.rd.at_ hI.rd.bys HS.out (Nat.lt_of_lt_of_le hI.rd.old.1 hI.rd.kpt.size)
          go_simp
          refine CT.mono ?_
          rintro e w'' ⟨hbad, hok⟩
          cases ht : En.txt ys with
          | bad q =>
            have hF := hbad q ht
            have HE := eread_bad (i := i) (a := a) (w0 := w0) (HBAD.out q (hI.bad1 ht)) (hI.rd.fails hF)
            obtain ⟨rfl, _, _⟩ := hF
            exact ⟨rfl, HE⟩
          | ok tx z1 =>
            obtain ⟨A, c, rfl, h2, h3, h4, h5, h6, h7, h8⟩ := hok tx z1 ht
            dsimp only
            exact ⟨_, v22, v24, v26, v5, v6, z1, by simp only [Act.put, List.setIfInBounds_toArray, List.set_cons_zero, List.set_cons_succ], hI.text ht h2 h3 h4 h5 h6 h7 h8⟩
        · obtain rfl : b1 = true := h1
          obtain rfl : z' = false := h2
          refine ⟨⟨true, true, b2, b3, ax, bx⟩, by rfl, by simp [St5.left]; try omega, wpOp_of rfl (by rfl) ?_⟩
          rw [hx, HA1.out]
          clear hx
          simp only [Act.put, List.getElem_toArray, List.getElem_cons_zero, List.getElem_cons_succ, List.setIfInBounds_toArray, List.set_cons_zero, List.set_cons_succ]
          obtain ⟨T, hT, hI2⟩ := hI.conv
          refine wp_convE 32 9 (.tmp 21) (by rfl) v21 (by rfl) (.string T) w' hT ?_
          exact ⟨v21, _, v24, v26, v5, v6, ys, by simp only [Act.put, List.setIfInBounds_toArray, List.set_cons_zero, List.set_cons_succ], hI2⟩
        · obtain rfl : b1 = true := h1
          obtain rfl : b2 = false := h2
          refine ⟨⟨true, z', true, b3, ax, bx⟩, by rfl, by simp [St5.left]; try omega, wpOp_of rfl (by rfl) ?_⟩
          rw [hx, HA1.out]
          clear hx
          simp only [Act.put, List.getElem_toArray, List.getElem_cons_zero, List.getElem_cons_succ, List.setIfInBounds_toArray, List.set_cons_zero, List.set_cons_succ]
          have CT := eoidE_any i r ys a w0 w' hI.rd.at_ hI.rd.bys HS.out
          go_simp
          refine CT.mono ?_
          rintro e w'' ⟨hbad, hok⟩
          cases ht : En.oid ys with
          | bad q =>
            have hF := hbad q ht
            have HE := eread_bad (i := i) (a := a) (w0 := w0) (HBAD.out q (hI.bad2 ht)) (hI.rd.fails hF)
            obtain ⟨rfl, _, _⟩ := hF
            exact ⟨rfl, HE⟩
          | ok o1 z1 =>
            obtain ⟨rfl, h2, h3, h4, h5, h6⟩ := hok o1 z1 ht
            dsimp only
            exact ⟨v21, v22, _, v26, v5, v6, z1, by simp only [Act.put, List.setIfInBounds_toArray, List.set_cons_zero, List.set_cons_succ], hI.oid1 ht h2 h3 h4 h5 h6⟩
        · obtain rfl : b2 = true := h1
          obtain rfl : b3 = false := h2
          obtain rfl : b1 = true := by cases b1 with | true => rfl | false => exact absurd (hI.wf.1 rfl).2.1 (by decide)
          refine ⟨⟨true, z', true, true, ax, bx⟩, by rfl, by simp [St5.left]; try omega, wpOp_of rfl (by rfl) ?_⟩
          rw [hx, HA1.out]
          clear hx
          simp only [Act.put, List.getElem_toArray, List.getElem_cons_zero, List.getElem_cons_succ, List.setIfInBounds_toArray, List.set_cons_zero, List.set_cons_succ]
          have CT := eoidE_any i r ys a w0 w' hI.rd.at_ hI.rd.bys HS.out
          go_simp
          refine CT.mono ?_
          rintro e w'' ⟨hbad, hok⟩
          cases ht : En.oid ys with
          | bad q =>
            have hF := hbad q ht
            have HE := eread_bad (i := i) (a := a) (w0 := w0) (HBAD.out q (hI.bad3 ht)) (hI.rd.fails hF)
            obtain ⟨rfl, _, _⟩ := hF
            exact ⟨rfl, HE⟩
          | ok o1 z1 =>
            obtain ⟨rfl, h2, h3, h4, h5, h6⟩ := hok o1 z1 ht
            dsimp only
            exact ⟨v21, v22, v24, _, v5, v6, z1, by simp only [Act.put, List.setIfInBounds_toArray, List.set_cons_zero, List.set_cons_succ], hI.oid2 ht h2 h3 h4 h5 h6⟩
        · obtain rfl : ax = false := h1
          refine ⟨⟨b1, z', b2, b3, true, bx⟩, by rfl, by simp [St5.left]; try omega, wpOp_of rfl (by rfl) ?_⟩
          rw [hx, HA1.out]
          clear hx
          simp only [Act.put, List.getElem_toArray, List.getElem_cons_zero, List.getElem_cons_succ, List.setIfInBounds_toArray, List.set_cons_zero, List.set_cons_succ]
          go_simp
          exact ⟨v21, v22, v24, v26, _, v6, ys, by simp only [Act.put, List.setIfInBounds_toArray, List.set_cons_zero, List.set_cons_succ], hI.varA⟩
        · obtain rfl : bx = false := h1
          refine ⟨⟨b1, z', b2, b3, ax, true⟩, by rfl, by simp [St5.left]; try omega, wpOp_of rfl (by rfl) ?_⟩
          rw [hx, HA1.out]
          clear hx
          simp only [Act.put, List.getElem_toArray, List.getElem_cons_zero, List.getElem_cons_succ, List.setIfInBounds_toArray, List.set_cons_zero, List.set_cons_succ]
          go_simp
          exact ⟨v21, v22, v24, v26, v5, _, ys, by simp only [Act.put, List.setIfInBounds_toArray, List.set_cons_zero, List.set_cons_succ], hI.varB⟩
      · rintro ⟨b1, z', b2, b3, ax, bx⟩ x w' ⟨v21, v22, v24, v26, v5, v6, ys, hx, hI⟩ hl
        obtain ⟨⟨rfl, rfl, rfl⟩, rfl, rfl, rfl⟩ : (b1 = true ∧ z' = true ∧ b2 = true) ∧ b3 = true ∧ ax = true ∧ bx = true := by
          cases b1 <;> cases z' <;> cases b2 <;> cases b3 <;> cases ax <;> cases bx <;> first | exact ⟨⟨rfl, rfl, rfl⟩, rfl, rfl, rfl⟩ | exact absurd hl (by decide)
        clear hl
        obtain ⟨u, hfu, hru, rfl, rfl, rfl, g5, g6, rfl, rfl, hl5, hl6, h56, hb5, hb6⟩ := hI.all
        have HFU := Lib.hid hfu
        have HRU := Lib.hid hru
        have HL := Lib.hid (And.intro hl5 (And.intro hl6 h56))
        have HB5 := Lib.hid hb5
        have HB6 := Lib.hid hb6
        have HR1 := Lib.hid hI.rd
        have HZ1 := Lib.hid hI.len
        rw [hx, HA1.out]
        clear hx hfu hru hl5 hl6 h56 hb5 hb6 hI HA1
        clear x a1
        simp only [Act.put, List.setIfInBounds_toArray, List.set_cons_zero, List.set_cons_succ]
        change wpAnyH _ _ _ _ _ 3 #[true, true, true, true, true, true, true, true, true, false, false, false] _ w'
        refine all_one (i := 9) (by kernel_rfl) rfl (by rfl) (fun K hK => ?_)
        go_simp
        refine hK _ _ trivial ?_; clear hK K
        try simp only [List.setIfInBounds_toArray, List.set_cons_zero, List.set_cons_succ]
        refine all_one (i := 10) (by kernel_rfl) rfl (by rfl) (fun K hK => ?_)
        refine wp_store_row 54 (.tmp 5) (.tmp 24) (by rfl) g5 (u8s u.old) (by rfl) (by rfl) 54 (u8s (List.replicate 32 0)) HB5.out (by rw [u8s_size, HFU.out.1.1]; kernel_rfl) (by rw [u8s_size, u8s_size, HFU.out.1.1]; rfl) (u8s_one _) ?_
        have HI5 := Lib.hid (HR1.out.id HB5.out HL.out.1 (u8s u.old))
        have HB6b := Lib.hid (HI5.out.2.2 g6 _ _ (Ne.symm HL.out.2.2) HB6.out)
        have HR5 := Lib.hid HI5.out.1
        have HB5b := Lib.hid HI5.out.2.1
        clear HR1 HB5 HB6 HI5
        generalize w'.setRow g5 (u8s u.old) = w9 at HR5 HB5b HB6b ⊢
        refine hK _ _ trivial ?_; clear hK K
        clear w'
        try simp only [Act.put, List.getElem_toArray, List.getElem_cons_zero, List.getElem_cons_succ, List.setIfInBounds_toArray, List.set_cons_zero, List.set_cons_succ]
        refine all_one (i := 11) (by kernel_rfl) rfl (by rfl) (fun K hK => ?_)
        refine wp_store_row 54 (.tmp 6) (.tmp 26) (by rfl) g6 (u8s u.new) (by rfl) (by rfl) 54 (u8s (List.replicate 32 0)) HB6b.out (by rw [u8s_size, HFU.out.2.1]; kernel_rfl) (by rw [u8s_size, u8s_size, HFU.out.2.1]; rfl) (u8s_one _) ?_
        have HI6 := Lib.hid (HR5.out.id HB6b.out HL.out.2.1 (u8s u.new))
        have HB5c := Lib.hid (HI6.out.2.2 g5 _ _ HL.out.2.2 HB5b.out)
        have HB6c := Lib.hid HI6.out.2.1
        have HRc := Lib.hid HI6.out.1
        clear HI6 HB6b HR5 HB5b
        generalize w9.setRow g6 (u8s u.new) = wc at HRc HB5c HB6c ⊢
        refine hK _ _ trivial ?_; clear hK K
        clear w9
        try simp only [Act.put, List.getElem_toArray, List.getElem_cons_zero, List.getElem_cons_succ, List.setIfInBounds_toArray, List.set_cons_zero, List.set_cons_succ]
        refine wpAnyH_done (by kernel_rfl) ?_ _
        have p3 : wc.cell? ⟨w.heap.size + 1, 3, none⟩ = some vU := HRc.out.box.cell 3
        go_wp2_with (with_reducible (show wpList _ _ _ (Oper.mk _ (Op.load 54 _) _ _ _ none :: _) _ _); refine pause ?_)
        unfold Paused
        refine wpList_row_w (by rfl) 54 (.tmp 5) (by rfl) g5 (by rfl) 54 (u8s u.old) _ HB5c.out Tryz.underlying54 (by rfl) (by rw [u8s_size, HFU.out.1.1]; kernel_rfl) ?_
        go_wp2_with (with_reducible (show wpList _ _ _ (Oper.mk _ (Op.load 54 _) _ _ _ none :: _) _ _); refine pause ?_)
        unfold Paused
        refine wpList_row_w (by rfl) 54 (.tmp 6) (by rfl) g6 (by rfl) 54 (u8s u.new) _ HB6c.out Tryz.underlying54 (by rfl) (by rw [u8s_size, HFU.out.2.1]; kernel_rfl) ?_
        go_wp2_with (with_reducible (show wpList _ _ _ (Oper.mk _ (Op.build 56 _) _ _ _ _ :: _) _ _); refine pause ?_)
        unfold Paused
        refine wpList_buildK (by rfl) 56 _ (by rfl) _ (by kernel_rfl) _ (updZ_built u HFU.out) ?_
        go_wp2_with (with_reducible (show wpList _ _ _ (Oper.mk _ (Op.buildSlice _ _ _) _ _ _ _ :: _) _ _); refine pause ?_)
        unfold Paused
        refine wpList_buildSliceK (by rfl) 22 56 1 _ (by rfl) (cellsU1 u).toArray ip (.agg (cellsU1 ⟨⟨#[]⟩, List.replicate 32 0, List.replicate 32 0⟩).toArray) Tryz.underlying22 HIP.out.1 HIP.out.2.1 (by rw [HIP.out.2.2.1]; decide) (by rw [HIP.out.2.2.1]; decide) _ (by kernel_rfl) (by rw [HIP.out.2.2.1]; exact fill_one 65 (Value.agg (cellsU1 ⟨⟨#[]⟩, List.replicate 32 0, List.replicate 32 0⟩).toArray).cells _ (cellsU1_len HFU.out) (by rfl)) ?_
        have HRd := Lib.hid (HRc.out.below ((Below.refl _ _).alloc (Nat.le_refl _) (.cells (cellsU1 u).toArray 56)))
        have HXd := Lib.hid (Blk.new wc 56 (cellsU1 u).toArray)
        have HBd := Lib.hid HRc.out.big
        clear p3 HRc HB5c HB6c
        generalize wc.alloc (.cells (cellsU1 u).toArray 56) = wd at HRd HXd ⊢
        generalize wc.heap.size = gs at HXd HBd ⊢
        clear wc
        go_wp2_with (with_reducible (show wpList _ _ _ (Oper.mk _ (Op.call (Call.mk (Callee.builtin Builtin.append) _ _)) _ _ _ _ :: _) _ _); refine pause ?_)
        unfold Paused
        refine wpList_append_own wd (by rfl) (.tmp 28) (.tmp 33) 22 (by rfl) (w.heap.size + 2) 56 ip _ 65 80 Tryz.underlying22 HIP.out.1 HIP.out.2.1 HIP.out.2.2.1 HIP.out.2.2.2 (by rfl) (by decide) _ us.length _ (by rfl) HRd.out.ups ⟨gs, 0, none⟩ 1 1 (cellsU1 u) (by rfl) (by rw [cellsU1_len HFU.out]) (fun j u hj => by rw [Addr.add_mid, Nat.zero_add, HXd.out.cell j]; simpa using hj) (fun x hx => by have h1 := cellsU1_one u; rw [Array.all_eq_true_iff_forall_mem] at h1; exact h1 x (by simpa using hx)) (by have := HU.out.1; have := HLT.out; unfold maxLen; omega) (by have := HU.out.1; have := HLT.out; omega) HRd.out.big ?_
        intro v2 we ho hg _
        obtain ⟨A2, c2, rfl⟩ := own_slice ho
        have HG := Lib.hid (HRd.out.appU HFU.out ho hg)
        clear ho hg HRd HXd HBd wd
        have q3 : we.cell? ⟨w.heap.size + 1, 3, none⟩ = some vU := HG.out.box.cell 3
        have f3 := HG.out.box.frozen 3
        have HR9 := Lib.hid (HG.out.done 3 (.slice A2 (us.length + 1) c2) (x' := (n1 : Int)) (y' := (n2 : Int)) (z' := (n3 : Int)) rfl)
        simp only [Act.put]
        go_wp2
        go_roundw
        case rel => exact ⟨k + 1, HLT.out, by go_num, _, us ++ [u], ys, HR9, Lib.hid ⟨by rw [List.length_append, List.length_singleton, HU.out.1], by
          rw [← HU.out.2.1]
          obtain ⟨m, hm⟩ : ∃ m, nu - k = m + 1 := ⟨nu - k - 1, by have := HLT.out; omega⟩
          rw [hm, En.many_next HRU.out, show nu - (k + 1) = m by omega], HZ1.out⟩⟩
        case measure => have h5 := HLT.out; simp [intOf]; omega
    · obtain rfl : k = nu := by omega
      have ik : ¬ ((k : Nat) : Int) < k := by omega
      have hp := HP.out
      have h1 : En.many En.rdUp k [] z4 = .ok us zs := by rw [← HU.out.2.1, Nat.sub_self]; rfl
      rw [h1] at hp
      dsimp only at hp
      have HUL := Lib.hid HU.out.1
      have HZ := Lib.hid HU.out.2.2
      have HP := Lib.hid hp
      have HR := HRk
      clear hp h1 HU HRk hk hlt
      have CN : Calls Tryz.prog 59 #[.pointer (some ⟨i, 0, none⟩), .int .u8 98] wr (NumR w0 wr i r 98 zs a) := enumE_any i r 98 (Or.inl rfl) zs a w0 wr HR.out.at_ HR.out.bys HS.out
      go_wp2_with (go_at_call 59; refine pause ?_)
      unfold Paused
      refine CN.mono ?_
      rintro e w8 ⟨hbad, hok⟩
      have hp := HP.out
      cases h1 : En.num 98 zs with
      | bad k =>
        rw [h1] at hp
        dsimp only at hp
        have hF := hbad k h1
        have HE := Lib.hid (eread_bad (i := i) (a := a) (w0 := w0) hp (HR.out.fails hF))
        obtain ⟨rfl, _, _⟩ := hF
        exact ⟨rfl, HE.out⟩
      | ok no z5 =>
      rw [h1] at hp
      dsimp only at hp
      obtain ⟨rfl, hi', hg', hby', hln', hm', h98'⟩ := hok no z5 h1
      have HRn := Lib.hid (HR.out.read hg' hi' hby')
      have HZn : Hid (z5.length ≤ 100000) := Lib.hid (by have := HZ.out; omega)
      have HMno := Lib.hid hm'
      have HBno := Lib.hid h98'
      clear CN hbad hok HP HR HZ h1 hi' hg' hby' hln' hm' h98'
      have HR := HRn
      have HZ := HZn
      have HP := Lib.hid hp
      clear HRn HZn hp

      go_wp2
      go_loopw [39] (fun i' wr2 => ∃ k2 : Nat, k2 ≤ no ∧ i' = .int .i64 k2 ∧ ∃ vO ts zs2, Hid (RdE w0 w wr2 i r (n1 : Int) (n2 : Int) (n3 : Int) vU us vO ts zs2) ∧ Hid (ts.length = k2 ∧ En.many En.txt (no - k2) (ts.map (·.text)) zs2 = En.many En.txt no [] z5 ∧ zs2.length ≤ 100000)) (fun i' _ => no - (intOf i').toNat)
      case atStart => exact ⟨0, Nat.zero_le _, rfl, _, [], z5, HR, Lib.hid ⟨rfl, rfl, HZ.out⟩⟩
      case round =>
        obtain ⟨k2, hk, rfl, vO, ts, zs2, HRk, HU⟩ := hrel
        by_cases hlt : k2 < no
        · have i1 : ((k2 : Nat) : Int) < no := by omega
          have i2 : (0 : Int) ≤ ((k2 : Nat) : Int) := by omega
          have i3 : ((no : Nat) : Int) ≤ 255 := by have := HBno.out trivial; omega
          have HLT : Hid (k2 + 1 ≤ no) := Lib.hid hlt
          obtain ⟨m, hm⟩ : ∃ m, no - k2 = m + 1 := ⟨no - k2 - 1, by omega⟩
          have HBAD : Hid (∀ e, En.txt zs2 = .bad e → En.parts xs = .bad e) := Lib.hid (fun e he => by
            have h1 := HU.out.2.1
            rw [hm, En.many_bad he] at h1
            rw [HP.out, ← h1])
          have HNEXT : Hid (∀ tx zs3, En.txt zs2 = .ok tx zs3 → En.many En.txt (no - (k2 + 1)) (ts.map (·.text) ++ [tx]) zs3 = En.many En.txt no [] z5) := Lib.hid (fun tx zs3 he => by
            rw [← HU.out.2.1, hm, En.many_next he, show no - (k2 + 1) = m by omega])
          clear hk hlt hm
          go_wp2_with fail
          have HR0 := Lib.hid (HRk.out.below (below_drewN (Below.refl _ wr) 1))
          have HSX : Hid (wr.drew.cell? ⟨w.heap.size + 1, 4, none⟩ = some vO) := Lib.hid (HR0.out.box.cell 4)
          refine wp_region_upto (S := fun w' => w'.cell? ⟨w.heap.size + 1, 4, none⟩ = some vO) (b := 5) (by kernel_rfl) ?_
          change Upto _ _ _ _ _ _ _ _ _ wr.drew
          refine Upto.takeY (i := 0) (v := ?_) rfl (by kernel_rfl) (by kernel_rfl) (by kernel_rfl) (by kernel_rfl) (fun _ _ _ h => h) (Or.inl ⟨by rfl, ?_⟩) (fun _ => HSX.out) ?_
          rotate_left
          · intro w' _; go_simp; with_reducible rfl
          try simp only [Act.put, List.getElem_toArray, List.getElem_cons_zero, List.setIfInBounds_toArray, List.set_cons_zero, List.set_cons_succ]
          refine Upto.take (i := 1) (v := ?_) rfl (by kernel_rfl) (by kernel_rfl) (by kernel_rfl) (by kernel_rfl) (fun _ _ _ h => h) (Or.inl ⟨by rfl, ?_⟩) HSX.out ?_
          rotate_left
          · intro w' hS; go_simp; with_reducible rfl
          try simp only [Act.put, List.getElem_toArray, List.getElem_cons_zero, List.getElem_cons_succ, List.setIfInBounds_toArray, List.set_cons_zero, List.set_cons_succ]
          refine Upto.takeY (i := 2) (v := ?_) rfl (by kernel_rfl) (by kernel_rfl) (by kernel_rfl) (by kernel_rfl) (fun _ _ _ h => h) (Or.inl ⟨by rfl, ?_⟩) (fun _ => HSX.out) ?_
          rotate_left
          · intro w' _; go_simp; with_reducible rfl
          try simp only [Act.put, List.getElem_toArray, List.getElem_cons_zero, List.getElem_cons_succ, List.setIfInBounds_toArray, List.set_cons_zero, List.set_cons_succ]
          have CT := etxtE_any i r zs2 a w0 wr.drew HR0.out.at_ HR0.out.bys HS.out (Nat.lt_of_lt_of_le HR0.out.old.1 HR0.out.kpt.size)
          refine Upto.one (i := 3) (by kernel_rfl) rfl (by rfl) (fun K hK => ?_)
          go_simp
          refine CT.mono ?_
          rintro e w1 ⟨hbad, hok⟩
          cases ht : En.txt zs2 with
          | bad q =>
            have hF := hbad q ht
            have HE := eread_bad (i := i) (a := a) (w0 := w0) (HBAD.out q ht) (HR0.out.fails hF)
            obtain ⟨rfl, _, _⟩ := hF
            exact ⟨rfl, HE⟩
          | ok tx z1 =>
          obtain ⟨A, c, rfl, h2, h3, h4, h5, h6, h7, h8⟩ := hok tx z1 ht
          have HR1 := Lib.hid (HR0.out.read h4 h3 h5)
          have HT1 : Hid (CpT (w.heap.size + 2) w1 (.slice A tx.length c) tx ∧ Oc.bytes tx) := Lib.hid ⟨h2.lower HR0.out.big, h7⟩
          have HZ1 : Hid (z1.length ≤ 100000) := Lib.hid (by have := HU.out.2.2; omega)
          have HNX := Lib.hid (HNEXT.out tx z1 ht)
          clear hbad hok CT ht h2 h3 h4 h5 h6 h7 h8 HR0 HBAD HNEXT HSX
          dsimp only
          refine hK _ _ (fun _ _ => HR1.out.box.cell 4) ?_; clear hK K
          try simp only [Act.put, List.getElem_toArray, List.getElem_cons_zero, List.getElem_cons_succ, List.setIfInBounds_toArray, List.set_cons_zero, List.set_cons_succ]
          have HR2 := Lib.hid (HR1.out.below ((Below.refl _ _).alloc (Nat.le_refl _) (.cells #[.slice A tx.length c] 32)))
          have HT2 : Hid (CpT (w.heap.size + 2) (w1.alloc (.cells #[.slice A tx.length c] 32)) (.slice A tx.length c) tx ∧ Oc.bytes tx) := Lib.hid ⟨HT1.out.1.below ((Below.refl _ _).alloc (Nat.le_refl _) (.cells #[.slice A tx.length c] 32)), HT1.out.2⟩
          have HX2 := Lib.hid (Blk.new w1 32 #[.slice A tx.length c])
          refine Upto.one (i := 4) (by kernel_rfl) rfl (by rfl) (fun K hK => ?_)
          go_simp
          refine hK _ _ (fun _ _ => HR2.out.box.cell 4) ?_; clear hK K
          generalize w1.alloc (.cells #[.slice A tx.length c] 32) = w2 at HR2 HT2 HX2 ⊢
          generalize w1.heap.size = gs at HX2 ⊢
          clear HR1 HT1
          try simp only [Act.put, List.getElem_toArray, List.getElem_cons_zero, List.getElem_cons_succ, List.setIfInBounds_toArray, List.set_cons_zero, List.set_cons_succ]
          refine Upto.one (i := 5) (by kernel_rfl) rfl (by rfl) (fun K hK => ?_)
          refine wp_append_own w2 (.tmp 42) (.tmp 45) 23 (by rfl) (w.heap.size + 2) 32 iq (.slice none 0 0) 1 24 Tryz.underlying23 HIQ.out.1 HIQ.out.2.1 HIQ.out.2.2.1 HIQ.out.2.2.2 (by rfl) (by decide) _ ts.length _ (by rfl) HR2.out.objs ⟨gs, 0, none⟩ 1 1 [.slice A tx.length c] (by rfl) (by rfl) (fun j u hj => by rw [Addr.add_mid, Nat.zero_add, HX2.out.cell j]; simpa using hj) (by simp [Value.oneCell']) (by have := HU.out.1; have := HLT.out; unfold maxLen; omega) (by have := HU.out.1; have := HLT.out; omega) HR2.out.big ?_
          intro v2 w3 ho hg _
          obtain ⟨A2, c2, rfl⟩ := own_slice ho
          have HG := Lib.hid (HR2.out.appT (t := ⟨tx, .slice A tx.length c⟩) HT2.out ho hg)
          clear ho hg HR2 HX2 HT2
          have HQ3 : Hid (w3.cell? ⟨w.heap.size + 1, 4, none⟩ = some vO) := Lib.hid (HG.out.box.cell 4)
          refine hK _ _ (fun h => absurd rfl h) ?_; clear hK K
          try simp only [Act.put, List.getElem_toArray, List.getElem_cons_zero, List.getElem_cons_succ, List.setIfInBounds_toArray, List.set_cons_zero, List.set_cons_succ]
          refine Upto.one (i := 6) (by kernel_rfl) rfl (by rfl) (fun K hK => ?_)
          go_simp
          refine hK _ _ (fun _ _ => HQ3.out) ?_; clear hK K
          try simp only [Act.put, List.getElem_toArray, List.getElem_cons_zero, List.getElem_cons_succ, List.setIfInBounds_toArray, List.set_cons_zero, List.set_cons_succ]
          have q4 : w3.cell? ⟨w.heap.size + 1, 4, none⟩ = some vO := HQ3.out
          have f4 := HG.out.box.frozen 4
          refine Upto.one (i := 7) (by kernel_rfl) rfl (by rfl) (fun K hK => ?_)
          go_simp
          refine hK _ _ (fun _ h => absurd (h.symm.trans (show _ = true by kernel_rfl)) (by decide)) ?_; clear hK K
          try simp only [Act.put, List.getElem_toArray, List.getElem_cons_zero, List.getElem_cons_succ, List.setIfInBounds_toArray, List.set_cons_zero, List.set_cons_succ]
          have HR9 := Lib.hid (HG.out.done 4 (.slice A2 (ts.length + 1) c2) (x' := (n1 : Int)) (y' := (n2 : Int)) (z' := (n3 : Int)) rfl)
          refine Upto.done (by kernel_rfl) ?_ _
          go_wp2
          go_roundw
          case rel => exact ⟨k2 + 1, HLT.out, by go_num, _, ts ++ [⟨tx, .slice A tx.length c⟩], z1, HR9, Lib.hid ⟨by rw [List.length_append, List.length_singleton, HU.out.1], by rw [List.map_append, List.map_cons, List.map_nil]; exact HNX.out, HZ1.out⟩⟩
          case measure => have h5 := HLT.out; simp [intOf]; omega
        · obtain rfl : k2 = no := by omega
          have ik : ¬ ((k2 : Nat) : Int) < k2 := by omega
          have hp := HP.out
          have h1 : En.many En.txt k2 [] z5 = .ok (ts.map (·.text)) zs2 := by rw [← HU.out.2.1, Nat.sub_self]; rfl
          rw [h1] at hp
          dsimp only at hp
          have HP := Lib.hid hp
          have HR := HRk
          clear hp h1 HRk hk hlt
          obtain ⟨cs, U, cu, O, co, hcs, hen, hin, hkp, hbk⟩ := HR.out.fin
          have HCS := Lib.hid hcs
          have HF := Lib.hid (And.intro hen (And.intro hin hkp))
          have HB : Hid (Blk wr (w.heap.size + 1) 25 cs) := Lib.hid (by rw [hcs]; exact HR.out.box)
          have HBR := Lib.hid HR.out.res
          have HBF := Lib.hid hbk
          clear hcs hen hin hkp hbk
          go_wp2_with (with_reducible (show wpList _ _ _ (Oper.mk _ (Op.load 25 _) _ _ _ _ :: _) _ _); refine pause ?_)
          unfold Paused
          refine wpList_row_w (by rfl) 25 (.tmp 3) (by rfl) (w.heap.size + 1) (by rfl) 25 cs _ HB.out (by first | exact Tryz.underlying25 | kernel_rfl) (by rfl) (ent_load (by rw [HCS.out]; rfl)) ?_
          go_wp2_with (with_reducible (show wpList _ _ _ (Oper.mk _ (Op.store 25 _ _) _ _ _ _ :: _) _ _); refine pause ?_)
          unfold Paused
          refine wpList_store_row (by rfl) 25 (.tmp 2) (.tmp 49) (by rfl) w.heap.size cs (by rfl) (by rfl) 25 zE HBR.out (ent_load (by rw [HCS.out]; rfl)) (by rw [HCS.out]; rfl) (HF.out.1.one) ?_
          generalize wr.setRow w.heap.size cs = w9 at HF HBF ⊢
          clear HB HBR HR
          clear wr
          simp only [Act.put]
          go_wp2
          exact bodyPost_ret (v := .agg cs) (results_cell_row rfl _ _ w.heap.size 25 cs (0, 0) _ rfl HBF.out (by first | exact Tryz.underlying25 | kernel_rfl) rfl (ent_load (by rw [HCS.out]; rfl))) rfl ⟨fun k hk => (by rw [HP.out] at hk; cases hk), fun en zs hk => (by
            rw [HP.out] at hk
            injection hk with h1 h2
            subst h1 h2
            exact ⟨cs, U, cu, O, co, ts, rfl, HF.out.1, HF.out.2.1, HF.out.2.2⟩)⟩
end Go.Proofs.YtjkneidoochfjaaGreatDoor
