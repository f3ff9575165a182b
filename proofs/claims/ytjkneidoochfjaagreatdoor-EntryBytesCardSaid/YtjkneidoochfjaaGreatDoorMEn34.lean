/- An entry's bytes by the document's own words: cartageref10.Laid. -/
import Derived.Test.YtjkneidoochfjaaGreatDoorMEn33s
import Derived.Test.YtjkneidoochfjaaGreatDoorMEn25s
import Derived.Test.YtjkneidoochfjaaGreatDoorMEn27a
namespace Go.Proofs.YtjkneidoochfjaaGreatDoor
open Go Go.RowKit
set_option maxRecDepth 100000 in
set_option maxHeartbeats 16000000 in
theorem relaid_any (e : En.E) (ca : Array Value) (U O : Option Addr) (cu co : Nat) (ts : List En.Bt) (w : World) (h : EnC w e ca U cu O co ts) (hF : En.Frm e) :
    Calls Tryz.prog 15 #[.agg ca] w fun r w' => ∃ v, r = .returned v ∧ Pad w.heap.size w v (En.laid e) w' := by
  obtain ⟨w1, hw1⟩ : ∃ w1, w1 = w.alloc (.cells ca 29) := ⟨_, rfl⟩
  have hb : EnR w w1 e ca U cu O co ts := hw1 ▸ EnR.of h
  have HE := Lib.hid hb
  have HF := Lib.hid hF
  obtain ⟨x, hx⟩ : ∃ c : Nat, e.client = c := ⟨e.client.toNat, by have := hF.c0; omega⟩
  obtain ⟨y, hy⟩ : ∃ c : Nat, e.number = c := ⟨e.number.toNat, by have := hF.n0; omega⟩
  obtain ⟨z, hz⟩ : ∃ c : Nat, e.answer = c := ⟨e.answer.toNat, by have := hF.a0; omega⟩
  obtain ⟨nu, hnu⟩ : ∃ nu, nu = e.ups.length := ⟨_, rfl⟩
  obtain ⟨no, hno⟩ : ∃ no, no = e.objs.length := ⟨_, rfl⟩
  have HXE := Lib.hid hx
  have HYE := Lib.hid hy
  have HZE := Lib.hid hz
  have HNU := Lib.hid hnu
  have HNO := Lib.hid hno
  have q1 : IntKind.u8.wrap (x : Int) = (x : Int) := small_conv x (by have := hF.c1; omega)
  have q2 : IntKind.u8.wrap (z : Int) = (z : Int) := small_conv z (by have := hF.a1; omega)
  have q3 : IntKind.u8.wrap (nu : Int) = (nu : Int) := small_conv nu (by have := hF.nu; omega)
  have q4 : IntKind.u8.wrap (no : Int) = (no : Int) := small_conv no (by have := hF.no; omega)
  have HC0 : Hid (∀ w', Below w1.heap.size w1 w' → w'.cell? ⟨w.heap.size, 0, none⟩ = some (.int .i64 (x : Int))) := Lib.hid (fun w' hb' => by rw [← hx]; exact (hb.below hb').c0)
  have HC1 : Hid (∀ w', Below w1.heap.size w1 w' → w'.cell? ⟨w.heap.size, 1, none⟩ = some (.int .i64 (y : Int))) := Lib.hid (fun w' hb' => by rw [← hy]; exact (hb.below hb').c1)
  have HC2 : Hid (∀ w', Below w1.heap.size w1 w' → w'.cell? ⟨w.heap.size, 2, none⟩ = some (.int .i64 (z : Int))) := Lib.hid (fun w' hb' => by rw [← hz]; exact (hb.below hb').c2)
  have HC3 : Hid (∀ w', Below w1.heap.size w1 w' → w'.cell? ⟨w.heap.size, 3, none⟩ = some (.slice U nu cu)) := Lib.hid (fun w' hb' => by rw [hnu]; exact (hb.below hb').c3)
  have HC4 : Hid (∀ w', Below w1.heap.size w1 w' → w'.cell? ⟨w.heap.size, 4, none⟩ = some (.slice O no co)) := Lib.hid (fun w' hb' => by rw [hno]; exact (hb.below hb').c4)
  have HY8 : Hid (y ≤ 4611686018427387903) := Lib.hid (by have := hF.n1; omega)
  have HS1 : Hid (Below w1.heap.size w1 w1.drew) := Lib.hid (below_drewN (Below.refl _ _) 1)
  obtain ⟨ip, hip, hpz, hps, hpb⟩ := info_parts fld_info
  have HIP : Hid (_ ∧ _ ∧ _ ∧ _) := Lib.hid ⟨hip, hpz, hps, hpb⟩
  clear hip hpz hps hpb
  have e1 := hw1.symm
  clear h hb hF hw1 hx hy hz hnu hno
  go_enter Tryz.func15, Tryz.ntmps15
  go_wp2_with fail
  refine wp_region_held (S := fun w' => Below w1.heap.size w1 w') (by kernel_rfl) ?_
  change wpAnyH _ _ _ _ _ _ _ _ w1.drew
  refine wpAnyH_take (i := 0) (v := ?_) rfl (by kernel_rfl) (by kernel_rfl) (by kernel_rfl) (fun _ _ _ h => h) (Or.inl ⟨by rfl, ?_⟩) HS1.out ?_
  rotate_left
  · intro w' hS; go_simp; with_reducible rfl
  try simp only [Act.put, List.getElem_toArray, List.getElem_cons_zero, List.setIfInBounds_toArray, List.set_cons_zero, List.set_cons_succ]
  refine wpAnyH_take (i := 1) (v := ?_) rfl (by kernel_rfl) (by kernel_rfl) (by kernel_rfl) (fun _ _ _ h => h) (Or.inl ⟨by rfl, ?_⟩) HS1.out ?_
  rotate_left
  · intro w' hS; have h0 := HC0.out _ hS; go_simp; with_reducible rfl
  try simp only [Act.put, List.getElem_toArray, List.getElem_cons_zero, List.getElem_cons_succ, List.setIfInBounds_toArray, List.set_cons_zero, List.set_cons_succ]
  refine wpAnyH_take (i := 2) (v := ?_) rfl (by kernel_rfl) (by kernel_rfl) (by kernel_rfl) (fun _ _ _ h => h) (Or.inl ⟨by rfl, ?_⟩) HS1.out ?_
  rotate_left
  · intro w' hS; go_simp; with_reducible rfl
  try simp only [Act.put, List.getElem_toArray, List.getElem_cons_zero, List.getElem_cons_succ, List.setIfInBounds_toArray, List.set_cons_zero, List.set_cons_succ]
  refine wpAnyH_take (i := 4) (v := ?_) rfl (by kernel_rfl) (by kernel_rfl) (by kernel_rfl) (fun _ _ _ h => h) (Or.inl ⟨by rfl, ?_⟩) HS1.out ?_
  rotate_left
  · intro w' hS; go_simp; with_reducible rfl
  try simp only [Act.put, List.getElem_toArray, List.getElem_cons_zero, List.getElem_cons_succ, List.setIfInBounds_toArray, List.set_cons_zero, List.set_cons_succ]
  refine wpAnyH_take (i := 5) (v := ?_) rfl (by kernel_rfl) (by kernel_rfl) (by kernel_rfl) (fun _ _ _ h => h) (Or.inl ⟨by rfl, ?_⟩) HS1.out ?_
  rotate_left
  · intro w' hS; have h0 := HC1.out _ hS; go_simp; with_reducible rfl
  try simp only [Act.put, List.getElem_toArray, List.getElem_cons_zero, List.getElem_cons_succ, List.setIfInBounds_toArray, List.set_cons_zero, List.set_cons_succ]
  refine frame_intro (p := fun x => wpAnyH _ _ _ _ _ _ _ x w1.drew) _ ?_
  intro a1 ha1
  have HA1 := Lib.hid ha1
  clear ha1
  change wpAnyH _ _ _ _ _ (2 + 2) (St2.ls ⟨false, false⟩) a1 w1.drew
  refine wpAnyH_states3 St2.ls St2.left St2.nx St2.V (IS2 a1 w1 [x] (Oc.nums 8 y)) 2 (fun s a w' ⟨_, _, _, hi⟩ => hi.bel) ?_ (fun _ _ _ _ => trivial) (fun s hv hl => St2.nx_ne hv hl) ?_ ?_ 2 ⟨false, false⟩ a1 w1.drew ⟨undef, undef, by rw [HA1.out]; rfl, HS1.out, fun h => (by cases h), fun h => (by cases h)⟩ rfl
  · rintro ⟨b3, b6⟩ _ hl
    cases b3 <;> cases b6 <;> first | exact absurd rfl hl | kernel_rfl
  · rintro ⟨b3, b6⟩ a w' ⟨v13, v16, hx, hI⟩ j hj
    rcases St2.mem_nx hj with ⟨rfl, h1⟩ | ⟨rfl, h1⟩
    · obtain rfl : b3 = false := h1
      refine ⟨⟨true, b6⟩, by rfl, by simp [St2.left]; try omega, wpOp_of rfl (by rfl) ?_⟩
      rw [hx, HA1.out]
      clear hx
      simp only [Act.put, List.getElem_toArray, List.getElem_cons_zero, List.getElem_cons_succ, List.setIfInBounds_toArray, List.set_cons_zero, List.set_cons_succ]
      go_simp
      exact ⟨_, v16, by simp only [Act.put, List.setIfInBounds_toArray, List.set_cons_zero, List.set_cons_succ], hI.row⟩
    · obtain rfl : b6 = false := h1
      refine ⟨⟨b3, true⟩, by rfl, by simp [St2.left]; try omega, wpOp_of rfl (by rfl) ?_⟩
      rw [hx, HA1.out]
      clear hx
      simp only [Act.put, List.getElem_toArray, List.getElem_cons_zero, List.getElem_cons_succ, List.setIfInBounds_toArray, List.set_cons_zero, List.set_cons_succ]
      have CN := rnum_any 8 y w' (by omega) HY8.out
      go_simp
      refine CN.mono ?_
      rintro r w'' ⟨v, rfl, hr, hb⟩
      dsimp only
      exact ⟨v13, v, by simp only [Act.put, List.setIfInBounds_toArray, List.set_cons_zero, List.set_cons_succ], hI.laid hb hr⟩
  · rintro ⟨b3, b6⟩ a w' ⟨v13, v16, hx, hI⟩ hl
    obtain ⟨rfl, rfl⟩ : b3 = true ∧ b6 = true := by
      cases b3 <;> cases b6 <;> first | exact ⟨rfl, rfl⟩ | exact absurd hl (by decide)
    have HP := Lib.hid (hI.pad rfl)
    have HN := Lib.hid (hI.num rfl)
    have HBL := Lib.hid hI.bel
    rw [hx, HA1.out]
    clear hx hl hI HA1 HS1
    clear a a1
    simp only [Act.put, List.setIfInBounds_toArray, List.set_cons_zero, List.set_cons_succ]
    change wpAnyH _ _ _ _ _ 2 #[true, true, true, true, true, true, true, false, false] _ w'
    refine all_one (i := 7) (by kernel_rfl) rfl (by rfl) (fun K hK => ?_)
    refine wp_padX (.tmp 13) (.tmp 16) (by rfl) rfl (by rfl) HP.out (by rfl) HN.out (by rw [Oc.nums_len]; simp) ?_
    intro v3 w3 hp3
    have HP3 := Lib.hid hp3
    clear hp3 HP HN HBL
    refine hK _ _ HP3.out.bel ?_; clear hK K
    clear w'
    simp only [Act.put, List.getElem_toArray, List.getElem_cons_zero, List.getElem_cons_succ, List.setIfInBounds_toArray, List.set_cons_zero, List.set_cons_succ]
    refine all_one (i := 8) (by kernel_rfl) rfl (by rfl) (fun K hK => ?_)
    go_simp
    refine hK _ _ HP3.out.bel ?_; clear hK K
    simp only [List.setIfInBounds_toArray, List.set_cons_zero, List.set_cons_succ]
    refine wpAnyH_done (by kernel_rfl) ?_ _
    have h2 := HC2.out _ HP3.out.bel
    have h3 := HC3.out _ HP3.out.bel
    go_wp2_with (with_reducible (show wpList _ _ _ (Oper.mk _ (Op.call (Call.mk (Callee.builtin Builtin.append) _ _)) _ _ _ _ :: _) _ _); refine pause ?_)
    unfold Paused
    change wpList _ _ _ _ _ (w3.alloc (.cells (u8s [z, nu]) 5))
    have HPb := Lib.hid (HP3.out.next rfl ((Below.refl w3.heap.size w3).alloc (Nat.le_refl _) (.cells (u8s [z, nu]) 5)))
    have HRb : Hid (Rd (w3.alloc (.cells (u8s [z, nu]) 5)) (.slice (some ⟨w3.heap.size, 0, none⟩) 2 2) [z, nu]) := Lib.hid (rd_of_lit w3 [z, nu] _ (by simp))
    clear h2 h3 HP3
    generalize w3.alloc (.cells (u8s [z, nu]) 5) = wb at HPb HRb ⊢
    generalize w3.heap.size = gb at HRb ⊢
    refine wpList_padX (by rfl) (.tmp 18) (.tmp 26) (by rfl) rfl (by rfl) HPb.out (by rfl) HRb.out (by rw [List.length_append, Oc.nums_len]; simp) ?_
    intro v4 w4 hp4
    obtain ⟨P0, hP0⟩ : ∃ P0, P0 = ([x] ++ Oc.nums 8 y) ++ [z, nu] := ⟨_, rfl⟩
    rw [← hP0] at hp4
    have HP0 := Lib.hid hP0
    have HPL : Hid (P0.length = 11) := Lib.hid (by rw [hP0]; simp [Oc.nums_len])
    have HP4 := Lib.hid hp4
    clear hp4 HPb HRb hP0
    clear w3 wb
    simp only [Act.put]
    have h3 := HC3.out _ HP4.out.bel
    go_wp2
    clear h3
    go_loopw [3, 31] (fun v i wr => ∃ k : Nat, k ≤ nu ∧ i = .int .i64 k ∧ Hid (Pad w1.heap.size w1 v (P0 ++ En.laidUps (e.ups.take k)) wr)) (fun _ i _ => nu - (intOf i).toNat)
    case atStart => exact ⟨0, Nat.zero_le _, rfl, by rw [List.take_zero]; show Hid (Pad _ _ _ (P0 ++ []) _); rw [List.append_nil]; exact HP4⟩
    case round =>
      obtain ⟨k, hk, rfl, HQ⟩ := hrel
      by_cases hlt : k < nu
      · have hkl : k < e.ups.length := by rw [← HNU.out]; exact hlt
        have i1 : ((k : Nat) : Int) < nu := by omega
        have i2 : (0 : Int) ≤ ((k : Nat) : Int) := by omega
        have i3 : ((nu : Nat) : Int) ≤ 8 := by have := HF.out.nu; have := HNU.out; omega
        have hups := (HE.out.below HQ.out.bel).ent.ups
        rw [← HNU.out] at hups
        obtain ⟨b, o, rfl, hbl, hrg⟩ := hups.up HNU.out HE.out.ent.fit hkl
        have hft := HE.out.ent.fit _ (List.getElem_mem hkl)
        have hsz := HF.out.refs _ (List.getElem_mem hkl)
        have HTK : Hid (En.laidUps (e.ups.take (k + 1)) = En.laidUps (e.ups.take k) ++ En.laidUp e.ups[k]) := Lib.hid (by
          rw [List.take_succ_eq_append_getElem hkl, En.laidUps_eq, En.laidUps_eq, List.flatMap_append, List.flatMap_cons, List.flatMap_nil, List.append_nil])
        have HLN : Hid ((P0 ++ En.laidUps (e.ups.take k)).length ≤ 11 + 90 * k) := Lib.hid (by
          have h1 := En.laidUps_len (us := e.ups.take k) (fun u hu => HE.out.ent.fit u (List.mem_of_mem_take hu)) (fun u hu => HF.out.refs u (List.mem_of_mem_take hu))
          rw [List.length_take] at h1
          rw [List.length_append, HPL.out]
          omega)
        generalize e.ups[k] = u at hrg hft hsz HTK
        have HFU := Lib.hid hft
        have HSZ := Lib.hid hsz
        have HRG := Lib.hid hrg
        have HLT : Hid (k + 1 ≤ nu) := Lib.hid hlt
        clear hkl hups hbl hrg hft hsz hk hlt
        go_wp2_with (with_reducible (show wpList _ _ _ (Oper.mk _ (Op.load 58 _) _ _ _ _ :: _) _ _); refine pause ?_)
        unfold Paused
        refine wpList_mid_w (by rfl) 58 (.tmp 33) (by rfl) b (o + k * 65) (by rfl) (cellsU1 u) _ HRG.out Tryz.underlying58 (by rfl) (rup_load HFU.out) ?_
        go_wp2_with (with_reducible (show wpList _ _ _ (Oper.mk _ (Op.store 58 _ _) _ _ _ _ :: _) _ _); refine pause ?_)
        unfold Paused
        change wpList _ _ _ _ _ (wr.alloc (.cells zU 58))
        refine wpList_store_row (by rfl) 58 (.tmp 5) (.tmp 34) (by rfl) wr.heap.size (cellsU1 u).toArray (by rfl) (by rfl) 58 zU (Blk.new wr _ _) (rup_load2 HFU.out) (by rw [zU_size, List.size_toArray, cellsU1_len HFU.out]) (cellsU1_one u) ?_
        have HX6 := Lib.hid (boxU (w := wr) (u := u))
        generalize (wr.alloc (.cells zU 58)).setRow wr.heap.size (cellsU1 u).toArray = w6 at HX6 ⊢
        have HQ6 := Lib.hid (HQ.out.next rfl HX6.out.1)
        have HI6 := Lib.hid HX6.out.2
        clear HRG HQ HX6
        generalize wr.heap.size = g6 at HI6 ⊢
        clear wr
        simp only [Act.put]
        go_wp2_with fail
        have HI7 : Hid (Blk w6.drew g6 58 (cellsU1 u).toArray) := HI6
        have HQ7 := Lib.hid (HQ6.out.next rfl (show Below w6.heap.size w6 w6.drew from below_drewN (Below.refl _ w6) 1))
        clear HQ6 HI6
        refine wp_region_held (S := (fun w' => Blk w' g6 58 (cellsU1 u).toArray)) (by kernel_rfl) ?_
        change wpAnyH _ _ _ _ _ _ _ _ w6.drew
        refine wpAnyH_take (i := 0) (v := ?_) rfl (by kernel_rfl) (by kernel_rfl) (by kernel_rfl) (fun _ _ _ h => h) (Or.inl ⟨by rfl, ?_⟩) HI7.out ?_
        rotate_left
        · intro w' hS; go_simp; with_reducible rfl
        try simp only [Act.put, List.getElem_toArray, List.getElem_cons_zero, List.setIfInBounds_toArray, List.set_cons_zero, List.set_cons_succ]
        refine wpAnyH_take (i := 1) (v := ?_) rfl (by kernel_rfl) (by kernel_rfl) (by kernel_rfl) (fun _ _ _ h => h) (Or.inl ⟨by rfl, ?_⟩) HI7.out ?_
        rotate_left
        · intro w' hS; have h0 := (Blk.cell hS 0).trans (show (cellsU1 u).toArray[0]? = some (.string u.ref) from rfl); go_simp; with_reducible rfl
        try simp only [Act.put, List.getElem_toArray, List.getElem_cons_zero, List.getElem_cons_succ, List.setIfInBounds_toArray, List.set_cons_zero, List.set_cons_succ]
        refine wpAnyH_take (i := 4) (v := ?_) rfl (by kernel_rfl) (by kernel_rfl) (by kernel_rfl) (fun _ _ _ h => h) (Or.inl ⟨by rfl, ?_⟩) HI7.out ?_
        rotate_left
        · intro w' hS; go_simp; with_reducible rfl
        try simp only [Act.put, List.getElem_toArray, List.getElem_cons_zero, List.getElem_cons_succ, List.setIfInBounds_toArray, List.set_cons_zero, List.set_cons_succ]
        refine wpAnyH_take (i := 5) (v := ?_) rfl (by kernel_rfl) (by kernel_rfl) (by kernel_rfl) (fun _ _ _ h => h) (Or.inl ⟨by rfl, ?_⟩) HI7.out ?_
        rotate_left
        · intro w' hS; go_simp; with_reducible rfl
        try simp only [Act.put, List.getElem_toArray, List.getElem_cons_zero, List.getElem_cons_succ, List.setIfInBounds_toArray, List.set_cons_zero, List.set_cons_succ]
        refine wpAnyH_take (i := 6) (v := .agg #[.int .i64 0, .slice (some ⟨g6, 1, none⟩) 32 32]) rfl (by kernel_rfl) (by kernel_rfl) (by kernel_rfl) (fun _ _ _ h => h) (Or.inl ⟨by rfl, fun w' hS => exec_buildZ 77 _ rfl [(1, .slice (some ⟨g6, 1, none⟩) 32 32)] (by kernel_rfl) _ (fld2_built _ _ _)⟩) HI7.out ?_
        try simp only [Act.put, List.getElem_toArray, List.getElem_cons_zero, List.getElem_cons_succ, List.setIfInBounds_toArray, List.set_cons_zero, List.set_cons_succ]
        refine wpAnyH_take (i := 7) (v := ?_) rfl (by kernel_rfl) (by kernel_rfl) (by kernel_rfl) (fun _ _ _ h => h) (Or.inl ⟨by rfl, ?_⟩) HI7.out ?_
        rotate_left
        · intro w' hS; go_simp; with_reducible rfl
        try simp only [Act.put, List.getElem_toArray, List.getElem_cons_zero, List.getElem_cons_succ, List.setIfInBounds_toArray, List.set_cons_zero, List.set_cons_succ]
        refine wpAnyH_take (i := 8) (v := ?_) rfl (by kernel_rfl) (by kernel_rfl) (by kernel_rfl) (fun _ _ _ h => h) (Or.inl ⟨by rfl, ?_⟩) HI7.out ?_
        rotate_left
        · intro w' hS; go_simp; with_reducible rfl
        try simp only [Act.put, List.getElem_toArray, List.getElem_cons_zero, List.getElem_cons_succ, List.setIfInBounds_toArray, List.set_cons_zero, List.set_cons_succ]
        refine wpAnyH_take (i := 9) (v := .agg #[.int .i64 0, .slice (some ⟨g6, 33, none⟩) 32 32]) rfl (by kernel_rfl) (by kernel_rfl) (by kernel_rfl) (fun _ _ _ h => h) (Or.inl ⟨by rfl, fun w' hS => exec_buildZ 77 _ rfl [(1, .slice (some ⟨g6, 33, none⟩) 32 32)] (by kernel_rfl) _ (fld2_built _ _ _)⟩) HI7.out ?_
        try simp only [Act.put, List.getElem_toArray, List.getElem_cons_zero, List.getElem_cons_succ, List.setIfInBounds_toArray, List.set_cons_zero, List.set_cons_succ]
        generalize w6.drew = w7 at HI7 HQ7 ⊢
        clear w6
        obtain ⟨c1, w8, hc1, hr1, hx8, hb8⟩ := strB_convE u.ref w7
        have HI8 := Lib.hid (HI7.out.below hb8 HI7.out.lt)
        have HQ8 := Lib.hid (HQ7.out.next rfl hb8)
        have HR8 := Lib.hid hr1
        refine all_one (i := 2) (by kernel_rfl) rfl (by rfl) (fun K hK => ?_)
        refine wp_convE 9 32 (.tmp 37) (by rfl) (.string u.ref) (by rfl) (.slice (some ⟨w7.heap.size, 0, none⟩) u.ref.size c1) w8 hc1 ?_
        refine hK _ _ HI8.out ?_; clear hK K
        clear hc1 hr1 hx8 hb8 HI7 HQ7
        generalize w7.heap.size = gt at HR8 ⊢
        clear w7
        try simp only [Act.put, List.getElem_toArray, List.getElem_cons_zero, List.getElem_cons_succ, List.setIfInBounds_toArray, List.set_cons_zero, List.set_cons_succ]
        refine wpAnyH_take (i := 3) (v := .agg #[.int .i64 0, .slice (some ⟨gt, 0, none⟩) u.ref.size c1]) rfl (by kernel_rfl) (by kernel_rfl) (by kernel_rfl) (fun _ _ _ h => h) (Or.inl ⟨by rfl, fun w' hS => exec_buildZ 77 _ rfl [(1, .slice (some ⟨gt, 0, none⟩) u.ref.size c1)] (by kernel_rfl) _ (fld2_built _ _ _)⟩) HI8.out ?_
        try simp only [Act.put, List.getElem_toArray, List.getElem_cons_zero, List.getElem_cons_succ, List.setIfInBounds_toArray, List.set_cons_zero, List.set_cons_succ]
        obtain ⟨fs, hfs⟩ : ∃ fs : List Fld, fs = [⟨0, some ⟨gt, 0, none⟩, u.ref.size, c1, strB u.ref⟩, ⟨0, some ⟨g6, 1, none⟩, 32, 32, u.old⟩, ⟨0, some ⟨g6, 33, none⟩, 32, 32, u.new⟩] := ⟨_, rfl⟩
        have HKE : Hid (fs.map Oc.fkey = En.upF u) := Lib.hid (by rw [hfs]; rfl)
        have HF3 : Hid (fs.length = 3) := Lib.hid (by rw [hfs]; rfl)
        have HFC : Hid ((cellsFd fs).toArray = #[.int .i64 0, .slice (some ⟨gt, 0, none⟩) u.ref.size c1, .int .i64 0, .slice (some ⟨g6, 1, none⟩) 32 32, .int .i64 0, .slice (some ⟨g6, 33, none⟩) 32 32]) := Lib.hid (by rw [hfs]; rfl)
        have HFL : Hid (∀ f ∈ fs, f.bs.length = f.l ∧ f.l ≤ 1000) := Lib.hid (fun f hf => by
          rw [hfs] at hf
          rcases List.mem_cons.1 hf with rfl | hf
          · exact ⟨strB_len _, by have := HSZ.out; show u.ref.size ≤ 1000; omega⟩
          · rcases List.mem_cons.1 hf with rfl | hf
            · exact ⟨HFU.out.1.1, by show 32 ≤ 1000; omega⟩
            · rw [List.mem_singleton.1 hf]; exact ⟨HFU.out.2.1, by show 32 ≤ 1000; omega⟩)
        have HRD : Hid (∀ w', Below w8.heap.size w8 w' → ∀ f ∈ fs, Rd w' (.slice f.A f.l f.c) f.bs ∧ f.bs.length = f.l) := Lib.hid (fun w' hb f hf => by
          have hl := (HFL.out f hf).1
          rw [hfs] at hf
          have HIx := HI8.out.below hb HI8.out.lt
          rcases List.mem_cons.1 hf with rfl | hf
          · exact ⟨HR8.out.below hb (Nat.le_refl _), hl⟩
          · rcases List.mem_cons.1 hf with rfl | hf
            · exact ⟨⟨_, 32, by rw [HFU.out.1.1], by rw [HFU.out.1.1]; exact Nat.le_refl _, fun _ => ⟨g6, 1, rfl, HIx.lt, fun i hi => rng_oldR HFU.out HIx i _ (cellsB_get hi)⟩⟩, hl⟩
            · rw [List.mem_singleton.1 hf] at hl ⊢
              exact ⟨⟨_, 32, by rw [HFU.out.2.1], by rw [HFU.out.2.1]; exact Nat.le_refl _, fun _ => ⟨g6, 33, rfl, HIx.lt, fun i hi => rng_newR HFU.out HIx i _ (cellsB_get hi)⟩⟩, hl⟩)
        have HIb := Lib.hid (HI8.out.below ((Below.refl _ _).alloc (Nat.le_refl _) (.cells (cellsFd fs).toArray 77)) HI8.out.lt)
        have HQb := Lib.hid (HQ8.out.next rfl ((Below.refl _ _).alloc (Nat.le_refl _) (.cells (cellsFd fs).toArray 77)))
        have HRW : Hid (FRow (w8.alloc (.cells (cellsFd fs).toArray 77)) w8.heap.size 0 fs) := Lib.hid (frow_blk (Blk.new w8 _ _) (HRD.out _ ((Below.refl _ _).alloc (Nat.le_refl _) _)))
        refine all_one (i := 10) (by kernel_rfl) rfl (by rfl) (fun K hK => ?_)
        refine wp_buildSliceK 78 77 3 _ (by rfl) (cellsFd fs).toArray ip (.agg #[.int .i64 0, .slice none 0 0]) Tryz.underlying78 HIP.out.1 HIP.out.2.1 (by rw [HIP.out.2.2.1]; decide) (by rw [HIP.out.2.2.1]; decide) _ (by kernel_rfl) (by rw [HIP.out.2.2.1, HFC.out]; exact fill_threeE _ _ _ _ _ _ _) ?_
        refine hK _ _ HIb.out ?_; clear hK K
        generalize w8.alloc (.cells (cellsFd fs).toArray 77) = wb at HIb HQb HRW ⊢
        generalize w8.heap.size = gb at HRW ⊢
        clear hfs HRD HFC HI8 HQ8 HR8
        clear w8
        try simp only [Act.put, List.getElem_toArray, List.getElem_cons_zero, List.getElem_cons_succ, List.setIfInBounds_toArray, List.set_cons_zero, List.set_cons_succ]
        have CW := rwrite_any ⟨#[116, 111, 111]⟩ (some ⟨gb, 0, none⟩) gb 0 3 fs wb (by decide) (fun _ => rfl) HRW.out (by rw [HF3.out]; omega) (fun f hf => (HFL.out f hf).2)
        rw [HF3.out] at CW
        refine all_one (i := 11) (by kernel_rfl) rfl (by rfl) (fun K hK => ?_)
        go_simp
        refine CW.mono ?_
        rintro r w9 ⟨hb9, _, _, hok⟩
        obtain ⟨v9, rfl, hp9⟩ := hok (by decide) HF3.out (En.up_ok HFU.out (by have := HSZ.out; omega) fs HKE.out (fun f hf => (HFL.out f hf).1) _)
        rw [show (⟨#[116, 111, 111]⟩ : ByteArray).data.toList = [116, 111, 111] from rfl, En.up_encs fs HKE.out] at hp9
        have HI9 := Lib.hid (HIb.out.below hb9 HIb.out.lt)
        have HQ9 := Lib.hid (HQb.out.next rfl hb9)
        have HR9 := Lib.hid hp9.rd
        clear hb9 hok hp9 CW HIb HQb HRW HFL HF3 HKE
        dsimp only
        refine hK _ _ HI9.out ?_; clear hK K
        try simp only [Act.put, List.getElem_toArray, List.getElem_cons_zero, List.getElem_cons_succ, List.setIfInBounds_toArray, List.set_cons_zero, List.set_cons_succ]
        refine wpAnyH_take (i := 12) (v := ?_) rfl (by kernel_rfl) (by kernel_rfl) (by kernel_rfl) (fun _ _ _ h => h) (Or.inl ⟨by rfl, ?_⟩) HI9.out ?_
        rotate_left
        · intro w' hS; go_simp; with_reducible rfl
        try simp only [Act.put, List.getElem_toArray, List.getElem_cons_zero, List.getElem_cons_succ, List.setIfInBounds_toArray, List.set_cons_zero, List.set_cons_succ]
        refine wpAnyH_take (i := 13) (v := ?_) rfl (by kernel_rfl) (by kernel_rfl) (by kernel_rfl) (fun _ _ _ h => h) (Or.inl ⟨by rfl, ?_⟩) HI9.out ?_
        rotate_left
        · intro w' hS; go_simp; with_reducible rfl
        try simp only [Act.put, List.getElem_toArray, List.getElem_cons_zero, List.getElem_cons_succ, List.setIfInBounds_toArray, List.set_cons_zero, List.set_cons_succ]
        refine wpAnyH_take (i := 14) (v := ?_) rfl (by kernel_rfl) (by kernel_rfl) (by kernel_rfl) (fun _ _ _ h => h) (Or.inl ⟨by rfl, ?_⟩) HI9.out ?_
        rotate_left
        · intro w' hS; go_simp; with_reducible rfl
        try simp only [Act.put, List.getElem_toArray, List.getElem_cons_zero, List.getElem_cons_succ, List.setIfInBounds_toArray, List.set_cons_zero, List.set_cons_succ]
        refine wpAnyH_take (i := 15) (v := ?_) rfl (by kernel_rfl) (by kernel_rfl) (by kernel_rfl) (fun _ _ _ h => h) (Or.inl ⟨by rfl, ?_⟩) HI9.out ?_
        rotate_left
        · intro w' hS; go_simp; with_reducible rfl
        try simp only [Act.put, List.getElem_toArray, List.getElem_cons_zero, List.getElem_cons_succ, List.setIfInBounds_toArray, List.set_cons_zero, List.set_cons_succ]
        refine wpAnyH_take (i := 16) (v := ?_) rfl (by kernel_rfl) (by kernel_rfl) (by kernel_rfl) (fun _ _ _ h => h) (Or.inl ⟨by rfl, ?_⟩) HI9.out ?_
        rotate_left
        · intro w' hS; go_simp; with_reducible rfl
        try simp only [Act.put, List.getElem_toArray, List.getElem_cons_zero, List.getElem_cons_succ, List.setIfInBounds_toArray, List.set_cons_zero, List.set_cons_succ]
        refine wpAnyH_done (by kernel_rfl) ?_ _
        go_wp2_with (with_reducible (show wpList _ _ _ (Oper.mk _ (Op.call (Call.mk (Callee.builtin Builtin.append) _ _)) _ _ _ _ :: _) _ _); refine pause ?_)
        unfold Paused
        refine wpList_padX (by rfl) (.tmp 50) (.tmp 51) (by rfl) rfl (by rfl) HQ9.out (by rfl) HR9.out (by
          have h1 := HLN.out
          have h2 := En.laidUps_len (us := [u]) (fun x hx => by rw [List.mem_singleton.1 hx]; exact HFU.out) (fun x hx => by rw [List.mem_singleton.1 hx]; exact HSZ.out)
          rw [show En.laidUps [u] = En.laidUp u by rw [En.laidUps_eq]; simp] at h2
          have h3 := HF.out.nu
          have h4 := HNU.out
          have h5 := HLT.out
          simp at h2
          omega) ?_
        intro v10 w10 hp10
        have HQ10 : Hid (Pad w1.heap.size w1 v10 (P0 ++ En.laidUps (e.ups.take (k + 1))) w10) := Lib.hid (by rw [HTK.out, ← List.append_assoc]; exact hp10)
        clear hp10 HQ9 HR9 HI9 HTK
        simp only [Act.put]
        go_wp2
        go_roundw
        case rel => exact ⟨k + 1, HLT.out, by go_num, HQ10⟩
        case measure => have h5 := HLT.out; simp [intOf]; omega
      · obtain rfl : k = nu := by omega
        have ik : ¬ ((k : Nat) : Int) < k := by omega
        obtain ⟨P1, hP1⟩ : ∃ P1, P1 = P0 ++ En.laidUps e.ups := ⟨_, rfl⟩
        have HP1 := Lib.hid hP1
        have HPL1 : Hid (P1.length ≤ 1000) := Lib.hid (by
          have h1 := En.laidUps_len (us := e.ups) HE.out.ent.fit HF.out.refs
          have h2 := HF.out.nu
          rw [hP1, List.length_append, HPL.out]
          omega)
        have hq := HQ.out
        rw [HNU.out, List.take_length, ← hP1] at hq
        have HQ1 := Lib.hid hq
        have h4 := HC4.out _ hq.bel
        clear hq hP1 HQ hk hlt
        go_wp2_with (with_reducible (show wpList _ _ _ (Oper.mk _ (Op.call (Call.mk (Callee.builtin Builtin.append) _ _)) _ _ _ _ :: _) _ _); refine pause ?_)
        unfold Paused
        change wpList _ _ _ _ _ (wr.alloc (.cells (u8s [no]) 5))
        have HPb := Lib.hid (HQ1.out.next rfl ((Below.refl wr.heap.size wr).alloc (Nat.le_refl _) (.cells (u8s [no]) 5)))
        have HRb : Hid (Rd (wr.alloc (.cells (u8s [no]) 5)) (.slice (some ⟨wr.heap.size, 0, none⟩) 1 1) [no]) := Lib.hid (rd_of_lit wr [no] _ (by simp))
        clear h4 HQ1
        generalize wr.alloc (.cells (u8s [no]) 5) = wb at HPb HRb ⊢
        generalize wr.heap.size = gb at HRb ⊢
        clear wr
        refine wpList_padX (by rfl) (.tmp 54) (.tmp 59) (by rfl) rfl (by rfl) HPb.out (by rfl) HRb.out (by have := HPL1.out; simp only [List.length_cons, List.length_nil]; omega) ?_
        intro v5 w5 hp5
        have HP5 := Lib.hid hp5
        clear hp5 HPb HRb
        clear wb
        simp only [Act.put]
        have h4 := HC4.out _ HP5.out.bel
        go_wp2
        clear h4
        go_loopw [3, 64] (fun v i wr => ∃ k : Nat, k ≤ no ∧ i = .int .i64 k ∧ Hid (Pad w1.heap.size w1 v (P1 ++ [no] ++ En.laidObjs (e.objs.take k)) wr)) (fun _ i _ => no - (intOf i).toNat)
        case atStart => exact ⟨0, Nat.zero_le _, rfl, by rw [List.take_zero]; show Hid (Pad _ _ _ (P1 ++ [no] ++ []) _); rw [List.append_nil]; exact HP5⟩
        case round =>
          obtain ⟨k2, hk, rfl, HQ⟩ := hrel
          by_cases hlt : k2 < no
          · have hkt : k2 < ts.length := by rw [← HE.out.ent.nobj, ← HNO.out]; exact hlt
            have hkl : k2 < e.objs.length := by rw [← HNO.out]; exact hlt
            have i1 : ((k2 : Nat) : Int) < no := by omega
            have i2 : (0 : Int) ≤ ((k2 : Nat) : Int) := by omega
            have i3 : ((no : Nat) : Int) ≤ 64 := by have := HF.out.no; have := HNO.out; omega
            obtain ⟨b2, o2, rfl, hbl, hcell⟩ := (HE.out.below HQ.out.bel).ent.objs.row (by rw [← HNO.out]; omega)
            have pc := hcell k2 _ (List.getElem?_eq_getElem hkt)
            obtain ⟨hrd, hby9⟩ := HE.out.ent.objs.rd _ (List.getElem_mem hkt)
            have hte : e.objs[k2] = ts[k2].text := (List.getElem_of_eq HE.out.ent.txt.symm hkl).trans (by simp)
            have hsz := HF.out.objs _ (List.getElem_mem hkl)
            have HTK : Hid (En.laidObjs (e.objs.take (k2 + 1)) = En.laidObjs (e.objs.take k2) ++ (Oc.nums 2 ts[k2].text.length ++ ts[k2].text)) := Lib.hid (by
              rw [List.take_succ_eq_append_getElem hkl, En.laidObjs_eq, En.laidObjs_eq, List.flatMap_append, List.flatMap_cons, List.flatMap_nil, List.append_nil, hte]
              rfl)
            have HLN : Hid ((P1 ++ [no] ++ En.laidObjs (e.objs.take k2)).length ≤ 1001 + 302 * 64) := Lib.hid (by
              have h1 := En.laidObjs_len (os := e.objs.take k2) (fun x hx => HF.out.objs x (List.mem_of_mem_take hx))
              have h2 := HF.out.no
              have h3 := HPL1.out
              rw [List.length_take] at h1
              simp only [List.length_append, List.length_cons, List.length_nil]
              omega)
            rw [hte] at hsz
            generalize ts[k2] = t at pc hrd hsz HTK
            obtain ⟨A1, c1, hval⟩ : ∃ A1 c1, t.val = .slice A1 t.text.length c1 := by obtain ⟨A1, c1, h, _⟩ := hrd; exact ⟨A1, c1, h⟩
            rw [hval] at pc hrd
            obtain ⟨tx, htx⟩ : ∃ tx, tx = t.text := ⟨_, rfl⟩
            rw [← htx] at pc hrd hsz HTK
            have HRD := Lib.hid hrd
            have HSZ := Lib.hid hsz
            obtain ⟨nt, hnt⟩ : ∃ n, n = tx.length := ⟨_, rfl⟩
            rw [← hnt] at pc HRD HTK
            have HNT := Lib.hid hnt
            have CN := rnum_any 2 nt wr (by omega) (by omega)
            have HLT : Hid (k2 + 1 ≤ no) := Lib.hid hlt
            clear hby9 hkl hkt hbl hcell hrd hte hsz hval hk hlt htx hnt
            clear t
            go_wp2_with (go_at_call 32; refine pause ?_)
            unfold Paused
            refine CN.mono ?_
            rintro r w6 ⟨v6, rfl, hr6, hb6⟩
            have HQ6 := Lib.hid (HQ.out.next rfl hb6)
            have HR6 := Lib.hid hr6
            clear hb6 hr6 CN pc HQ
            clear wr
            go_wp2_with (with_reducible (show wpList _ _ _ (Oper.mk _ (Op.call (Call.mk (Callee.builtin Builtin.append) _ _)) _ _ _ _ :: _) _ _); refine pause ?_)
            unfold Paused
            refine wpList_padX (by rfl) (.tmp 68) (.tmp 71) (by rfl) rfl (by rfl) HQ6.out (by rfl) HR6.out (by have := HLN.out; rw [Oc.nums_len]; omega) ?_
            intro v7 w7 hp7
            have HRD7 : Hid (Rd w7 (.slice A1 nt c1) tx) := Lib.hid (HRD.out.below hp7.bel (Nat.le_refl _))
            have HP7 := Lib.hid hp7
            clear hp7 HQ6 HR6
            clear w6
            simp only [Act.put]
            go_wp2_with (with_reducible (show wpList _ _ _ (Oper.mk _ (Op.call (Call.mk (Callee.builtin Builtin.append) _ _)) _ _ _ _ :: _) _ _); refine pause ?_)
            unfold Paused
            refine wpList_padX (by rfl) (.tmp 72) (.tmp 73) (by rfl) rfl (by rfl) HP7.out (by rfl) HRD7.out (by have := HLN.out; have := HSZ.out; rw [List.length_append, Oc.nums_len]; omega) ?_
            intro v8 w8 hp8
            have HP8 : Hid (Pad w1.heap.size w1 v8 (P1 ++ [no] ++ En.laidObjs (e.objs.take (k2 + 1))) w8) := Lib.hid (by rw [HTK.out, ← List.append_assoc, ← List.append_assoc]; exact hp8)
            clear hp8 HP7 HRD7 HTK
            simp only [Act.put]
            go_wp2
            go_roundw
            case rel => exact ⟨k2 + 1, HLT.out, by go_num, HP8⟩
            case measure => have h5 := HLT.out; simp [intOf]; omega
          · obtain rfl : k2 = no := by omega
            have ik2 : ¬ ((k2 : Nat) : Int) < k2 := by omega
            have hq := HQ.out
            rw [HNO.out, List.take_length] at hq
            have hl : P1 ++ [e.objs.length] ++ En.laidObjs e.objs = En.laid e := by
              unfold En.laid
              rw [HXE.out, HYE.out, HZE.out, HP1.out, HP0.out, HNU.out]
              simp only [Int.toNat_natCast]
              rw [En.nums_one (show x < 256 by have := HF.out.c1; have := HXE.out; omega), En.nums_one (show z < 256 by have := HF.out.a1; have := HZE.out; omega), En.nums_one (show e.ups.length < 256 by have := HF.out.nu; omega), En.nums_one (show e.objs.length < 256 by have := HF.out.no; omega)]
              simp only [List.append_assoc, List.cons_append, List.nil_append]
            rw [hl] at hq
            have HFIN := Lib.hid (show Pad w.heap.size w _ (En.laid e) _ from pad_low hq HE.out.bel)
            clear hq hl HQ hk hlt
            go_wp2
            go_ret
            exact ⟨_, rfl, HFIN.out⟩
end Go.Proofs.YtjkneidoochfjaaGreatDoor
