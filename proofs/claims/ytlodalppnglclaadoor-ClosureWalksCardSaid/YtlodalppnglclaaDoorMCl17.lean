/- The document's walk: all that is reached. -/
import Derived.Test.YtlodalppnglclaaDoorMCl17a
namespace Go.Proofs.YtlodalppnglclaaDoor
open Go Go.RowKit
set_option maxRecDepth 100000 in
set_option maxHeartbeats 16000000 in
theorem rwalk_any (A : Option Addr) (n c : Nat) (its : List Cl.T) (vr : Value) (roots : List (List Nat)) (w : World) (h : ClT w (.slice A n c) its) (hv : RdO w vr roots) (hid : ∀ x ∈ roots, Id32 x) (hn : its.length ≤ 100) (hm : roots.length ≤ 100) (hl : ∀ p ∈ its, p.text.length ≤ 400) :
    Calls Tryd.prog 8 #[.slice A n c, vr] w (WalkR (its.map (·.text)) roots w) := by
  obtain ⟨objs, hobjs⟩ : ∃ o, o = its.map (·.text) := ⟨_, rfl⟩
  have hby : ∀ t ∈ objs, Sha.Byte t := fun t ht => by
    rw [hobjs] at ht
    obtain ⟨p, hp, rfl⟩ := List.mem_map.1 ht
    exact (h.rd p hp).2
  have HBY := Lib.hid hby
  have HPL : Hid ((Cl.pool objs roots).length ≤ 1000) := Lib.hid (by
    have h1 := pool_few (roots := roots) hby
    rw [hobjs, List.length_map] at h1
    rw [hobjs]
    omega)
  have CG := fun (wr : World) (id : List Nat) (hb : Below w.heap.size w wr) (hi : Id32 id) => rget_any A n c its id wr ⟨h.row.below hb, fun p hp => ⟨(h.rd p hp).1.below hb (Nat.le_refl _), (h.rd p hp).2⟩⟩ hi (by omega) hl
  rw [← hobjs] at CG ⊢
  have HCG := Lib.hid CG
  have HNI0 : n = its.length := by
    obtain ⟨A', c', hv', _⟩ := h.row
    injection hv' with _ e2 _
    rw [e2, List.length_map]
  have HROW : Hid (0 < n → ∃ b o, A = some ⟨b, o, none⟩ ∧ b < w.heap.size ∧ ∀ i u, (its.map (·.val))[i]? = some u → w.cell? ⟨b, o + i, none⟩ = some u) := Lib.hid (by
    obtain ⟨A', c', hv', _, hx⟩ := h.row
    injection hv' with e1 e2 e3
    subst e1
    rw [← e2] at hx
    exact hx)
  have HCT := Lib.hid h.rd
  have HLZ := Lib.hid hl
  have HOB := Lib.hid hobjs
  have HNI := Lib.hid HNI0
  have HNIm : Hid (n ≤ 100) := Lib.hid (by omega)
  have HNO : Hid (n = objs.length) := Lib.hid (by rw [hobjs, List.length_map]; exact HNI0)
  clear HNI0
  obtain ⟨AR, cr, rfl⟩ := rdo_form hv
  obtain ⟨m, hme⟩ : ∃ q, q = roots.length := ⟨_, rfl⟩
  rw [← hme] at hm hv ⊢
  have HV := Lib.hid hv
  have HM := Lib.hid hm
  have HME := Lib.hid hme
  have HRI := Lib.hid hid
  have HLK : Hid (∀ x, (Cl.lks objs x).length ≤ 9) := Lib.hid (fun x => lks_few hby x)
  clear CG h hv hid hn hm hl hby hme hobjs
  have HW0 : Hid (LO w (w.alloc (.cells #[] 36)) w.heap.size (.slice (some ⟨w.heap.size, 0, none⟩) 0 0) []) := Lib.hid (LO.new (Below.refl _ _) (Nat.le_refl _) (Nat.le_refl _))
  go_enter Tryd.func8, Tryd.ntmps8
  go_wp2
  change Code.wp _ _ _ _ (w.alloc (.cells #[] 36))
  generalize w.alloc (.cells #[] 36) = w1 at HW0 ⊢
  go_loopw [8, 30] (fun v i wr => ∃ (k : Nat) (AA : List (List Nat)), k ≤ m ∧ i = .int .i64 k ∧ Hid (RdO wr v AA ∧ Cl.AI objs roots AA ∧ (∀ x ∈ roots.take k, x ∈ AA) ∧ Below w.heap.size w wr)) (fun _ i _ => m - (intOf i).toNat)
  case atStart => exact ⟨0, [], Nat.zero_le _, rfl, Lib.hid ⟨HW0.out.rd, ⟨fun i j _ hj => (by simp at hj), fun x hx => (by cases hx), fun x hx => (by cases hx)⟩, fun x hx => (by simp at hx), HW0.out.bel⟩⟩
  case round =>
    obtain ⟨k, AA, hk, rfl, HW⟩ := hrel
    by_cases hlt : k < m
    · have HR : Hid (RdO wr (.slice AR m cr) roots) := Lib.hid (rdo_go HV.out HW.out.2.2.2 (Nat.le_refl _))
      have hm1 := HM.out
      have hkx : k < roots.length := by rw [← HME.out]; exact hlt
      obtain ⟨A9, c9, hv9, _, hA9⟩ := HR.out
      injection hv9 with ev9 en9 ec9
      clear en9 ec9
      obtain ⟨b9, o9, hb9, _, hcell⟩ := hA9 (by omega)
      subst ev9
      subst hb9
      obtain ⟨x, hxx⟩ : ∃ x, roots.getD k [] = x := ⟨_, rfl⟩
      have HTK := Lib.hid (take_next hkx hxx)
      have HIX := Lib.hid (HRI.out x HTK.out.2)
      have HRG : Hid (wr.rangeAt b9 (o9 + k * 32) (cellsB x)) := Lib.hid (fun j u hu => by
        rw [Nat.mul_comm k 32]
        exact hcell k hkx j u (by rw [hxx]; exact hu))
      have i1 : ((k : Nat) : Int) < m := by omega
      have i2 : (0 : Int) ≤ ((k : Nat) : Int) := by omega
      have i3 : ((k : Nat) : Int) < 1000 := by omega
      have HLT := Lib.hid hlt
      clear hkx hcell hxx hlt hA9
      go_wp2_with (with_reducible (show wpList _ _ _ (Oper.mk _ (Op.load 36 _) _ _ _ _ :: _) _ _); refine pause ?_)
      unfold Paused
      refine wpList_mid_w (by rfl) 36 (.tmp 32) (by rfl) b9 (o9 + k * 32) (by rfl) (cellsB x) _ HRG.out Tryd.underlying36 (by rfl) (by rw [cellsP1_len HIX.out]; kernel_rfl) ?_
      go_wp2_with (with_reducible (show wpList _ _ _ (Oper.mk _ (Op.store 36 _ _) _ _ _ _ :: _) _ _); refine pause ?_)
      unfold Paused
      change wpList _ _ _ _ _ (wr.alloc (.cells (u8s (List.replicate 32 0)) 36))
      refine wpList_store_row (by rfl) 36 (.tmp 10) (.tmp 33) (by rfl) wr.heap.size (u8s x) (by rfl) (by rfl) 36 (u8s (List.replicate 32 0)) (Blk.new wr _ _) (by rw [u8s_size, HIX.out.1]; kernel_rfl) (by rw [u8s_size, u8s_size, HIX.out.1]; rfl) (u8s_one _) ?_
      have b6 : Below wr.heap.size wr ((wr.alloc (.cells (u8s (List.replicate 32 0)) 36)).setRow wr.heap.size (u8s x)) := below_row ((Below.refl _ _).alloc (Nat.le_refl _) _) (Nat.le_refl _) _
      have g6I : Hid (Blk ((wr.alloc (.cells (u8s (List.replicate 32 0)) 36)).setRow wr.heap.size (u8s x)) wr.heap.size 36 (u8s x)) := Lib.hid ((Blk.new wr _ _).row _)
      have HW6 := Lib.hid (And.intro (rdo_go HW.out.1 b6 (Nat.le_refl _)) (below_next HW.out.2.2.2 b6))
      clear b6 HRG
      generalize (wr.alloc (.cells (u8s (List.replicate 32 0)) 36)).setRow wr.heap.size (u8s x) = w6 at g6I HW6 ⊢
      generalize wr.heap.size = g6 at g6I ⊢
      simp only [Act.put]
      have CP := rput_any AA x u8 w6 HW6.out.1 HW.out.2.1.ids HIX.out (by have := HW.out.2.1.few; have := HPL.out; omega)
      go_wp2_with (with_reducible (show wpList _ _ _ (Oper.mk _ (Op.load 36 _) _ _ _ _ :: _) _ _); refine pause ?_)
      unfold Paused
      refine wpList_row_w (by rfl) 36 (.tmp 10) (by rfl) g6 (by rfl) 36 (u8s x) _ g6I.out Tryd.underlying36 (by rfl) (by rw [u8s_size, HIX.out.1]; kernel_rfl) ?_
      go_wp2_with (go_at_call 20; refine pause ?_)
      unfold Paused
      refine CP.mono ?_
      rintro e w7 ⟨v7, rfl, hr7, _, hb7⟩
      have HN7 : Hid (RdO w7 v7 (Cl.put AA x) ∧ Cl.AI objs roots (Cl.put AA x) ∧ (∀ y ∈ roots.take (k + 1), y ∈ Cl.put AA x) ∧ Below w.heap.size w w7) := Lib.hid ⟨hr7, HW.out.2.1.put HIX.out (Cl.Rch.root HTK.out.2), fun y hy => by
        rw [(Cl.put_spec AA x HW.out.2.1.rise).2 y]
        rw [HTK.out.1] at hy
        rcases List.mem_append.1 hy with h1 | h1
        · exact Or.inl (HW.out.2.2.1 y h1)
        · exact Or.inr (List.mem_singleton.1 h1), below_next HW6.out.2 hb7⟩
      clear hr7 hb7 CP HW HW6 HR
      go_wp2
      go_roundw
      case rel => exact ⟨k + 1, _, by have := HLT.out; omega, by go_num, HN7⟩
      case measure => have := HLT.out; simp [intOf]; omega
    · obtain rfl : k = m := by omega
      have ik : ¬ ((k : Nat) : Int) < k := by omega
      have HA : Hid (WS objs roots AA w wr u8 AA false ∧ ∀ x ∈ roots, x ∈ AA) := Lib.hid ⟨⟨HW.out.1, HW.out.2.1, fun x hx => hx, fun h0 => (by cases h0), fun _ => rfl, HW.out.2.2.2⟩, fun x hx => HW.out.2.2.1 x (by rw [HME.out, List.take_length]; exact hx)⟩
      clear HW HW0 hk hlt
      go_wp2
      go_loopw [8, 11] (fun v ag wq => ∃ (AA : List (List Nat)) (b : Bool), ag = .bool b ∧ Hid (RdO wq v AA ∧ Cl.AI objs roots AA ∧ (∀ x ∈ roots, x ∈ AA) ∧ Below w.heap.size w wq ∧ (b = false → ∀ x ∈ AA, ∀ y ∈ Cl.lks objs x, y ∈ AA))) (fun v ag _ => (1001 - lenV v) + agN ag)
      case atStart => exact ⟨AA, true, rfl, Lib.hid ⟨HA.out.1.row, HA.out.1.ai, HA.out.2, HA.out.1.bel, fun h0 => (by cases h0)⟩⟩
      case round =>
        clear HA
        clear AA
        obtain ⟨AA, b, rfl, HQ⟩ := hrel
        obtain ⟨S0, c0, hv0⟩ := rdo_form HQ.out.1
        obtain ⟨n0, hn0⟩ : ∃ q, q = AA.length := ⟨_, rfl⟩
        rw [← hn0] at hv0
        subst hv0
        have HN0 := Lib.hid hn0
        have HN0m : Hid (n0 ≤ 1000) := Lib.hid (by have := HQ.out.2.1.few; have := HPL.out; omega)
        clear hn0
        cases b with
        | false =>
          obtain ⟨w5, rfl⟩ : ∃ q, q = wr := ⟨wr, rfl⟩
          obtain ⟨B5, hB5⟩ : ∃ q, q = w5.heap.size := ⟨_, rfl⟩
          have HWB := Lib.hid HQ.out.2.2.2.1
          have HAI5 := Lib.hid HQ.out.2.1.ids
          have H50 : Hid (W3F objs AA w5 w5 B5 0 nilV nilV nilV) := Lib.hid ⟨World.ownsRow_nil _ _ _ _, World.ownsRow_nil _ _ _ _, World.ownsRow_nil _ _ _ _, fun x hx => (by cases hx), fun x hx => (by cases hx), fun x hx => (by cases hx), Below.refl _ _, by omega⟩
          clear hB5
          go_wp2
          go_loopw [4, 5, 6, 69] (fun va vb vc i w6 => ∃ k : Nat, k ≤ n0 ∧ i = .int .i64 k ∧ Hid (W3F objs AA w5 w6 B5 k va vb vc)) (fun _ _ _ i _ => n0 - (intOf i).toNat)
          case atStart => exact ⟨0, Nat.zero_le _, rfl, H50⟩
          case round =>
            clear H50
            obtain ⟨k, hk, rfl, H5F⟩ := hrel
            have H5 : Hid (W3 w5 wr B5 _ _ _ ((AA.take k).filter (Cl.the objs)) ((AA.take k).filter (fun z => !Cl.the objs z)) ((AA.take k).filter (Cl.wrg objs))) := Lib.hid H5F.out
            clear H5F
            obtain ⟨Aa, ca, hva⟩ := cl_own_slice H5.out.oa
            subst hva
            obtain ⟨Ab, cb, hvb⟩ := cl_own_slice H5.out.ob
            subst hvb
            obtain ⟨Ac, cc, hvc⟩ := cl_own_slice H5.out.oc
            subst hvc
            obtain ⟨na, hna⟩ : ∃ q, q = ((AA.take k).filter (Cl.the objs)).length := ⟨_, rfl⟩
            obtain ⟨nb, hnb⟩ : ∃ q, q = ((AA.take k).filter (fun z => !Cl.the objs z)).length := ⟨_, rfl⟩
            obtain ⟨nc, hnc⟩ : ∃ q, q = ((AA.take k).filter (Cl.wrg objs)).length := ⟨_, rfl⟩
            rw [← hna, ← hnb, ← hnc] at H5 ⊢
            have HLaB : Hid (na ≤ 1000) := Lib.hid (by have h1 := HN0m.out; have h2 := List.length_filter_le (Cl.the objs) (AA.take k); rw [List.length_take] at h2; omega)
            have HLbB : Hid (nb ≤ 1000) := Lib.hid (by have h1 := HN0m.out; have h2 := List.length_filter_le (fun z => !Cl.the objs z) (AA.take k); rw [List.length_take] at h2; omega)
            have HLcB : Hid (nc ≤ 1000) := Lib.hid (by have h1 := HN0m.out; have h2 := List.length_filter_le (Cl.wrg objs) (AA.take k); rw [List.length_take] at h2; omega)
            have HLa := Lib.hid hna
            have HLb := Lib.hid hnb
            have HLc := Lib.hid hnc
            clear hna hnb hnc
            by_cases hlt : k < n0
            · have HR5 : Hid (RdO wr (.slice S0 n0 c0) AA) := Lib.hid (rdo_go HQ.out.1 H5.out.bel (Nat.le_refl _))
              have hm1 := HN0m.out
              have hkx : k < AA.length := by rw [← HN0.out]; exact hlt
              obtain ⟨A9, c9, hv9, _, hA9⟩ := HR5.out
              injection hv9 with ev9 en9 ec9
              clear en9 ec9
              obtain ⟨b5, o5, hb9, _, hcell⟩ := hA9 (by omega)
              subst ev9
              subst hb9
              obtain ⟨x, hxx⟩ : ∃ x, AA.getD k [] = x := ⟨_, rfl⟩
              have HTK := Lib.hid (take_next hkx hxx)
              have HIX := Lib.hid (HAI5.out x HTK.out.2)
              have HRG : Hid (wr.rangeAt b5 (o5 + k * 32) (cellsB x)) := Lib.hid (fun j u hu => by
                rw [Nat.mul_comm k 32]
                exact hcell k hkx j u (by rw [hxx]; exact hu))
              have i1 : ((k : Nat) : Int) < n0 := by omega
              have i2 : (0 : Int) ≤ ((k : Nat) : Int) := by omega
              have i3 : ((k : Nat) : Int) < 1000 := by omega
              have HLT := Lib.hid hlt
              clear hkx hcell hxx hlt hA9
              go_wp2_with (with_reducible (show wpList _ _ _ (Oper.mk _ (Op.load 36 _) _ _ _ _ :: _) _ _); refine pause ?_)
              unfold Paused
              refine wpList_mid_w (by rfl) 36 (.tmp 71) (by rfl) b5 (o5 + k * 32) (by rfl) (cellsB x) _ HRG.out Tryd.underlying36 (by rfl) (by rw [cellsP1_len HIX.out]; kernel_rfl) ?_
              go_wp2_with (with_reducible (show wpList _ _ _ (Oper.mk _ (Op.store 36 _ _) _ _ _ _ :: _) _ _); refine pause ?_)
              unfold Paused
              change wpList _ _ _ _ _ (wr.alloc (.cells (u8s (List.replicate 32 0)) 36))
              refine wpList_store_row (by rfl) 36 (.tmp 19) (.tmp 72) (by rfl) wr.heap.size (u8s x) (by rfl) (by rfl) 36 (u8s (List.replicate 32 0)) (Blk.new wr _ _) (by rw [u8s_size, HIX.out.1]; kernel_rfl) (by rw [u8s_size, u8s_size, HIX.out.1]; rfl) (u8s_one _) ?_
              have b6 : Below wr.heap.size wr ((wr.alloc (.cells (u8s (List.replicate 32 0)) 36)).setRow wr.heap.size (u8s x)) := below_row ((Below.refl _ _).alloc (Nat.le_refl _) _) (Nat.le_refl _) _
              have g6I : Hid (Blk ((wr.alloc (.cells (u8s (List.replicate 32 0)) 36)).setRow wr.heap.size (u8s x)) wr.heap.size 36 (u8s x)) := Lib.hid ((Blk.new wr _ _).row _)
              have H6 := Lib.hid (H5.out.below b6)
              clear b6 HRG
              generalize (wr.alloc (.cells (u8s (List.replicate 32 0)) 36)).setRow wr.heap.size (u8s x) = w6 at g6I H6 ⊢
              have HFR := Lib.hid H5.out.far
              generalize wr.heap.size = g6 at g6I HFR ⊢
              simp only [Act.put]
              have CGx := HCG.out w6 x (below_next HWB.out H6.out.bel) HIX.out
              go_wp2_with (with_reducible (show wpList _ _ _ (Oper.mk _ (Op.load 36 _) _ _ _ _ :: _) _ _); refine pause ?_)
              unfold Paused
              refine wpList_row_w (by rfl) 36 (.tmp 19) (by rfl) g6 (by rfl) 36 (u8s x) _ g6I.out Tryd.underlying36 (by rfl) (by rw [u8s_size, HIX.out.1]; kernel_rfl) ?_
              go_wp2_with (go_at_call 21; refine pause ?_)
              unfold Paused
              refine CGx.mono ?_
              rintro e wg ⟨cs, rfl, hro, hbg⟩
              have HCS := Lib.hid (And.intro hro.size hro.one)
              have HK0 := Lib.hid hro.k0
              have HTG := Lib.hid (fun hk => hro.tg HBY.out hk)
              have Hg := Lib.hid (H6.out.below hbg)
              have HIg := Lib.hid (g6I.out.below hbg g6I.out.lt)
              have HGE0 : Hid (g6 < wg.heap.size) := Lib.hid (by have h1 := g6I.out.lt; have h2 := hbg.size; omega)
              clear hro hbg CGx H6 g6I H5 HR5 hm1 i1 i2 i3
              cases hth : Cl.the objs x with
              | false =>
                have HTH := Lib.hid hth
                clear hth
                go_wp2_with (with_reducible (show wpList _ _ _ (Oper.mk _ (Op.store 54 _ _) _ _ _ _ :: _) _ _); refine pause ?_)
                unfold Paused
                change wpList _ _ _ _ _ (wg.alloc (.cells zc0 54))
                refine wpList_store_row (by rfl) 54 (.tmp 20) (.tmp 77) (by rfl) wg.heap.size cs (by rfl) (by rfl) 54 zc0 (Blk.new wg _ _) (by rw [HCS.out.1]; kernel_rfl) (by rw [HCS.out.1]; rfl) HCS.out.2 ?_
                have b8 : Below wg.heap.size wg ((wg.alloc (.cells zc0 54)).setRow wg.heap.size cs) := below_row ((Below.refl _ _).alloc (Nat.le_refl _) _) (Nat.le_refl _) _
                have HXs : Hid (Blk ((wg.alloc (.cells zc0 54)).setRow wg.heap.size cs) wg.heap.size 54 cs) := Lib.hid ((Blk.new wg _ _).row _)
                have Hs := Lib.hid (Hg.out.below b8)
                have HIs := Lib.hid (HIg.out.below b8 HIg.out.lt)
                have HGE := Lib.hid (HGE0.out)
                clear b8
                generalize (wg.alloc (.cells zc0 54)).setRow wg.heap.size cs = ws at HXs Hs HIs HGE ⊢
                generalize wg.heap.size = g20 at HXs HGE ⊢
                simp only [Act.put]
                clear Hg HIg HGE0
                go_wp2_with (with_reducible (show wpList _ _ _ (Oper.mk _ (Op.load 36 _) _ _ _ _ :: _) _ _); refine pause ?_)
                unfold Paused
                refine wpList_row_w (by rfl) 36 (.tmp 19) (by rfl) g6 (by rfl) 36 (u8s x) _ HIs.out Tryd.underlying36 (by rfl) (by rw [u8s_size, HIX.out.1]; kernel_rfl) ?_
                obtain ⟨ip, hip, hpz, hps, hpb⟩ := info_parts rid_info
                go_wp2_with (with_reducible (show wpList _ _ _ (Oper.mk _ (Op.buildSlice _ _ _) _ _ _ _ :: _) _ _); refine pause ?_)
                unfold Paused
                refine wpList_buildSliceK (by rfl) 26 36 1 _ (by rfl) (cellsB x).toArray ip (.agg (cellsB (List.replicate 32 0)).toArray) Tryd.underlying26 hip hpz (by rw [hps]; decide) (by rw [hps]; decide) _ (by kernel_rfl) (by rw [hps]; exact fill_one 32 (Value.agg (cellsB (List.replicate 32 0)).toArray).cells _ (cellsP1_len HIX.out) (by rfl)) ?_
                have b7 : Below ws.heap.size ws (ws.alloc (.cells (cellsB x).toArray 36)) := (Below.refl _ _).alloc (Nat.le_refl _) _
                have HX7 := Lib.hid (Blk.new ws 36 (cellsB x).toArray)
                have HW7 := Lib.hid (Hs.out.below b7)
                have HB7 := Lib.hid b7
                clear b7
                generalize ws.alloc (.cells (cellsB x).toArray 36) = w7 at HX7 HW7 HB7 ⊢
                generalize hg7 : ws.heap.size = g7 at HX7 ⊢
                clear hg7
                have HO7 : Hid (w7.ownsRow B5 36 32 (.slice Ab nb cb) nb (cellsP ((AA.take k).filter (fun z => !Cl.the objs z)))) := Lib.hid (by have h1 := HW7.out.rot.oa; rw [← HLb.out] at h1; exact h1)
                go_wp2_with (with_reducible (show wpList _ _ _ (Oper.mk _ (Op.call (Call.mk (Callee.builtin Builtin.append) _ _)) _ _ _ _ :: _) _ _); refine pause ?_)
                unfold Paused
                refine wpList_append_lies w7 (by rfl) (.tmp 81) (.tmp 83) 26 (by rfl) B5 36 ip _ 32 32 Tryd.underlying26 hip hpz hps hpb (by rfl) (by decide) (.slice Ab nb cb) nb (cellsP ((AA.take k).filter (fun z => !Cl.the objs z))) (by rfl) HO7.out ⟨g7, 0, none⟩ 1 1 (cellsB x) (by rfl) (by rw [cellsP1_len HIX.out]) (fun j u hj => by rw [Addr.add_mid, Nat.zero_add, HX7.out.cell j]; simpa using hj) (cellsB_one _) (by decide) (by have := HLbB.out; unfold maxLen; omega) (by have := HLbB.out; omega) HW7.out.siz.2 w7.heap.size rfl ?_
                intro g8 c8 w8 ho8 hg8 hl8 _
                have HG8 := Lib.hid hg8
                have HWn := Lib.hid ((HW7.out.rot.put (by rw [← HLb.out]; exact ho8) hg8 hl8).rot.rot)
                have HN5 := Lib.hid (w3_miss HTK.out.1 HTH.out (wrg_not (by rw [the_of_knd HTH.out]; decide)) HWn.out)
                clear ho8 hg8 hl8 hip hpz hps hpb
                simp only [Act.put]
                have i2 : (0 : Int) ≤ ((k : Nat) : Int) := by omega
                have i3 : ((k : Nat) : Int) < 1000 := by have h1 := HLT.out; have h2 := HN0m.out; omega
                go_wp2
                go_roundw
                case rel => exact ⟨k + 1, HLT.out, by go_num, HN5⟩
                case measure => have := HLT.out; simp [intOf]; omega
              | true =>
                have HTH := Lib.hid hth
                clear hth
                go_wp2_with (with_reducible (show wpList _ _ _ (Oper.mk _ (Op.store 54 _ _) _ _ _ _ :: _) _ _); refine pause ?_)
                unfold Paused
                change wpList _ _ _ _ _ (wg.alloc (.cells zc0 54))
                refine wpList_store_row (by rfl) 54 (.tmp 20) (.tmp 77) (by rfl) wg.heap.size cs (by rfl) (by rfl) 54 zc0 (Blk.new wg _ _) (by rw [HCS.out.1]; kernel_rfl) (by rw [HCS.out.1]; rfl) HCS.out.2 ?_
                have b8 : Below wg.heap.size wg ((wg.alloc (.cells zc0 54)).setRow wg.heap.size cs) := below_row ((Below.refl _ _).alloc (Nat.le_refl _) _) (Nat.le_refl _) _
                have HXs : Hid (Blk ((wg.alloc (.cells zc0 54)).setRow wg.heap.size cs) wg.heap.size 54 cs) := Lib.hid ((Blk.new wg _ _).row _)
                have Hs := Lib.hid (Hg.out.below b8)
                have HIs := Lib.hid (HIg.out.below b8 HIg.out.lt)
                have HGE := Lib.hid (HGE0.out)
                clear b8
                generalize (wg.alloc (.cells zc0 54)).setRow wg.heap.size cs = ws at HXs Hs HIs HGE ⊢
                generalize wg.heap.size = g20 at HXs HGE ⊢
                simp only [Act.put]
                clear Hg HIg HGE0
                go_wp2_with (with_reducible (show wpList _ _ _ (Oper.mk _ (Op.load 36 _) _ _ _ _ :: _) _ _); refine pause ?_)
                unfold Paused
                refine wpList_row_w (by rfl) 36 (.tmp 19) (by rfl) g6 (by rfl) 36 (u8s x) _ HIs.out Tryd.underlying36 (by rfl) (by rw [u8s_size, HIX.out.1]; kernel_rfl) ?_
                obtain ⟨ip, hip, hpz, hps, hpb⟩ := info_parts rid_info
                go_wp2_with (with_reducible (show wpList _ _ _ (Oper.mk _ (Op.buildSlice _ _ _) _ _ _ _ :: _) _ _); refine pause ?_)
                unfold Paused
                refine wpList_buildSliceK (by rfl) 26 36 1 _ (by rfl) (cellsB x).toArray ip (.agg (cellsB (List.replicate 32 0)).toArray) Tryd.underlying26 hip hpz (by rw [hps]; decide) (by rw [hps]; decide) _ (by kernel_rfl) (by rw [hps]; exact fill_one 32 (Value.agg (cellsB (List.replicate 32 0)).toArray).cells _ (cellsP1_len HIX.out) (by rfl)) ?_
                have b7 : Below ws.heap.size ws (ws.alloc (.cells (cellsB x).toArray 36)) := (Below.refl _ _).alloc (Nat.le_refl _) _
                have HX7 := Lib.hid (Blk.new ws 36 (cellsB x).toArray)
                have HW7 := Lib.hid (Hs.out.below b7)
                have HB7 := Lib.hid b7
                clear b7
                generalize ws.alloc (.cells (cellsB x).toArray 36) = w7 at HX7 HW7 HB7 ⊢
                generalize hg7 : ws.heap.size = g7 at HX7 ⊢
                clear hg7
                have HO7 : Hid (w7.ownsRow B5 36 32 (.slice Aa na ca) na (cellsP ((AA.take k).filter (Cl.the objs)))) := Lib.hid (by have h1 := HW7.out.oa; rw [← HLa.out] at h1; exact h1)
                go_wp2_with (with_reducible (show wpList _ _ _ (Oper.mk _ (Op.call (Call.mk (Callee.builtin Builtin.append) _ _)) _ _ _ _ :: _) _ _); refine pause ?_)
                unfold Paused
                refine wpList_append_lies w7 (by rfl) (.tmp 85) (.tmp 87) 26 (by rfl) B5 36 ip _ 32 32 Tryd.underlying26 hip hpz hps hpb (by rfl) (by decide) (.slice Aa na ca) na (cellsP ((AA.take k).filter (Cl.the objs))) (by rfl) HO7.out ⟨g7, 0, none⟩ 1 1 (cellsB x) (by rfl) (by rw [cellsP1_len HIX.out]) (fun j u hj => by rw [Addr.add_mid, Nat.zero_add, HX7.out.cell j]; simpa using hj) (cellsB_one _) (by decide) (by have := HLaB.out; unfold maxLen; omega) (by have := HLaB.out; omega) HW7.out.siz.2 w7.heap.size rfl ?_
                intro g8 c8 w8 ho8 hg8 hl8 _
                have HG8 := Lib.hid hg8
                have HWn := Lib.hid ((HW7.out.put (by rw [← HLa.out]; exact ho8) hg8 hl8))
                have HX8 : Hid (Blk w8 g20 54 cs) := Lib.hid ((HXs.out.below HB7.out HXs.out.lt).grown HG8.out (fun e => by have h1 := HFR.out.1 _ e.symm; have h2 := HGE.out; omega))
                have HI8 : Hid (Blk w8 g6 36 (u8s x)) := Lib.hid ((HIs.out.below HB7.out HIs.out.lt).grown HG8.out (fun e => by have h1 := HFR.out.1 _ e.symm; omega))
                clear ho8 hg8 hl8 hip hpz hps hpb
                simp only [Act.put]
                have pk : w8.cell? ⟨g20, 0, none⟩ = some (.int .i64 (Cl.knd objs x)) := (HX8.out.cell 0).trans HK0.out
                by_cases hk3 : Cl.knd objs x = 3
                · have HK3 := Lib.hid hk3
                  rw [hk3] at pk
                  clear hk3
                  obtain ⟨y, ls, hls, hy, hyc⟩ := HTG.out HK3.out
                  have HIY := Lib.hid hy
                  have HWG := Lib.hid (wrg_of HK3.out hls)
                  have HRG : Hid (w8.rangeAt g20 3 (cellsB y)) := Lib.hid (fun j u hu => by rw [HX8.out.cell]; exact hyc j u hu)
                  have CGy := HCG.out w8 y (below_next HWB.out HWn.out.bel) HIY.out
                  clear hls hy hyc
                  go_wp2_with (with_reducible (show wpList _ _ _ (Oper.mk _ (Op.load 36 _) _ _ _ _ :: _) _ _); refine pause ?_)
                  unfold Paused
                  refine wpList_mid_w (by rfl) 36 (.tmp 94) (by rfl) g20 3 (by rfl) (cellsB y) _ HRG.out Tryd.underlying36 (by rfl) (by rw [cellsP1_len HIY.out]; kernel_rfl) ?_
                  go_wp2_with (go_at_call 21; refine pause ?_)
                  unfold Paused
                  refine CGy.mono ?_
                  rintro e wh ⟨cs2, rfl, hro, hbh⟩
                  have HCS2 := Lib.hid (And.intro hro.size hro.one)
                  have HK2 := Lib.hid hro.k0
                  have Hh := Lib.hid (HWn.out.below hbh)
                  have HIh := Lib.hid (HI8.out.below hbh HI8.out.lt)
                  clear hro hbh CGy HRG pk HX8 HI8 HWn HO7 HW7 HX7 HB7 HG8 HXs HIs Hs
                  cases hty : Cl.the objs y with
                  | false =>
                    have HTY := Lib.hid hty
                    clear hty
                    go_wp2_with (with_reducible (show wpList _ _ _ (Oper.mk _ (Op.store 54 _ _) _ _ _ _ :: _) _ _); refine pause ?_)
                    unfold Paused
                    change wpList _ _ _ _ _ (wh.alloc (.cells zc0 54))
                    refine wpList_store_row (by rfl) 54 (.tmp 22) (.tmp 97) (by rfl) wh.heap.size cs2 (by rfl) (by rfl) 54 zc0 (Blk.new wh _ _) (by rw [HCS2.out.1]; kernel_rfl) (by rw [HCS2.out.1]; rfl) HCS2.out.2 ?_
                    have b8 : Below wh.heap.size wh ((wh.alloc (.cells zc0 54)).setRow wh.heap.size cs2) := below_row ((Below.refl _ _).alloc (Nat.le_refl _) _) (Nat.le_refl _) _
                    have HXt : Hid (Blk ((wh.alloc (.cells zc0 54)).setRow wh.heap.size cs2) wh.heap.size 54 cs2) := Lib.hid ((Blk.new wh _ _).row _)
                    have Ht := Lib.hid (Hh.out.below b8)
                    clear b8
                    generalize (wh.alloc (.cells zc0 54)).setRow wh.heap.size cs2 = wt at HXt Ht ⊢
                    generalize wh.heap.size = g22 at HXt  ⊢
                    simp only [Act.put]
                    have HN5 := Lib.hid (w3_good HTK.out.1 HTH.out (by rw [HWG.out, HTY.out]; rfl) Ht.out)
                    have i2 : (0 : Int) ≤ ((k : Nat) : Int) := by omega
                    have i3 : ((k : Nat) : Int) < 1000 := by have h1 := HLT.out; have h2 := HN0m.out; omega
                    go_wp2
                    go_roundw
                    case rel => exact ⟨k + 1, HLT.out, by go_num, HN5⟩
                    case measure => have := HLT.out; simp [intOf]; omega
                  | true =>
                    have HTY := Lib.hid hty
                    clear hty
                    go_wp2_with (with_reducible (show wpList _ _ _ (Oper.mk _ (Op.store 54 _ _) _ _ _ _ :: _) _ _); refine pause ?_)
                    unfold Paused
                    change wpList _ _ _ _ _ (wh.alloc (.cells zc0 54))
                    refine wpList_store_row (by rfl) 54 (.tmp 22) (.tmp 97) (by rfl) wh.heap.size cs2 (by rfl) (by rfl) 54 zc0 (Blk.new wh _ _) (by rw [HCS2.out.1]; kernel_rfl) (by rw [HCS2.out.1]; rfl) HCS2.out.2 ?_
                    have b8 : Below wh.heap.size wh ((wh.alloc (.cells zc0 54)).setRow wh.heap.size cs2) := below_row ((Below.refl _ _).alloc (Nat.le_refl _) _) (Nat.le_refl _) _
                    have HXt : Hid (Blk ((wh.alloc (.cells zc0 54)).setRow wh.heap.size cs2) wh.heap.size 54 cs2) := Lib.hid ((Blk.new wh _ _).row _)
                    have Ht := Lib.hid (Hh.out.below b8)
                    have HIt := Lib.hid (HIh.out.below b8 HIh.out.lt)
                    clear b8
                    generalize (wh.alloc (.cells zc0 54)).setRow wh.heap.size cs2 = wt at HXt Ht HIt ⊢
                    generalize wh.heap.size = g22 at HXt  ⊢
                    simp only [Act.put]
                    have pk2 : wt.cell? ⟨g22, 0, none⟩ = some (.int .i64 (Cl.knd objs y)) := (HXt.out.cell 0).trans HK2.out
                    by_cases hk2 : Cl.knd objs y = 2
                    · have HN5 := Lib.hid (w3_good HTK.out.1 HTH.out (by rw [HWG.out, HTY.out, hk2]; rfl) Ht.out)
                      rw [hk2] at pk2
                      clear hk2
                      have i2 : (0 : Int) ≤ ((k : Nat) : Int) := by omega
                      have i3 : ((k : Nat) : Int) < 1000 := by have h1 := HLT.out; have h2 := HN0m.out; omega
                      go_wp2
                      go_roundw
                      case rel => exact ⟨k + 1, HLT.out, by go_num, HN5⟩
                      case measure => have := HLT.out; simp [intOf]; omega
                    · have HWT : Hid (Cl.wrg objs x = true) := Lib.hid (by rw [HWG.out, HTY.out]; simp [hk2])
                      have q2 : (Cl.knd objs y != 2) = true := by simp [hk2]
                      generalize Cl.knd objs y = ky at pk2 q2
                      clear hk2
                      go_wp2_with (with_reducible (show wpList _ _ _ (Oper.mk _ (Op.load 36 _) _ _ _ _ :: _) _ _); refine pause ?_)
                      unfold Paused
                      refine wpList_row_w (by rfl) 36 (.tmp 19) (by rfl) g6 (by rfl) 36 (u8s x) _ HIt.out Tryd.underlying36 (by rfl) (by rw [u8s_size, HIX.out.1]; kernel_rfl) ?_
                      obtain ⟨ip, hip, hpz, hps, hpb⟩ := info_parts rid_info
                      go_wp2_with (with_reducible (show wpList _ _ _ (Oper.mk _ (Op.buildSlice _ _ _) _ _ _ _ :: _) _ _); refine pause ?_)
                      unfold Paused
                      refine wpList_buildSliceK (by rfl) 26 36 1 _ (by rfl) (cellsB x).toArray ip (.agg (cellsB (List.replicate 32 0)).toArray) Tryd.underlying26 hip hpz (by rw [hps]; decide) (by rw [hps]; decide) _ (by kernel_rfl) (by rw [hps]; exact fill_one 32 (Value.agg (cellsB (List.replicate 32 0)).toArray).cells _ (cellsP1_len HIX.out) (by rfl)) ?_
                      have b7 : Below wt.heap.size wt (wt.alloc (.cells (cellsB x).toArray 36)) := (Below.refl _ _).alloc (Nat.le_refl _) _
                      have HX7 := Lib.hid (Blk.new wt 36 (cellsB x).toArray)
                      have HW7 := Lib.hid (Ht.out.below b7)
                      have HB7 := Lib.hid b7
                      clear b7
                      generalize wt.alloc (.cells (cellsB x).toArray 36) = w7 at HX7 HW7 HB7 ⊢
                      generalize hg7 : wt.heap.size = g7 at HX7 ⊢
                      clear hg7
                      have HO7 : Hid (w7.ownsRow B5 36 32 (.slice Ac nc cc) nc (cellsP ((AA.take k).filter (Cl.wrg objs)))) := Lib.hid (by have h1 := HW7.out.rot.rot.oa; rw [← HLc.out] at h1; exact h1)
                      go_wp2_with (with_reducible (show wpList _ _ _ (Oper.mk _ (Op.call (Call.mk (Callee.builtin Builtin.append) _ _)) _ _ _ _ :: _) _ _); refine pause ?_)
                      unfold Paused
                      refine wpList_append_lies w7 (by rfl) (.tmp 105) (.tmp 107) 26 (by rfl) B5 36 ip _ 32 32 Tryd.underlying26 hip hpz hps hpb (by rfl) (by decide) (.slice Ac nc cc) nc (cellsP ((AA.take k).filter (Cl.wrg objs))) (by rfl) HO7.out ⟨g7, 0, none⟩ 1 1 (cellsB x) (by rfl) (by rw [cellsP1_len HIX.out]) (fun j u hj => by rw [Addr.add_mid, Nat.zero_add, HX7.out.cell j]; simpa using hj) (cellsB_one _) (by decide) (by have := HLcB.out; unfold maxLen; omega) (by have := HLcB.out; omega) HW7.out.siz.2 w7.heap.size rfl ?_
                      intro g8 c8 w8 ho8 hg8 hl8 _
                      have HG8 := Lib.hid hg8
                      have HWn := Lib.hid ((HW7.out.rot.rot.put (by rw [← HLc.out]; exact ho8) hg8 hl8).rot)
                      have HN5 := Lib.hid (w3_bad HTK.out.1 HTH.out HWT.out HWn.out)
                      clear ho8 hg8 hl8 hip hpz hps hpb
                      simp only [Act.put]
                      have i2 : (0 : Int) ≤ ((k : Nat) : Int) := by omega
                      have i3 : ((k : Nat) : Int) < 1000 := by have h1 := HLT.out; have h2 := HN0m.out; omega
                      go_wp2
                      go_roundw
                      case rel => exact ⟨k + 1, HLT.out, by go_num, HN5⟩
                      case measure => have := HLT.out; simp [intOf]; omega
                · have HN5 := Lib.hid (w3_good HTK.out.1 HTH.out (wrg_not hk3) HWn.out)
                  have q3 : (Cl.knd objs x == 3) = false := by simp [hk3]
                  generalize Cl.knd objs x = kx at pk q3
                  clear hk3
                  have i2 : (0 : Int) ≤ ((k : Nat) : Int) := by omega
                  have i3 : ((k : Nat) : Int) < 1000 := by have h1 := HLT.out; have h2 := HN0m.out; omega
                  go_wp2
                  go_roundw
                  case rel => exact ⟨k + 1, HLT.out, by go_num, HN5⟩
                  case measure => have := HLT.out; simp [intOf]; omega
            · have hkn : k = n0 := by omega
              obtain ⟨fa, hfa⟩ : ∃ q, q = AA.filter (Cl.the objs) := ⟨_, rfl⟩
              obtain ⟨fb, hfb⟩ : ∃ q, q = AA.filter (fun z => !Cl.the objs z) := ⟨_, rfl⟩
              obtain ⟨fc, hfc⟩ : ∃ q, q = AA.filter (Cl.wrg objs) := ⟨_, rfl⟩
              have htk : AA.take k = AA := by rw [hkn, HN0.out, List.take_length]
              have hdone := HQ.out.2.1.done HQ.out.2.2.1 (HQ.out.2.2.2.2 (by trivial))
              obtain ⟨w6, hw6⟩ : ∃ q, q = wr := ⟨wr, rfl⟩
              have H6 : Hid ((RdO w6 (.slice Aa na ca) fa ∧ RdO w6 (.slice Ab nb cb) fb ∧ RdO w6 (.slice Ac nc cc) fc) ∧ Below w.heap.size w w6) := Lib.hid (by
                have h1 := H5.out
                have e1 := HLa.out
                have e2 := HLb.out
                have e3 := HLc.out
                rw [htk] at e1 e2 e3
                have hoa := h1.oa
                have hob := h1.ob
                have hoc := h1.oc
                rw [htk, ← hfa] at hoa
                rw [htk, ← hfb] at hob
                rw [htk, ← hfc] at hoc
                rw [← hfa] at e1
                rw [← hfb] at e2
                rw [← hfc] at e3
                rw [← e1] at hoa
                rw [← e2] at hob
                rw [← e3] at hoc
                rw [hw6]
                exact ⟨⟨rdo_k (by rw [e1] at hoa ⊢; exact rdk_own hoa) (fun x hx => HAI5.out x ((List.mem_filter.1 (by rw [hfa] at hx; exact hx)).1)), rdo_k (by rw [e2] at hob ⊢; exact rdk_own hob) (fun x hx => HAI5.out x ((List.mem_filter.1 (by rw [hfb] at hx; exact hx)).1)), rdo_k (by rw [e3] at hoc ⊢; exact rdk_own hoc) (fun x hx => HAI5.out x ((List.mem_filter.1 (by rw [hfc] at hx; exact hx)).1))⟩, below_next HWB.out h1.bel⟩)
              have HIA : Hid (∀ x ∈ fa, Id32 x) := Lib.hid (fun x hx => HAI5.out x ((List.mem_filter.1 (by rw [hfa] at hx; exact hx)).1))
              have HFL : Hid (fa.length ≤ 1000) := Lib.hid (by rw [hfa]; have h1 := HN0m.out; have h2 := List.length_filter_le (Cl.the objs) AA; have h3 := HN0.out; omega)
              have HEND : Hid (∀ wz vd D, LD objs fa wz n vd D → Below w6.heap.size w6 wz → WalkR objs roots w (.returned (.tuple #[.slice Aa na ca, .slice Ab nb cb, .slice Ac nc cc, vd])) wz) := Lib.hid (fun wz vd D hl hb => by
                have hr := HQ.out.2.1.rise
                refine ⟨_, _, _, _, fa, fb, fc, D, rfl, rdo_go H6.out.1.1 hb (Nat.le_refl _), rdo_go H6.out.1.2.1 hb (Nat.le_refl _), rdo_go H6.out.1.2.2 hb (Nat.le_refl _), hl.row, ⟨hfa ▸ rising_filter _ hr, HIA.out⟩, ⟨hfb ▸ rising_filter _ hr, fun x hx => HAI5.out x ((List.mem_filter.1 (by rw [hfb] at hx; exact hx)).1)⟩, ⟨hfc ▸ rising_filter _ hr, fun x hx => HAI5.out x ((List.mem_filter.1 (by rw [hfc] at hx; exact hx)).1)⟩, ⟨hl.rise, hl.ids⟩, fun x => ?_, fun x => ?_, fun x => ?_, fun x => ?_, below_next H6.out.2 hb⟩
                · rw [hfa, List.mem_filter, hdone x]
                · rw [hfb, List.mem_filter, hdone x]; simp
                · rw [hfc, List.mem_filter, hdone x]
                · have h1 := hl.mem x
                  rw [HNO.out, List.take_length] at h1
                  exact h1)
              have HL0 : Hid (LD objs fa w6 0 (.slice none 0 0) []) := Lib.hid ⟨⟨none, 0, rfl, Nat.le_refl _, fun h0 => absurd h0 (by simp)⟩, fun i j _ hj => (by simp at hj), fun x hx => (by cases hx), fun x => ⟨fun hx => (by cases hx), fun hx => (by obtain ⟨⟨t, ht, _⟩, _⟩ := hx; simp at ht)⟩⟩
              have HB6 := Lib.hid (Below.refl w6.heap.size w6)
              clear hfa hfb hfc htk hdone H5 HLa HLb HLc HLaB HLbB HLcB hlt
              have ik : ¬ ((k : Nat) : Int) < n0 := by omega
              rw [← hw6]
              clear hkn hk hw6
              go_wp2
              go_loopw [7, 112] (fun vd i w7 => ∃ (k : Nat) (D : List (List Nat)), k ≤ n ∧ i = .int .i64 k ∧ Hid (LD objs fa w7 k vd D ∧ Below w6.heap.size w6 w7)) (fun _ i _ => n - (intOf i).toNat)
              case atStart => exact ⟨0, [], Nat.zero_le _, rfl, Lib.hid ⟨HL0.out, HB6.out⟩⟩
              case round =>
                obtain ⟨k, D, hk, rfl, H7⟩ := hrel
                by_cases hlt : k < n
                · have hki : k < its.length := by rw [← HNI.out]; exact hlt
                  obtain ⟨b, o, rfl, hbl, hcell⟩ := HROW.out (by omega)
                  obtain ⟨p, hp⟩ : ∃ p : Cl.T, its[k] = p := ⟨_, rfl⟩
                  have hpm : p ∈ its := hp ▸ List.getElem_mem hki
                  obtain ⟨hrd, hby⟩ := HCT.out p hpm
                  obtain ⟨A1, c1, hval⟩ : ∃ A1 c1, p.val = .slice A1 p.text.length c1 := by obtain ⟨A1, c1, h, _⟩ := hrd; exact ⟨A1, c1, h⟩
                  have hbw : Below w.heap.size w wr := below_next H6.out.2 H7.out.2
                  have pc : wr.cell? ⟨b, o + k, none⟩ = some (.slice A1 p.text.length c1) := by
                    rw [← hval, ← hp]
                    exact (hbw.cell (p := ⟨b, o + k, none⟩) hbl).trans (hcell k _ (by rw [List.getElem?_map, List.getElem?_eq_getElem hki]; rfl))
                  rw [hval] at hrd
                  have htn : objs.take (k + 1) = objs.take k ++ [p.text] := by
                    rw [HOB.out]
                    exact (take_next (l := its.map (·.text)) (by rw [List.length_map]; exact hki) (by rw [List.getD_eq_getElem?_getD, List.getElem?_map, List.getElem?_eq_getElem hki, hp]; try rfl)).1
                  have hpl := HLZ.out p hpm
                  generalize p.text = t at hrd hby pc htn hpl
                  have CID := gid_any (.slice A1 t.length c1) t wr (hrd.below hbw (Nat.le_refl _)) hby (by omega)
                  obtain ⟨nt, hnt⟩ : ∃ q, q = t.length := ⟨_, rfl⟩
                  rw [← hnt] at pc CID
                  have i1 : ((k : Nat) : Int) < n := by omega
                  have i2 : (0 : Int) ≤ ((k : Nat) : Int) := by omega
                  have i3 : ((k : Nat) : Int) < 1000 := by have := HNIm.out; omega
                  have HLT := Lib.hid hlt
                  have HTN := Lib.hid htn
                  have HS32 := Lib.hid (gsum_id t)
                  obtain ⟨su, hsu⟩ : ∃ q, q = Sha.sum t := ⟨_, rfl⟩
                  rw [← hsu] at CID HS32
                  have HSU := Lib.hid hsu
                  clear hki hbl hcell hp hpm hrd hby hval hpl hnt hk hlt hbw htn hsu
                  go_wp2_with (go_at_call 24; refine pause ?_)
                  unfold Paused
                  refine CID.mono ?_
                  rintro e w8 ⟨rfl, hb8⟩
                  have H8 := Lib.hid (And.intro (H7.out.1.below hb8) (below_next H7.out.2 hb8))
                  clear hb8 CID pc H7
                  go_wp2_with (with_reducible (show wpList _ _ _ (Oper.mk _ (Op.store 36 _ _) _ _ _ _ :: _) _ _); refine pause ?_)
                  unfold Paused
                  change wpList _ _ _ _ _ (w8.alloc (.cells (u8s (List.replicate 32 0)) 36))
                  refine wpList_store_row (by rfl) 36 (.tmp 26) (.tmp 117) (by rfl) w8.heap.size (u8s su) (by rfl) (by rfl) 36 (u8s (List.replicate 32 0)) (Blk.new w8 _ _) (by rw [u8s_size, HS32.out.1]; kernel_rfl) (by rw [u8s_size, u8s_size, HS32.out.1]; rfl) (u8s_one _) ?_
                  have b9 : Below w8.heap.size w8 ((w8.alloc (.cells (u8s (List.replicate 32 0)) 36)).setRow w8.heap.size (u8s su)) := below_row ((Below.refl _ _).alloc (Nat.le_refl _) _) (Nat.le_refl _) _
                  have HX9 : Hid (Blk ((w8.alloc (.cells (u8s (List.replicate 32 0)) 36)).setRow w8.heap.size (u8s su)) w8.heap.size 36 (u8s su)) := Lib.hid ((Blk.new w8 _ _).row _)
                  have H9 := Lib.hid (And.intro (H8.out.1.below b9) (below_next H8.out.2 b9))
                  clear b9 H8
                  generalize (w8.alloc (.cells (u8s (List.replicate 32 0)) 36)).setRow w8.heap.size (u8s su) = w9 at HX9 H9 ⊢
                  generalize w8.heap.size = g9 at HX9 ⊢
                  simp only [Act.put]
                  have CI := rin_any fa su (.slice Aa na ca) w9 (rdo_go H6.out.1.1 H9.out.2 (Nat.le_refl _)) HIA.out HS32.out (by have := HFL.out; omega)
                  go_wp2_with (with_reducible (show wpList _ _ _ (Oper.mk _ (Op.load 36 _) _ _ _ _ :: _) _ _); refine pause ?_)
                  unfold Paused
                  refine wpList_row_w (by rfl) 36 (.tmp 26) (by rfl) g9 (by rfl) 36 (u8s su) _ HX9.out Tryd.underlying36 (by rfl) (by rw [u8s_size, HS32.out.1]; kernel_rfl) ?_
                  go_wp2_with (go_at_call 23; refine pause ?_)
                  unfold Paused
                  refine CI.mono ?_
                  rintro e wa ⟨rfl, hba⟩
                  have HXa := Lib.hid (HX9.out.below hba HX9.out.lt)
                  have Ha := Lib.hid (And.intro (H9.out.1.below hba) (below_next H9.out.2 hba))
                  clear hba CI HX9 H9
                  generalize hdm : decide (su ∈ fa) = dm
                  cases dm with
                  | true =>
                    have HN7 := Lib.hid (And.intro (Ha.out.1.skip HTN.out (by rw [← HSU.out]; simpa using hdm)) Ha.out.2)
                    clear hdm
                    go_wp2
                    go_roundw
                    case rel => exact ⟨k + 1, D, HLT.out, by go_num, HN7⟩
                    case measure => have := HLT.out; simp [intOf]; omega
                  | false =>
                    have HM : Hid (su ∉ fa) := Lib.hid (by simpa using hdm)
                    clear hdm
                    have CP := rput_any D su u7 wa Ha.out.1.row Ha.out.1.ids HS32.out (by have h1 := Ha.out.1.few; have h2 := HNO.out; have h3 := HNIm.out; omega)
                    go_wp2_with (with_reducible (show wpList _ _ _ (Oper.mk _ (Op.load 36 _) _ _ _ _ :: _) _ _); refine pause ?_)
                    unfold Paused
                    refine wpList_row_w (by rfl) 36 (.tmp 26) (by rfl) g9 (by rfl) 36 (u8s su) _ HXa.out Tryd.underlying36 (by rfl) (by rw [u8s_size, HS32.out.1]; kernel_rfl) ?_
                    go_wp2_with (go_at_call 20; refine pause ?_)
                    unfold Paused
                    refine CP.mono ?_
                    rintro e wb ⟨vb7, rfl, hrb, _, hbb⟩
                    have HN7 : Hid (LD objs fa wb (k + 1) vb7 (Cl.put D su) ∧ Below w6.heap.size w6 wb) := Lib.hid ⟨by
                      have h1 := Ha.out.1.put HTN.out (v' := vb7) (w' := wb) (by rw [← HSU.out]; exact HM.out) (by rw [← HSU.out]; exact HS32.out) (by rw [← HSU.out]; exact hrb)
                      rw [← HSU.out] at h1
                      exact h1, below_next Ha.out.2 hbb⟩
                    clear hrb hbb CP
                    go_wp2
                    go_roundw
                    case rel => exact ⟨k + 1, _, HLT.out, by go_num, HN7⟩
                    case measure => have := HLT.out; simp [intOf]; omega
                · have hkn : k = n := by omega
                  have HF : Hid (WalkR objs roots w (.returned (.tuple #[.slice Aa na ca, .slice Ab nb cb, .slice Ac nc cc, u7])) wr) := Lib.hid (HEND.out _ _ D (hkn ▸ H7.out.1) H7.out.2)
                  have ik2 : ¬ ((k : Nat) : Int) < n := by omega
                  clear hkn hk hlt H7
                  go_wp2
                  (try simp only [Exit.inBlock, Exit.then])
                  refine bodyPost_ret (results_tmp4 rfl _ _ _) rfl ?_
                  exact HF.out
        | true =>
          go_wp2
          go_loopw [8, 11, 41] (fun v ag i w3 => ∃ (k : Nat) (A1 : List (List Nat)) (b : Bool), k ≤ n0 ∧ i = .int .i64 k ∧ ag = .bool b ∧ Hid (WS objs roots AA w w3 v A1 b ∧ (∀ x ∈ AA.take k, ∀ y ∈ Cl.lks objs x, y ∈ A1) ∧ RdO w3 (.slice S0 n0 c0) AA)) (fun _ _ i _ => n0 - (intOf i).toNat)
          case atStart => exact ⟨0, AA, false, Nat.zero_le _, rfl, rfl, Lib.hid ⟨⟨HQ.out.1, HQ.out.2.1, fun x hx => hx, fun h0 => (by cases h0), fun _ => rfl, HQ.out.2.2.2.1⟩, fun x hx => (by simp at hx), HQ.out.1⟩⟩
          case round =>
            obtain ⟨k, A1, b, hk, rfl, rfl, H3⟩ := hrel
            by_cases hlt : k < n0
            · have HR3 := Lib.hid H3.out.2.2
              have HAI := Lib.hid HQ.out.2.1.ids
              have hm1 := HN0m.out
              have hkx : k < AA.length := by rw [← HN0.out]; exact hlt
              obtain ⟨A9, c9, hv9, _, hA9⟩ := HR3.out
              injection hv9 with ev9 en9 ec9
              clear en9 ec9
              obtain ⟨b3, o3, hb9, _, hcell⟩ := hA9 (by omega)
              subst ev9
              subst hb9
              obtain ⟨x, hxx⟩ : ∃ x, AA.getD k [] = x := ⟨_, rfl⟩
              have HTK := Lib.hid (take_next hkx hxx)
              have HIX := Lib.hid (HAI.out x HTK.out.2)
              have HRG : Hid (wr.rangeAt b3 (o3 + k * 32) (cellsB x)) := Lib.hid (fun j u hu => by
                rw [Nat.mul_comm k 32]
                exact hcell k hkx j u (by rw [hxx]; exact hu))
              have i1 : ((k : Nat) : Int) < n0 := by omega
              have i2 : (0 : Int) ≤ ((k : Nat) : Int) := by omega
              have i3 : ((k : Nat) : Int) < 1000 := by omega
              have HLT := Lib.hid hlt
              clear hkx hcell hxx hlt hA9
              go_wp2_with (with_reducible (show wpList _ _ _ (Oper.mk _ (Op.load 36 _) _ _ _ _ :: _) _ _); refine pause ?_)
              unfold Paused
              refine wpList_mid_w (by rfl) 36 (.tmp 43) (by rfl) b3 (o3 + k * 32) (by rfl) (cellsB x) _ HRG.out Tryd.underlying36 (by rfl) (by rw [cellsP1_len HIX.out]; kernel_rfl) ?_
              go_wp2_with (with_reducible (show wpList _ _ _ (Oper.mk _ (Op.store 36 _ _) _ _ _ _ :: _) _ _); refine pause ?_)
              unfold Paused
              change wpList _ _ _ _ _ (wr.alloc (.cells (u8s (List.replicate 32 0)) 36))
              refine wpList_store_row (by rfl) 36 (.tmp 13) (.tmp 44) (by rfl) wr.heap.size (u8s x) (by rfl) (by rfl) 36 (u8s (List.replicate 32 0)) (Blk.new wr _ _) (by rw [u8s_size, HIX.out.1]; kernel_rfl) (by rw [u8s_size, u8s_size, HIX.out.1]; rfl) (u8s_one _) ?_
              have b6 : Below wr.heap.size wr ((wr.alloc (.cells (u8s (List.replicate 32 0)) 36)).setRow wr.heap.size (u8s x)) := below_row ((Below.refl _ _).alloc (Nat.le_refl _) _) (Nat.le_refl _) _
              have g6I : Hid (Blk ((wr.alloc (.cells (u8s (List.replicate 32 0)) 36)).setRow wr.heap.size (u8s x)) wr.heap.size 36 (u8s x)) := Lib.hid ((Blk.new wr _ _).row _)
              have H6 := Lib.hid (And.intro (H3.out.1.below b6) (And.intro H3.out.2.1 (rdo_go H3.out.2.2 b6 (Nat.le_refl _))))
              clear b6 HRG
              generalize (wr.alloc (.cells (u8s (List.replicate 32 0)) 36)).setRow wr.heap.size (u8s x) = w6 at g6I H6 ⊢
              generalize wr.heap.size = g6 at g6I ⊢
              simp only [Act.put]
              have HRX : Hid (Cl.Rch objs roots x) := Lib.hid (HQ.out.2.1.rch x HTK.out.2)
              have HLT3 := Lib.hid HLT.out
              have HTK3 := Lib.hid HTK.out
              have HIX3 := Lib.hid HIX.out
              have CGx := HCG.out w6 x H6.out.1.bel HIX.out
              clear HLT HTK HIX HR3 hm1 H3 i1 i2 i3
              go_wp2_with (with_reducible (show wpList _ _ _ (Oper.mk _ (Op.load 36 _) _ _ _ _ :: _) _ _); refine pause ?_)
              unfold Paused
              refine wpList_row_w (by rfl) 36 (.tmp 13) (by rfl) g6 (by rfl) 36 (u8s x) _ g6I.out Tryd.underlying36 (by rfl) (by rw [u8s_size, HIX3.out.1]; kernel_rfl) ?_
              go_wp2_with (go_at_call 21; refine pause ?_)
              unfold Paused
              refine CGx.mono ?_
              rintro e w7 ⟨cs, rfl, hro, hb7⟩
              have HCS := Lib.hid (And.intro hro.size hro.one)
              have H7 : Hid (WS objs roots AA w w7 _ A1 b ∧ (∀ z ∈ AA.take k, ∀ y ∈ Cl.lks objs z, y ∈ A1) ∧ RdO w7 (.slice (some ⟨b3, o3, none⟩) n0 c0) AA ∧ RObj w6.heap.size w7 (Cl.obAt objs x) cs) := Lib.hid ⟨H6.out.1.below hb7, H6.out.2.1, rdo_go H6.out.2.2 hb7 (Nat.le_refl _), hro⟩
              clear hro hb7 CGx H6 g6I
              go_wp2_with (with_reducible (show wpList _ _ _ (Oper.mk _ (Op.store 54 _ _) _ _ _ _ :: _) _ _); refine pause ?_)
              unfold Paused
              change wpList _ _ _ _ _ (w7.alloc (.cells zc0 54))
              refine wpList_store_row (by rfl) 54 (.tmp 14) (.tmp 49) (by rfl) w7.heap.size cs (by rfl) (by rfl) 54 zc0 (Blk.new w7 _ _) (by rw [HCS.out.1]; kernel_rfl) (by rw [HCS.out.1]; rfl) HCS.out.2 ?_
              have b8 : Below w7.heap.size w7 ((w7.alloc (.cells zc0 54)).setRow w7.heap.size cs) := below_row ((Below.refl _ _).alloc (Nat.le_refl _) _) (Nat.le_refl _) _
              have HX8 : Hid (Blk ((w7.alloc (.cells zc0 54)).setRow w7.heap.size cs) w7.heap.size 54 cs) := Lib.hid ((Blk.new w7 _ _).row _)
              have H8 := Lib.hid (And.intro (H7.out.1.below b8) (And.intro H7.out.2.1 (And.intro (rdo_go H7.out.2.2.1 b8 (Nat.le_refl _)) (H7.out.2.2.2.below b8))))
              clear b8 H7
              generalize (w7.alloc (.cells zc0 54)).setRow w7.heap.size cs = w8 at HX8 H8 ⊢
              generalize w7.heap.size = g8 at HX8 ⊢
              simp only [Act.put]
              go_wp2_with (with_reducible (show wpList _ _ _ (Oper.mk _ (Op.load 54 _) _ _ _ _ :: _) _ _); refine pause ?_)
              unfold Paused
              refine wpList_row_w (by rfl) 54 (.tmp 14) (by rfl) g8 (by rfl) 54 cs _ HX8.out Tryd.underlying54 (by rfl) (by rw [HCS.out.1]; kernel_rfl) ?_
              have CLK := rlinks_of objs x cs _ w8 H8.out.2.2.2 HBY.out
              go_wp2_with (go_at_call 22; refine pause ?_)
              unfold Paused
              refine CLK.mono ?_
              rintro e w9 ⟨vl, rfl, hrl, hil, hb9⟩
              obtain ⟨SL, cl, hvl⟩ := rdo_form hrl
              obtain ⟨nl, hnl⟩ : ∃ q, q = (Cl.lks objs x).length := ⟨_, rfl⟩
              rw [← hnl] at hvl
              subst hvl
              have HNL := Lib.hid hnl
              have HLI := Lib.hid hil
              have HNLm : Hid (nl ≤ 9) := Lib.hid (by rw [hnl]; exact HLK.out x)
              have H9 : Hid (WS objs roots AA w w9 _ A1 b ∧ (∀ z ∈ AA.take k, ∀ y ∈ Cl.lks objs z, y ∈ A1) ∧ RdO w9 (.slice (some ⟨b3, o3, none⟩) n0 c0) AA ∧ RdO w9 (.slice SL nl cl) (Cl.lks objs x)) := Lib.hid ⟨H8.out.1.below hb9, H8.out.2.1, rdo_go H8.out.2.2.1 hb9 (Nat.le_refl _), hrl⟩
              clear hrl hil hb9 hnl H8 HX8 CLK HCS
              go_wp2
              go_loopw [8, 11, 54] (fun v ag i w4 => ∃ (k4 : Nat) (A2 : List (List Nat)) (b2 : Bool), k4 ≤ nl ∧ i = .int .i64 k4 ∧ ag = .bool b2 ∧ Hid (WS objs roots AA w w4 v A2 b2 ∧ (∀ z ∈ AA.take k, ∀ y ∈ Cl.lks objs z, y ∈ A2) ∧ RdO w4 (.slice (some ⟨b3, o3, none⟩) n0 c0) AA ∧ (∀ y ∈ (Cl.lks objs x).take k4, y ∈ A2) ∧ RdO w4 (.slice SL nl cl) (Cl.lks objs x))) (fun _ _ i _ => nl - (intOf i).toNat)
              case atStart => exact ⟨0, A1, b, Nat.zero_le _, rfl, rfl, Lib.hid ⟨H9.out.1, H9.out.2.1, H9.out.2.2.1, fun y hy => (by simp at hy), H9.out.2.2.2⟩⟩
              case round =>
                clear H9
                obtain ⟨k4, A2, b2, hk4, rfl, rfl, H4⟩ := hrel
                by_cases hlt4 : k4 < nl
                · have HR4 := Lib.hid H4.out.2.2.2.2
                  have hm1 := HNLm.out
                  have hkx : k4 < (Cl.lks objs x).length := by rw [← HNL.out]; exact hlt4
                  obtain ⟨A9, c9, hv9, _, hA9⟩ := HR4.out
                  injection hv9 with ev9 en9 ec9
                  clear en9 ec9
                  obtain ⟨b4, o4, hb9, _, hcell⟩ := hA9 (by omega)
                  subst ev9
                  subst hb9
                  obtain ⟨y, hxx⟩ : ∃ y, (Cl.lks objs x).getD k4 [] = y := ⟨_, rfl⟩
                  have HTK := Lib.hid (take_next hkx hxx)
                  have HIX := Lib.hid (HLI.out y HTK.out.2)
                  have HRG : Hid (wr.rangeAt b4 (o4 + k4 * 32) (cellsB y)) := Lib.hid (fun j u hu => by
                    rw [Nat.mul_comm k4 32]
                    exact hcell k4 hkx j u (by rw [hxx]; exact hu))
                  have i1 : ((k4 : Nat) : Int) < nl := by omega
                  have i2 : (0 : Int) ≤ ((k4 : Nat) : Int) := by omega
                  have i3 : ((k4 : Nat) : Int) < 1000 := by omega
                  have HLT := Lib.hid hlt4
                  clear hkx hcell hxx hlt4 hA9
                  go_wp2_with (with_reducible (show wpList _ _ _ (Oper.mk _ (Op.load 36 _) _ _ _ _ :: _) _ _); refine pause ?_)
                  unfold Paused
                  refine wpList_mid_w (by rfl) 36 (.tmp 56) (by rfl) b4 (o4 + k4 * 32) (by rfl) (cellsB y) _ HRG.out Tryd.underlying36 (by rfl) (by rw [cellsP1_len HIX.out]; kernel_rfl) ?_
                  go_wp2_with (with_reducible (show wpList _ _ _ (Oper.mk _ (Op.store 36 _ _) _ _ _ _ :: _) _ _); refine pause ?_)
                  unfold Paused
                  change wpList _ _ _ _ _ (wr.alloc (.cells (u8s (List.replicate 32 0)) 36))
                  refine wpList_store_row (by rfl) 36 (.tmp 17) (.tmp 57) (by rfl) wr.heap.size (u8s y) (by rfl) (by rfl) 36 (u8s (List.replicate 32 0)) (Blk.new wr _ _) (by rw [u8s_size, HIX.out.1]; kernel_rfl) (by rw [u8s_size, u8s_size, HIX.out.1]; rfl) (u8s_one _) ?_
                  have b6 : Below wr.heap.size wr ((wr.alloc (.cells (u8s (List.replicate 32 0)) 36)).setRow wr.heap.size (u8s y)) := below_row ((Below.refl _ _).alloc (Nat.le_refl _) _) (Nat.le_refl _) _
                  have g46I : Hid (Blk ((wr.alloc (.cells (u8s (List.replicate 32 0)) 36)).setRow wr.heap.size (u8s y)) wr.heap.size 36 (u8s y)) := Lib.hid ((Blk.new wr _ _).row _)
                  have H46 := Lib.hid (And.intro (H4.out.1.below b6) (And.intro (rdo_go H4.out.2.2.1 b6 (Nat.le_refl _)) (rdo_go HR4.out b6 (Nat.le_refl _))))
                  clear b6 HRG
                  generalize (wr.alloc (.cells (u8s (List.replicate 32 0)) 36)).setRow wr.heap.size (u8s y) = w46 at g46I H46 ⊢
                  generalize wr.heap.size = g46 at g46I ⊢
                  simp only [Act.put]
                  have HRY : Hid (Cl.Rch objs roots y) := Lib.hid (Cl.Rch.link HRX.out HTK.out.2)
                  have CI := rin_any A2 y u8 w46 H46.out.1.row H46.out.1.ai.ids HIX.out (by have := H46.out.1.ai.few; have := HPL.out; omega)
                  go_wp2_with (with_reducible (show wpList _ _ _ (Oper.mk _ (Op.load 36 _) _ _ _ _ :: _) _ _); refine pause ?_)
                  unfold Paused
                  refine wpList_row_w (by rfl) 36 (.tmp 17) (by rfl) g46 (by rfl) 36 (u8s y) _ g46I.out Tryd.underlying36 (by rfl) (by rw [u8s_size, HIX.out.1]; kernel_rfl) ?_
                  go_wp2_with (go_at_call 23; refine pause ?_)
                  unfold Paused
                  refine CI.mono ?_
                  rintro e w47 ⟨rfl, hb47⟩
                  have g47I := Lib.hid (g46I.out.below hb47 g46I.out.lt)
                  have H47 : Hid (WS objs roots AA w w47 _ A2 b2 ∧ RdO w47 (.slice (some ⟨b3, o3, none⟩) n0 c0) AA ∧ RdO w47 (.slice (some ⟨b4, o4, none⟩) nl cl) (Cl.lks objs x)) := Lib.hid ⟨H46.out.1.below hb47, rdo_go H46.out.2.1 hb47 (Nat.le_refl _), rdo_go H46.out.2.2 hb47 (Nat.le_refl _)⟩
                  clear hb47 CI g46I H46
                  generalize hdm : decide (y ∈ A2) = dm
                  cases dm with
                  | true =>
                    have HM2 : Hid (∀ z ∈ (Cl.lks objs x).take (k4 + 1), z ∈ A2) := Lib.hid (fun z hz => by
                      have hm : y ∈ A2 := by simpa using hdm
                      rw [HTK.out.1] at hz
                      rcases List.mem_append.1 hz with h1 | h1
                      · exact H4.out.2.2.2.1 z h1
                      · rw [List.mem_singleton.1 h1]; exact hm)
                    have HN4 := Lib.hid (And.intro H47.out.1 (And.intro H4.out.2.1 (And.intro H47.out.2.1 (And.intro HM2.out H47.out.2.2))))
                    clear hdm H4 H47 HM2
                    go_wp2
                    go_roundw
                    case rel => exact ⟨k4 + 1, A2, b2, by have := HLT.out; omega, by go_num, rfl, HN4⟩
                    case measure => have := HLT.out; simp [intOf]; omega
                  | false =>
                    have HM2 : Hid (y ∉ A2) := Lib.hid (by simpa using hdm)
                    clear hdm
                    have CP := rput_any A2 y u8 w47 H47.out.1.row H47.out.1.ai.ids HIX.out (by have := H47.out.1.ai.few; have := HPL.out; omega)
                    go_wp2_with (with_reducible (show wpList _ _ _ (Oper.mk _ (Op.load 36 _) _ _ _ _ :: _) _ _); refine pause ?_)
                    unfold Paused
                    refine wpList_row_w (by rfl) 36 (.tmp 17) (by rfl) g46 (by rfl) 36 (u8s y) _ g47I.out Tryd.underlying36 (by rfl) (by rw [u8s_size, HIX.out.1]; kernel_rfl) ?_
                    go_wp2_with (go_at_call 20; refine pause ?_)
                    unfold Paused
                    refine CP.mono ?_
                    rintro e w48 ⟨v48, rfl, hr48, _, hb48⟩
                    have HN4 : Hid (WS objs roots AA w w48 v48 (Cl.put A2 y) true ∧ (∀ z ∈ AA.take k, ∀ y' ∈ Cl.lks objs z, y' ∈ Cl.put A2 y) ∧ RdO w48 (.slice (some ⟨b3, o3, none⟩) n0 c0) AA ∧ (∀ z ∈ (Cl.lks objs x).take (k4 + 1), z ∈ Cl.put A2 y) ∧ RdO w48 (.slice (some ⟨b4, o4, none⟩) nl cl) (Cl.lks objs x)) := Lib.hid (by
                      have hs := (Cl.put_spec A2 y H47.out.1.ai.rise).2
                      refine ⟨H47.out.1.put HIX.out HRY.out HM2.out hr48 hb48, fun z hz q hq => (hs q).2 (Or.inl (H4.out.2.1 z hz q hq)), rdo_go H47.out.2.1 hb48 (Nat.le_refl _), fun z hz => (hs z).2 ?_, rdo_go H47.out.2.2 hb48 (Nat.le_refl _)⟩
                      rw [HTK.out.1] at hz
                      rcases List.mem_append.1 hz with h1 | h1
                      · exact Or.inl (H4.out.2.2.2.1 z h1)
                      · exact Or.inr (List.mem_singleton.1 h1))
                    clear hr48 hb48 CP H4 H47 HM2
                    go_wp2
                    go_roundw
                    case rel => exact ⟨k4 + 1, _, true, by have := HLT.out; omega, by go_num, rfl, HN4⟩
                    case measure => have := HLT.out; simp [intOf]; omega
                · obtain rfl : k4 = nl := by omega
                  have ik : ¬ ((k4 : Nat) : Int) < k4 := by omega
                  have HN3 : Hid (WS objs roots AA w wr u8 A2 b2 ∧ (∀ z ∈ AA.take (k + 1), ∀ y ∈ Cl.lks objs z, y ∈ A2) ∧ RdO wr (.slice (some ⟨b3, o3, none⟩) n0 c0) AA) := Lib.hid ⟨H4.out.1, fun z hz y hy => by
                    rw [HTK3.out.1] at hz
                    rcases List.mem_append.1 hz with h1 | h1
                    · exact H4.out.2.1 z h1 y hy
                    · rw [List.mem_singleton.1 h1] at hy
                      exact H4.out.2.2.2.1 y (by rw [HNL.out, List.take_length]; exact hy), H4.out.2.2.1⟩
                  clear H4 hk4 hlt4
                  have i2 : (0 : Int) ≤ ((k : Nat) : Int) := by omega
                  have i3 : ((k : Nat) : Int) < 1000 := by have h1 := HLT3.out; have h2 := HN0m.out; omega
                  go_wp2
                  go_roundw
                  case rel => exact ⟨k + 1, A2, b2, HLT3.out, by go_num, rfl, HN3⟩
                  case measure => have := HLT3.out; simp [intOf]; omega
            · have hkn : k = n0 := by omega
              have HKN := Lib.hid hkn
              have HE : Hid ((∀ (b2 : Bool), b2 = b → b2 = false → ∀ x ∈ A1, ∀ y ∈ Cl.lks objs x, y ∈ A1) ∧ (1001 - A1.length) + agN (.bool b) < (1001 - n0) + 1 ∧ ∀ x ∈ roots, x ∈ A1) := Lib.hid ⟨fun b2 e h0 x hx y hy => by
                subst e
                have e1 := H3.out.1.same h0
                rw [e1] at hx
                exact H3.out.2.1 x (by rw [HKN.out, HN0.out, List.take_length]; exact hx) y hy, by
                have h1 := HN0.out
                have h2 := HN0m.out
                cases b with
                | true => have := H3.out.1.more rfl; rw [agN_true]; omega
                | false => have := H3.out.1.same rfl; rw [this, ← h1, agN_false]; omega, fun x hx => H3.out.1.sub x (HQ.out.2.2.1 x hx)⟩
              have HRL : Hid (lenV u8 = A1.length) := Lib.hid (rdo_len H3.out.1.row)
              subst hkn
              have ik : ¬ ((k : Nat) : Int) < k := by omega
              go_wp2
              go_roundw
              case rel => exact ⟨A1, b, rfl, Lib.hid ⟨H3.out.1.row, H3.out.1.ai, HE.out.2.2, H3.out.1.bel, HE.out.1 b rfl⟩⟩
              case measure => have := HE.out.2.1; have := HRL.out; simp only [lenV, agN] at *; omega
end Go.Proofs.YtlodalppnglclaaDoor
