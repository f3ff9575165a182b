/- An object's links and id, of its bytes and of the object that they are parsed as (ObjectLinks). -/
import Derived.Test.YtlgljdefileeoaaDoorMZers
namespace Go.Proofs.YtlgljdefileeoaaDoor
open Go Go.RowKit
theorem links_ids {o : Ob} (hf : o.Fit) : ∀ p ∈ o.links, Id32 p := fun p hp => by
  unfold Ob.links at hp
  simp only [List.mem_append] at hp
  rcases hp with (hp | hp) | hp
  · obtain ⟨e, he, rfl⟩ := List.mem_map.1 hp
    exact hf.ents e he
  · split at hp
    · rw [List.mem_singleton.1 hp]; exact hf.target
    · cases hp
  · exact hf.pars p hp
theorem zc0_below (w : World) : Below w.heap.size w (w.alloc (.cells zc0 38)) := (Below.refl _ _).alloc (Nat.le_refl _) _
theorem small_held {o : Ob} (h : o.small) : o.Held := ⟨fun e he => by have := h.2.2.2 e he; omega, by have := h.1; omega⟩
theorem front_pos (o : Ob) : 0 < (o.front ++ o.text).length := by simp [Ob.front]
theorem rdk_slice {w : World} {v : Value} {n : Nat} {cs : List Value} (h : RdK w v n cs) : ∃ A c, v = .slice A n c := by
  obtain ⟨A, c, hv, _⟩ := h
  exact ⟨A, c, hv⟩
set_option maxRecDepth 100000 in
set_option maxHeartbeats 8000000 in
theorem links_law (o : Ob) (cs : Array Value) (T E P : Option Addr) (tc ec pc : Nat) (a : Nat → Addr) (w : World) (h : ObC w o cs T tc E ec P pc) (hf : o.Fit) (hS : PSents w a) (hG : w.cell? ⟨0, 0, none⟩ = some (ev (a 12))) (ht : Tabs w) :
    Calls Tryd.prog 4 #[.agg cs] w fun e w' => e = .returned (.bool true) ∧ Below w.heap.size w w' := by
  obtain ⟨w2, hw2⟩ : ∃ w2, w2 = w.alloc (.cells cs 30) := ⟨_, rfl⟩
  have S2 : Box w w2 w.heap.size 30 cs := hw2 ▸ Box.new w _ cs
  have HC := Lib.hid h
  have HF := Lib.hid hf
  have HS := Lib.hid hS
  have HG := Lib.hid hG
  have HT := Lib.hid ht
  have KA := Lib.hid h.c0
  have nA : (Tryd.prog.info? 30).map (·.size) = some cs.size := by rw [h.size hf]; kernel_rfl
  have NA := Lib.hid nA
  have CA := oalive_any w2
  have HS2 := Lib.hid S2
  have e2 := hw2.symm
  clear h hf hS hG ht nA S2 hw2
  go_enter Tryd.func4, Tryd.ntmps4
  go_wp2_with (go_at_call 5; refine pause ?_)
  unfold Paused
  refine CA.mono ?_
  rintro e w3 ⟨rfl, h3⟩
  have HS3 := Lib.hid (HS2.out.go h3)
  clear h3 CA e2
  go_wp2_with (with_reducible (show wpList _ _ _ (Oper.mk _ (Op.load 30 _) _ _ _ _ :: _) _ _); refine pause ?_)
  unfold Paused
  refine wpList_row_w (by rfl) 30 (.tmp 1) (by rfl) w.heap.size (by rfl) 30 cs _ (HS3.out.at_) Tryd.underlying30 (by rfl) NA.out ?_
  go_wp2_with (go_at_call 11; refine pause ?_)
  unfold Paused
  refine (of_any o cs T E P tc ec pc w3 (HC.out.below HS3.out.bel (Nat.le_refl _)) HF.out).mono ?_
  rintro e w4 ⟨h4, cx, ok, rfl, sx, ox, hx⟩
  have HS4 := Lib.hid (HS3.out.go h4)
  have HX4 := Lib.hid (fun h => (hx h).1)
  have SX := Lib.hid sx
  have OX := Lib.hid ox
  clear h4 hx sx ox
  go_wp2_with (with_reducible (show wpList _ _ _ (Oper.mk _ (Op.store 38 _ _) _ _ _ _ :: _) _ _); refine pause ?_)
  unfold Paused
  change wpList _ _ _ _ _ (w4.alloc (.cells zc0 38))
  refine wpList_store_row (by rfl) 38 (.tmp 3) (.tmp 18) (by rfl) w4.heap.size cx (by rfl) (by rfl) 38 zc0 (Blk.new w4 _ _) (by rw [SX.out]; kernel_rfl) (by rw [SX.out]; rfl) OX.out ?_
  have hk : Below w4.heap.size w4 ((w4.alloc (.cells zc0 38)).setRow w4.heap.size cx) := below_row (zc0_below w4) (Nat.le_refl _) _
  have HS5 := Lib.hid (HS4.out.go hk)
  clear hk
  generalize World.setRow _ w4.heap.size cx = w5 at HS5 ⊢
  cases ok
  · go_wp2
    go_ret
    exact ⟨rfl, HS5.out.bel⟩
  have HD := Lib.hid (small_held (HX4.out rfl))
  have HC5 := Lib.hid (HC.out.below HS5.out.bel (Nat.le_refl _))
  have pF : w5.cell? ⟨4, 0, none⟩ = some (ev (a 3)) := (HS.out.at_ HS5.out.bel).2.1
  have CB := obytes_any o cs T E P tc ec pc (a 3) w5 HC5.out HF.out HD.out pF
  clear pF
  go_wp2_with (with_reducible (show wpList _ _ _ (Oper.mk _ (Op.load 30 _) _ _ _ _ :: _) _ _); refine pause ?_)
  unfold Paused
  refine wpList_row_w (by rfl) 30 (.tmp 1) (by rfl) w.heap.size (by rfl) 30 cs _ (HS5.out.at_) Tryd.underlying30 (by rfl) NA.out ?_
  go_wp2_with (go_at_call 12; refine pause ?_)
  unfold Paused
  refine CB.mono ?_
  rintro e w6 ⟨h6, hB0, hB1⟩
  have HS6 := Lib.hid (HS5.out.go h6)
  clear h6 CB
  cases hr : o.right
  · obtain rfl := hB0 hr
    have CR := right_any o cs T E P tc ec pc w6 (HC.out.below HS6.out.bel (Nat.le_refl _)) HF.out HD.out
    rw [hr] at CR
    clear hB0 hB1 hr
    go_wp2_with (with_reducible (show wpList _ _ _ (Oper.mk _ (Op.load 30 _) _ _ _ _ :: _) _ _); refine pause ?_)
    unfold Paused
    refine wpList_row_w (by rfl) 30 (.tmp 1) (by rfl) w.heap.size (by rfl) 30 cs _ (HS6.out.at_) Tryd.underlying30 (by rfl) NA.out ?_
    go_wp2_with (go_at_call 14; refine pause ?_)
    unfold Paused
    refine CR.mono ?_
    rintro e w7 ⟨rfl, h7⟩
    have HS7 := Lib.hid (HS6.out.go h7)
    clear h7 CR
    go_wp2
    go_ret
    exact ⟨rfl, HS7.out.bel⟩
  obtain ⟨v, rfl, hv⟩ := hB1 hr
  obtain ⟨Av, cv, rfl⟩ : ∃ Av cv, v = .slice Av (o.front ++ o.text).length cv := by obtain ⟨A, c, hv, _⟩ := hv; exact ⟨A, c, hv⟩
  obtain ⟨nr, hsz⟩ := right_near hr
  have HV6 := Lib.hid hv
  have HLP := Lib.hid (laid_parse HF.out hr)
  have HLB := Lib.hid (laid_bytes HF.out hr)
  have HLZ : Hid ((o.front ++ o.text).length ≤ 300) := Lib.hid (by rw [List.length_append]; exact hsz)
  have HLS := Lib.hid (links_small HF.out)
  have HBL := Lib.hid (blob_links hr)
  have HPOS := Lib.hid (front_pos o)
  have HEP : Hid (o.ents.length ≤ 1000 ∧ o.pars.length ≤ 1000) := Lib.hid ⟨by have := nr.ents; omega, by have := nr.pars; omega⟩
  have HLI := Lib.hid (links_ids HF.out)
  have CL : ∀ {cx T E P tc ec pc w'}, ObC w' o cx T tc E ec P pc → Calls Tryd.prog 15 #[.agg cx] w' _ := fun {cx T E P tc ec pc w'} h => links_any o cx T E P tc ec pc w' h HF.out HEP.out
  have HKI := Lib.hid (rfl : o.kind = o.kind)
  clear hB0 hB1 hv hr nr hsz
  generalize hXS : o.front ++ o.text = xs at HV6 HLP HLB HLZ HLS HPOS
  clear hXS
  generalize hLK : o.links = lk at CL HLS HBL HLI
  clear hLK
  have HC6 := Lib.hid (HC.out.below HS6.out.bel (Nat.le_refl _))
  go_wp2_with (with_reducible (show wpList _ _ _ (Oper.mk _ (Op.load 30 _) _ _ _ _ :: _) _ _); refine pause ?_)
  unfold Paused
  refine wpList_row_w (by rfl) 30 (.tmp 1) (by rfl) w.heap.size (by rfl) 30 cs _ (HS6.out.at_) Tryd.underlying30 (by rfl) NA.out ?_
  go_wp2_with (go_at_call 15; refine pause ?_)
  unfold Paused
  refine (CL HC6.out).mono ?_
  rintro e w7 ⟨vl, rfl, hvl, h7⟩
  obtain ⟨Al, cl, rfl⟩ := rdk_slice hvl
  have HS7 := Lib.hid (HS6.out.go h7)
  have HV7 := Lib.hid (HV6.out.below h7 (Nat.le_refl _))
  have HL7 := Lib.hid hvl
  clear h7 hvl
  have CP := oparse_ok o xs a _ w7 HV7.out HLB.out HLZ.out (HS.out.at_ HS7.out.bel) HLP.out
  go_wp2_with (go_at_call 7; refine pause ?_)
  unfold Paused
  refine CP.mono ?_
  rintro e w8 ⟨cs2, T2, tc2, E2, ec2, P2, pc2, rfl, _, _, ho, h8⟩
  have HS8 := Lib.hid (HS7.out.go h8)
  have HV8 := Lib.hid (HV7.out.below h8 (Nat.le_refl _))
  have HL8 := Lib.hid (HL7.out.below h8 (Nat.le_refl _))
  have HO8 := Lib.hid ho.obc
  have H1 := Lib.hid ho.one
  clear h8 ho CP
  go_wp2_with (with_reducible (show wpList _ _ _ (Oper.mk _ (Op.store 30 _ _) _ _ _ _ :: _) _ _); refine pause ?_)
  unfold Paused
  change wpList _ _ _ _ _ (w8.alloc (.cells zOc 30))
  refine wpList_store_row (by rfl) 30 (.tmp 8) (.tmp 37) (by rfl) w8.heap.size cs2 (by rfl) (by rfl) 30 zOc (Blk.new w8 _ _) (by rw [HO8.out.size HF.out]; kernel_rfl) (by rw [HO8.out.size HF.out]; rfl) H1.out ?_
  have hk : Below w8.heap.size w8 ((w8.alloc (.cells zOc 30)).setRow w8.heap.size cs2) := below_row ((Below.refl _ _).alloc (Nat.le_refl _) _) (Nat.le_refl _) _
  have HS9 := Lib.hid (HS8.out.go hk)
  have HV9 := Lib.hid (HV8.out.below hk (Nat.le_refl _))
  have HL9 := Lib.hid (HL8.out.below hk (Nat.le_refl _))
  have HO9 := Lib.hid (HO8.out.below hk (Nat.le_refl _))
  have HK9 := Lib.hid ((Blk.new w8 30 zOc).row cs2)
  clear hk
  generalize World.setRow _ w8.heap.size cs2 = w9 at HS9 HV9 HL9 HO9 HK9 ⊢
  generalize w8.heap.size = g8 at HK9 ⊢
  have i1 : ¬ (32 * ((lk.length : Nat) : Int) > ((xs.length : Nat) : Int)) := by have := HLS.out; omega
  have m1 : IntKind.i64.wrap (32 * ((lk.length : Nat) : Int)) = 32 * ((lk.length : Nat) : Int) := IntWalk.i64_in _ (by have := HLS.out; have := HLZ.out; omega)
  have i2 : ((lk.length : Nat) : Int) < 1000 := by have := HLS.out; have := HLZ.out; omega
  go_wp2_with (with_reducible (show wpList _ _ _ (Oper.mk _ (Op.load 30 _) _ _ _ _ :: _) _ _); refine pause ?_)
  unfold Paused
  refine wpList_row_w (by rfl) 30 (.tmp 8) (by rfl) g8 (by rfl) 30 cs2 _ (HK9.out) Tryd.underlying30 (by rfl) (by rw [HO9.out.size HF.out]; kernel_rfl) ?_
  go_wp2_with (go_at_call 15; refine pause ?_)
  unfold Paused
  refine (CL HO9.out).mono ?_
  rintro e w10 ⟨vb, rfl, hvb, h10⟩
  obtain ⟨Ab, cb, rfl⟩ := rdk_slice hvb
  have HS10 := Lib.hid (HS9.out.go h10)
  have HV10 := Lib.hid (HV9.out.below h10 (Nat.le_refl _))
  have HL10 := Lib.hid (HL9.out.below h10 (Nat.le_refl _))
  have HO10 := Lib.hid (HO9.out.below h10 (Nat.le_refl _))
  have HK10 := Lib.hid (HK9.out.below h10 HK9.out.lt)
  clear h10 hvb
  go_wp2_with (with_reducible (show wpList _ _ _ (Oper.mk _ (Op.load 30 _) _ _ _ _ :: _) _ _); refine pause ?_)
  unfold Paused
  refine wpList_row_w (by rfl) 30 (.tmp 8) (by rfl) g8 (by rfl) 30 cs2 _ (HK10.out) Tryd.underlying30 (by rfl) (by rw [HO10.out.size HF.out]; kernel_rfl) ?_
  go_wp2_with (go_at_call 15; refine pause ?_)
  unfold Paused
  refine (CL HO10.out).mono ?_
  rintro e w11 ⟨vb, rfl, hvb, h11⟩
  obtain ⟨Ac, cc, rfl⟩ := rdk_slice hvb
  have HS11 := Lib.hid (HS10.out.go h11)
  have HV11 := Lib.hid (HV10.out.below h11 (Nat.le_refl _))
  have HL11 := Lib.hid (HL10.out.below h11 (Nat.le_refl _))
  have HB11 := Lib.hid hvb
  clear h11 hvb CL i1 m1
  go_wp2
  go_loopw [60] (fun j wr => ∃ k : Nat, k ≤ lk.length ∧ j = .int .i64 (k : Nat) ∧ Hid (Below w11.heap.size w11 wr)) (fun j _ => lk.length - (intOf j).toNat)
  case atStart => exact ⟨0, Nat.zero_le _, rfl, Lib.hid (Below.refl _ _)⟩
  case round =>
    obtain ⟨k, hk, rfl, HW⟩ := hrel
    by_cases hlt : k < lk.length
    · obtain ⟨b1, o1, rfl, _, g1⟩ := (HL11.out.below HW.out (Nat.le_refl _)).par rfl HLI.out hlt
      obtain ⟨b2, o2, rfl, _, g2⟩ := (HB11.out.below HW.out (Nat.le_refl _)).par rfl HLI.out hlt
      have HID := Lib.hid (HLI.out _ (List.getElem_mem hlt))
      generalize lk[k] = id at g1 g2 HID
      have HSR := Lib.hid g2
      have HSL := Lib.hid g1
      have i3 : ((k : Nat) : Int) < lk.length := by omega
      have i4 : (0 : Int) ≤ ((k : Nat) : Int) := by omega
      clear g1 g2 hlt
      go_wp2_with (with_reducible (show wpList _ _ _ (Oper.mk _ (Op.load 27 _) _ _ _ _ :: _) _ _); refine pause ?_)
      unfold Paused
      refine wpList_mid_w (by rfl) 27 (.tmp 63) (by rfl) b2 (o2 + k * 32) (by rfl) _ _ HSR.out Tryd.underlying27 (by rfl) (by rw [cellsP1_len HID.out]; kernel_rfl) ?_
      go_wp2_with (with_reducible (show wpList _ _ _ (Oper.mk _ (Op.store 27 _ _) _ _ _ _ :: _) _ _); refine pause ?_)
      unfold Paused
      change wpList _ _ _ _ _ (wr.alloc (.cells (cellsB (List.replicate 32 0)).toArray 27))
      refine wpList_store_row (by rfl) 27 (.tmp 10) (.tmp 64) (by rfl) wr.heap.size (cellsB id).toArray (by rfl) (by rfl) 27 (cellsB (List.replicate 32 0)).toArray (Blk.new wr _ _) (by rw [List.size_toArray, cellsP1_len HID.out]; kernel_rfl) (by rw [List.size_toArray, List.size_toArray, cellsP1_len HID.out]; rfl) (arr_one (cellsB_one id)) ?_
      have hbe : Below wr.heap.size wr ((wr.alloc (.cells (cellsB (List.replicate 32 0)).toArray 27)).setRow wr.heap.size (cellsB id).toArray) := below_row ((Below.refl _ _).alloc (Nat.le_refl _) _) (Nat.le_refl _) _
      have HWa := Lib.hid (below_next HW.out hbe)
      have HXa := Lib.hid ((Blk.new wr 27 (cellsB (List.replicate 32 0)).toArray).row (cellsB id).toArray)
      have HLa : Hid (World.rangeAt ((wr.alloc (.cells (cellsB (List.replicate 32 0)).toArray 27)).setRow wr.heap.size (cellsB id).toArray) b1 (o1 + k * 32) (cellsB id)) := Lib.hid (fun j u hj => by
        have h1 := HSL.out j u hj
        exact (hbe.cell (block_lt_of_cell h1)).trans h1)
      clear hbe
      generalize World.setRow _ wr.heap.size (cellsB id).toArray = wa at HWa HXa HLa ⊢
      generalize wr.heap.size = gx at HXa ⊢
      have l1 : ∀ m, (Instr.loadAt 27 (.pointer (some ⟨gx, 0, none⟩))).run Tryd.prog (wa.drewN m) = .ok (.agg (cellsB id).toArray) (wa.drewN m) := fun m => run_loadAt_mid (wa.drewN m) gx 0 27 _ _ (fun j u hj => by rw [Nat.zero_add]; exact (HXa.out.cell j).trans (by rw [List.getElem?_toArray]; exact hj)) Tryd.underlying27 rfl (by rw [cellsP1_len HID.out]; kernel_rfl)
      have l2 : ∀ m, (Instr.loadAt 27 (.pointer (some ⟨b1, o1 + k * 32, none⟩))).run Tryd.prog (wa.drewN m) = .ok (.agg (cellsB id).toArray) (wa.drewN m) := fun m => run_loadAt_mid (wa.drewN m) b1 (o1 + k * 32) 27 _ _ HLa.out Tryd.underlying27 rfl (by rw [cellsP1_len HID.out]; kernel_rfl)
      have q0 : ∀ m, (Op.equalIn 10000 27 (.agg (cellsB id).toArray) (.agg (cellsB id).toArray)).run Tryd.prog (wa.drewN m) = .ok (eqv id id) (wa.drewN m) := fun m => id_eq _ _ _ HID.out HID.out
      rw [eqv_self] at q0
      generalize (cellsB id).toArray = ci at l1 l2 q0 ⊢
      try simp only [Act.put]
      go_wp2
      refine wp_region_quiet_lit (by kernel_rfl) (by kernel_rfl) ?_
      repeat (first
        | go_big_quiet_step (fail)
        | (go_big_quiet_want; refine quiet_load 27 (.tmp 10) rfl _ rfl _ (by rintro _ ⟨m, rfl⟩; exact l1 _) ?_; go_big_quiet_on; simp only [Act.put, List.setIfInBounds_toArray, List.set_cons_zero, List.set_cons_succ])
        | (go_big_quiet_want; refine quiet_load 27 (.tmp 68) rfl _ rfl _ (by rintro _ ⟨m, rfl⟩; exact l2 _) ?_; go_big_quiet_on; simp only [Act.put, List.setIfInBounds_toArray, List.set_cons_zero, List.set_cons_succ]))
      refine wpQuiet_nil ?_
      rintro _ ⟨nq, rfl⟩
      go_wp2
      go_roundw
      case rel => exact ⟨k + 1, by omega, by go_num, Lib.hid (below_drewN HWa.out nq)⟩
      case measure => simp [intOf]; omega
    · have i3 : ¬ (((k : Nat) : Int) < lk.length) := by omega
      have HSr := Lib.hid (HS11.out.go HW.out)
      have HVr := Lib.hid (HV11.out.below HW.out (Nat.le_refl _))
      clear hlt
      go_wp2_with (with_reducible (show wpList _ _ _ (Oper.mk _ (Op.call (Call.mk (Callee.builtin Builtin.append) _ _)) _ _ _ _ :: _) _ _); refine pause ?_)
      unfold Paused
      change wpList _ _ _ _ _ (wr.alloc (.cells #[] 5))
      have HEA := Lib.hid (own_empty wr wr.heap.size (Nat.le_refl _))
      have HBA : Hid (Below wr.heap.size wr (wr.alloc (.cells #[] 5))) := Lib.hid ((Below.refl _ _).alloc (Nat.le_refl _) _)
      have HVa := Lib.hid (HVr.out.below HBA.out (Nat.le_refl _))
      generalize wr.alloc (.cells #[] 5) = wa at HEA HBA HVa ⊢
      refine wpList_appendB (by rfl) (.tmp 72) (.tmp 73) (by rfl) wr.heap.size _ [] (by rfl) HEA.out HBA.out.size _ (by rfl) xs HVa.out (by have := HLZ.out; simp only [List.length_nil]; omega) ?_
      intro vc w13 hown hgr
      rw [List.nil_append] at hown
      obtain ⟨Ad, cd, rfl⟩ := own_slice hown
      have HB13 := Lib.hid (below_own HBA.out HEA.out (Nat.le_refl _) hgr)
      have HD13 := Lib.hid (rd_own hown)
      have HS13 := Lib.hid (HSr.out.go HB13.out)
      have HV13 := Lib.hid (HVr.out.below HB13.out (Nat.le_refl _))
      clear hown hgr HEA HBA HVa
      go_wp2_with (with_reducible (show wpList _ _ _ (Oper.mk _ (Op.call (Call.mk (Callee.builtin Builtin.append) _ _)) _ _ _ _ :: _) _ _); refine pause ?_)
      unfold Paused
      change wpList _ _ _ _ _ (w13.alloc (.cells #[] 5))
      have HEA := Lib.hid (own_empty w13 w13.heap.size (Nat.le_refl _))
      have HBA : Hid (Below w13.heap.size w13 (w13.alloc (.cells #[] 5))) := Lib.hid ((Below.refl _ _).alloc (Nat.le_refl _) _)
      have HVa := Lib.hid (HV13.out.below HBA.out (Nat.le_refl _))
      generalize w13.alloc (.cells #[] 5) = wa at HEA HBA HVa ⊢
      refine wpList_appendB (by rfl) (.tmp 75) (.tmp 76) (by rfl) w13.heap.size _ [] (by rfl) HEA.out HBA.out.size _ (by rfl) xs HVa.out (by have := HLZ.out; simp only [List.length_nil]; omega) ?_
      intro vc w14 hown hgr
      rw [List.nil_append] at hown
      have HB14 := Lib.hid (below_own HBA.out HEA.out (Nat.le_refl _) hgr)
      have HOW := Lib.hid hown
      have HNN := Lib.hid (own_some hown HPOS.out)
      clear hown hgr HEA HBA HVa
      go_wp2_with (with_reducible (show wpList _ _ _ (Oper.mk _ (Op.call (Call.mk (Callee.builtin Builtin.append) _ _)) _ _ _ _ :: _) _ _); refine pause ?_)
      unfold Paused
      refine wpList_append_zerosB (by rfl) (.tmp 77) (.const (.int .i64 301)) (by rfl) w13.heap.size _ xs 301 (by rfl) (by rfl) HOW.out (by have := HLZ.out; omega) HNN.out HB14.out.size ?_
      intro vd w15 hown hgr
      obtain ⟨Ae, ce, rfl⟩ := own_slice hown
      have HB15 := Lib.hid (below_own HB14.out HOW.out (Nat.le_refl _) hgr)
      have HD15 := Lib.hid (HD13.out.below HB15.out (Nat.le_refl _))
      have HS15 := Lib.hid (HS13.out.go HB15.out)
      have HV15 := Lib.hid (HV13.out.below HB15.out (Nat.le_refl _))
      have CG := oparse_large (a 12) (xs ++ List.replicate 301 0) _ w15 (rd_own hown) (by rw [List.length_append, List.length_replicate]; omega) ((HS15.out.bel.cell (block_lt_of_cell HG.out)).trans HG.out)
      generalize (xs ++ List.replicate 301 0).length = nz at CG ⊢
      clear hown hgr HOW HNN
      go_wp2_with (go_at_call 7; refine pause ?_)
      unfold Paused
      refine CG.mono ?_
      rintro e w16 ⟨rfl, h16⟩
      have HS16 := Lib.hid (HS15.out.go h16)
      have HV16 := Lib.hid (HV15.out.below h16 (Nat.le_refl _))
      have HD16 := Lib.hid (HD15.out.below h16 (Nat.le_refl _))
      clear h16 CG
      have C1 := oid_any xs _ w16 HV16.out (byte_of HLB.out) (HT.out.below HS16.out.bel (Nat.le_refl _)) (by have := HLZ.out; omega)
      go_wp2_with (go_at_call 16; refine pause ?_)
      unfold Paused
      refine C1.mono ?_
      rintro e w17 ⟨rfl, h17⟩
      have HS17 := Lib.hid (HS16.out.go h17)
      have HD17 := Lib.hid (HD16.out.below h17 (Nat.le_refl _))
      clear h17 C1
      have C2 := oid_any xs _ w17 HD17.out (byte_of HLB.out) (HT.out.below HS17.out.bel (Nat.le_refl _)) (by have := HLZ.out; omega)
      go_wp2_with (go_at_call 16; refine pause ?_)
      unfold Paused
      refine C2.mono ?_
      rintro e w18 ⟨rfl, h18⟩
      have HS18 := Lib.hid (HS17.out.go h18)
      clear h18 C2
      have q0 : (Op.equalIn 10000 27 (.agg (u8s (Sha.sum xs))) (.agg (u8s (Sha.sum xs)))).run Tryd.prog w18 = .ok (eqv (Sha.sum xs) (Sha.sum xs)) w18 := id_eq _ _ _ ⟨Sha.join_len _, Sha.join_byte _⟩ ⟨Sha.join_len _, Sha.join_byte _⟩
      rw [eqv_self] at q0
      have a0 : w18.cell? ⟨w.heap.size, 0, none⟩ = some (.int .i64 o.kind) := (HS18.out.at_.cell 0).trans KA.out
      generalize u8s (Sha.sum xs) = sx at q0 ⊢
      generalize o.kind = ok at *
      by_cases hk1 : ok = 1
      · have hl0 := HBL.out hk1
        have j1 : (((lk.length : Nat) : Int) == 0) = true := by rw [hl0]; rfl
        have j2 : (ok != 1) = false := by rw [hk1]; rfl
        go_wp2
        go_ret
        exact ⟨rfl, HS18.out.bel⟩
      · have j2 : (ok != 1) = true := by simp [hk1]
        go_wp2
        go_ret
        exact ⟨rfl, HS18.out.bel⟩
end Go.Proofs.YtlgljdefileeoaaDoor
