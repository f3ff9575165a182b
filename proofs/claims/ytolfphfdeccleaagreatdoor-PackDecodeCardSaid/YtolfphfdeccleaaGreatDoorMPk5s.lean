/- What is known is reckoned at the first question. -/
import Derived.Test.YtolfphfdeccleaaGreatDoorMOb30s
import Derived.Test.YtolfphfdeccleaaGreatDoorMDl6s
namespace Go.Proofs.YtolfphfdeccleaaGreatDoor
open Go Go.RowKit
theorem kpt_low {S : Nat → Prop} {w w' : World} (h : Kpt S w w') {B : Nat} (hS : ∀ x, S x → B ≤ x) (hB : B ≤ w.heap.size) : Below B w w' :=
  ⟨h.os, h.tape, h.output, h.size, fun k hk => h.block k (by omega) (fun hs => by have := hS k hs; omega)⟩
theorem low_kpt {S : Nat → Prop} {w0 w w' : World} (h0 : Below w0.heap.size w0 w) (h : Kpt S w w') (hS : ∀ x, S x → w0.heap.size ≤ x) : Below w0.heap.size w0 w' :=
  h0.trans (kpt_low h hS h0.size)
theorem KnS.open_ {w0 w : World} {bK : Nat} {kn : List Pk.It} (h : KnS w0 w bK kn) : ∃ A c, Blk w bK 23 #[.slice A kn.length c] ∧ (0 < kn.length → ∃ b o, A = some ⟨b, o, none⟩ ∧ b < w0.heap.size ∧ ∀ i (h : i < kn.length), w0.cell? ⟨b, o + i, none⟩ = some kn[i].val) := by
  obtain ⟨A, c, h1, A', c', hv, hc, hA⟩ := h.box
  injection hv with e1 e2 e3
  subst e1
  refine ⟨A, c, h1, fun h0 => ?_⟩
  obtain ⟨b, o, ha, hb, hx⟩ := hA (by rw [List.length_map]; exact h0)
  exact ⟨b, o, ha, hb, fun i hi => hx i _ (by simp [hi])⟩
theorem item_idx {id : List Nat} {v : Value} {d : Nat} {w : World} {g t : Nat} (hb : Blk w g t (itemC id v d).toArray) : w.rangeAt g 0 (cellsB id) := fun j u hu => by
  rw [Nat.zero_add, hb.cell j, List.getElem?_toArray]
  unfold itemC
  rw [List.getElem?_append_left (List.getElem?_eq_some_iff.1 hu).1]
  exact hu
theorem make_map (k : Int) (w : World) : (Instr.makeMap 71 (some (.int .i64 k))).run Tryz.prog w = .ok (.map (some w.heap.size)) (w.alloc (.map #[] 0)) := by kernel_rfl
/-- while what is known is put by id -/
structure FW (w wr : World) (bB m : Nat) (kn : List Pk.It) (id : List Nat) (k : Nat) : Prop where
  map : MapO wr m k (fun id => (Pk.fnd (kn.take k) id).map Pk.It.v)
  box : Blk wr bB 71 #[.map (some m)]
  kpt : Kpt (fun x => x = bB) w wr
  idb : Blk wr w.heap.size 49 (u8s id)
  zb : Blk wr (w.heap.size + 1) 51 (itemC zid nilV 0).toArray
  big : w.heap.size + 2 ≤ m
theorem FW.below {w wr w' : World} {bB m : Nat} {kn : List Pk.It} {id : List Nat} {k : Nat} (h : FW w wr bB m kn id k) (hb : Below wr.heap.size wr w') : FW w w' bB m kn id k :=
  ⟨h.map.below hb, h.box.below hb h.box.lt, h.kpt.trans (Kpt.of_below hb), h.idb.below hb h.idb.lt, h.zb.below hb h.zb.lt, h.big⟩
theorem FW.put {w wr w' : World} {bB m : Nat} {kn : List Pk.It} {id : List Nat} {k : Nat} (h : FW w wr bB m kn id k) (hk : k < kn.length) (hb : bB < w.heap.size) (hm : MapO w' m (k + 1) (updO (fun id => (Pk.fnd (kn.take k) id).map Pk.It.v) (Sha.sum kn[k].text) kn[k].v)) (hg : wr.grownBy w' (some m)) : FW w w' bB m kn id (k + 1) := by
  have hbg := h.big
  refine ⟨hm.ext fun x _ => ?_, h.box.grown hg (fun e => by injection e with e; omega), ⟨hg.os.trans h.kpt.os, hg.tape.trans h.kpt.tape, hg.output.trans h.kpt.output, Nat.le_trans h.kpt.size hg.size, fun b hb' hne => (hg.block b (Nat.lt_of_lt_of_le hb' h.kpt.size) (fun e => by injection e with e; omega)).trans (h.kpt.block b hb' hne)⟩, h.idb.grown hg (fun e => by injection e with e; omega), h.zb.grown hg (fun e => by injection e with e; omega), h.big⟩
  unfold updO
  rw [List.take_succ_eq_append_getElem hk, Pk.fnd_snoc]
  split <;> rfl
set_option maxRecDepth 100000 in
set_option maxHeartbeats 4000000 in
theorem find1_nil (bB bK : Nat) (kn : List Pk.It) (id : List Nat) (w0 w : World) (hB : Blk w bB 71 #[.map none]) (hK : KnS w0 w bK kn) (h0 : Below w0.heap.size w0 w) (hlo : w0.heap.size ≤ bB) (hne : bK ≠ bB) (hid : Id32 id) (ht : Tabs w0) :
    Calls Tryz.prog 57 #[.agg (u8s id), .pointer (some ⟨bB, 0, none⟩), .pointer (some ⟨bK, 0, none⟩)] w fun e w' => e = .returned (.tuple #[((Pk.fnd kn id).map Pk.It.v).getD zItem, .bool (Pk.fnd kn id).isSome]) ∧ ByS w' bB kn ∧ Kpt (fun x => x = bB) w w' := by
  obtain ⟨A, c, hbk, hrl⟩ := hK.open_
  have hrd := hK.rd
  obtain ⟨cs, hcs, hc34, hc1⟩ := fv_agg kn id (fun p hp => by obtain ⟨⟨A1, c1, h, _⟩, _⟩ := hrd p hp; rw [h]; rfl)
  obtain ⟨has, hhas⟩ : ∃ h, h = (Pk.fnd kn id).isSome := ⟨_, rfl⟩
  rw [hcs, ← hhas]
  have HCS := Lib.hid hcs
  have HHAS := Lib.hid hhas
  have HC := Lib.hid hc34
  have H1 := Lib.hid hc1
  clear hcs hhas hc34 hc1
  have hfew := hK.few
  obtain ⟨w2, hw2⟩ : ∃ w2, w2 = (w.alloc (.cells (u8s id) 49)).alloc (.cells (itemC zid nilV 0).toArray 51) := ⟨_, rfl⟩
  have b2 : Below w.heap.size w w2 := hw2 ▸ ((Below.refl _ _).alloc (Nat.le_refl _) _).alloc (by simp) _
  have s2 : w2.heap.size = w.heap.size + 2 := by rw [hw2]; simp
  have HI : Hid (Blk w2 w.heap.size 49 (u8s id)) := Lib.hid (hw2 ▸ (Blk.new w _ _).alloc _)
  have HZ : Hid (Blk w2 (w.heap.size + 1) 51 (itemC zid nilV 0).toArray) := Lib.hid (by rw [hw2]; have h := Blk.new (w.alloc (.cells (u8s id) 49)) 51 (itemC zid nilV 0).toArray; rwa [World.size_alloc] at h)
  have p0 : w2.cell? ⟨bB, 0, none⟩ = some (.map none) := (hB.below b2 hB.lt).cell 0
  have p1 : w2.cell? ⟨bK, 0, none⟩ = some (.slice A kn.length c) := (hbk.below b2 hbk.lt).cell 0
  have HBB := Lib.hid (hB.below b2 hB.lt)
  have HBK := Lib.hid hbk
  have HRL := Lib.hid hrl
  have HRD := Lib.hid hrd
  have HFW := Lib.hid hfew
  have HT := Lib.hid ht
  have H0 := Lib.hid h0
  have HLO := Lib.hid hlo
  have HL := Lib.hid hid
  have HB2 := Lib.hid b2
  have HLB := Lib.hid hB.lt
  have HNE := Lib.hid hne
  have HF4 : Hid (FW w ((w2.alloc (.map #[] 0)).setCell ⟨bB, 0, none⟩ (.map (some (w.heap.size + 2)))) bB (w.heap.size + 2) kn id 0) := Lib.hid (by
    have hlt := hB.lt
    have g4 : (w2.alloc (.map #[] 0)).grownBy ((w2.alloc (.map #[] 0)).setCell ⟨bB, 0, none⟩ (.map (some (w.heap.size + 2)))) (some bB) := grown_cell _ _ _ _
    have hM := MapO.made w2
    rw [s2] at hM
    have b3 : Below w.heap.size w (w2.alloc (.map #[] 0)) := b2.alloc (by omega) _
    refine ⟨(hM.kept g4 (fun e => by injection e with e; omega)).ext fun x _ => rfl, ?_, ?_, ?_, ?_, Nat.le_refl _⟩
    · have h := ((hB.below b2 hB.lt).alloc (.map #[] 0)).set_ 0 (.map (some (w.heap.size + 2)))
      exact h
    · exact (Kpt.of_below b3).trans (Kpt.of_grown g4 rfl)
    · exact (HI.out.alloc _).grown g4 (fun e => by injection e with e; omega)
    · exact (HZ.out.alloc _).grown g4 (fun e => by injection e with e; omega))
  have p2 : (w2.alloc (.map #[] 0)).cell? ⟨bB, 0, none⟩ = some (.map none) := ((hB.below b2 hB.lt).alloc _).cell 0
  have z2 : (w2.alloc (.map #[] 0)).frozen? ⟨bB, 0, none⟩ = false := ((hB.below b2 hB.lt).alloc _).frozen 0
  have p3 : ((w2.alloc (.map #[] 0)).setCell ⟨bB, 0, none⟩ (.map (some (w.heap.size + 2)))).cell? ⟨bK, 0, none⟩ = some (.slice A kn.length c) := (((hbk.below b2 hbk.lt).alloc _).far (p := ⟨bB, 0, none⟩) hne _).cell 0
  have e2 := hw2.symm
  have em := map_none w2
  have mk := make_map kn.length w2
  clear hB hK hbk hrl hrd hfew hid hw2 ht h0 hlo b2 hne
  go_enter Tryz.func57, Tryz.ntmps57
  go_wp2_with (with_reducible (show wpList _ _ _ (Oper.mk _ (Op.load 71 _) _ _ _ _ :: _) _ _); refine pause ?_)
  unfold Paused
  change wpList _ _ _ _ _ ((w.alloc (.cells (u8s id) 49)).alloc (.cells (itemC zid nilV 0).toArray 51))
  rw [e2]
  go_wp2
  have P3 := Lib.hid p3
  have s2' : w2.heap.size = w.heap.size + 2 := s2
  generalize (w2.alloc (.map #[] 0)).setCell ⟨bB, 0, none⟩ (.map (some (w.heap.size + 2))) = w4 at HF4 P3 p3 ⊢
  clear p0 p1 p2 z2 p3 em mk HBB HI HZ HB2 e2 s2'
  go_loopw [18] (fun i wr => ∃ k : Nat, k ≤ kn.length ∧ i = .int .i64 k ∧ Hid (FW w wr bB (w.heap.size + 2) kn id k)) (fun i _ => kn.length - (intOf i).toNat)
  case atStart => exact ⟨0, by omega, rfl, HF4⟩
  case round =>
    obtain ⟨k, hk, rfl, HF⟩ := hrel
    by_cases hlt : k < kn.length
    · obtain ⟨b, o, rfl, hbl, hcell⟩ := HRL.out (by omega)
      have hlow : Below w0.heap.size w0 wr := low_kpt H0.out HF.out.kpt (fun x hx => by have := HLO.out; omega)
      obtain ⟨p, hp⟩ : ∃ p : Pk.It, kn[k] = p := ⟨_, rfl⟩
      have HRp := HRD.out p (hp ▸ List.getElem_mem hlt)
      obtain ⟨A1, c1, hval⟩ : ∃ A1 c1, p.val = .slice A1 p.text.length c1 := by obtain ⟨⟨A1, c1, h, _⟩, _⟩ := HRp; exact ⟨A1, c1, h⟩
      have pc : wr.cell? ⟨b, o + k, none⟩ = some (.slice A1 p.text.length c1) := by rw [← hval, ← hp]; exact (hlow.cell (p := ⟨b, o + k, none⟩) hbl).trans (hcell k hlt)
      have CID := oid_any p.text (.slice A1 p.text.length c1) wr (by rw [← hval]; exact HRp.1.below hlow (Nat.le_refl _)) HRp.2.1 (HT.out.below hlow (Nat.le_refl _)) (by have := HRp.2.2.2; omega)
      have HLT := Lib.hid hlt
      have HP := Lib.hid hp
      have HPV : Hid (p.v = .agg (itemC (Sha.sum p.text) (.slice A1 p.text.length c1) 0).toArray) := Lib.hid (by unfold Pk.It.v; rw [hval, HRp.2.2.1])
      have HSU : Hid (Sha.sum p.text = Sha.sum p.text) := Lib.hid rfl
      have HS := Lib.hid (sum_id p.text)
      generalize hsu : Sha.sum p.text = su at CID HPV HS HSU
      have HSE := Lib.hid hsu
      generalize p.text.length = n1 at pc CID HPV hval
      clear hsu hval HRp hcell hlow hp HSU
      have i1 : ((k : Nat) : Int) < kn.length := by omega
      have i2 : (0 : Int) ≤ ((k : Nat) : Int) := by omega
      have i3 : ((k : Nat) : Int) < 100 := by have := HFW.out; omega
      go_wp2_with (go_at_call 58; refine CID.mono ?_; rintro e w5 ⟨rfl, hb5⟩; refine pause ?_)
      unfold Paused
      have HF5 := Lib.hid (HF.out.below hb5)
      clear hb5 CID pc
      go_wp2_with (with_reducible (show wpList _ _ _ (Oper.mk _ (Op.build 51 _) _ _ _ _ :: _) _ _); refine pause ?_)
      unfold Paused
      refine wpList_buildK (by rfl) 51 _ (by rfl) [(0, .agg (u8s su)), (1, .slice A1 n1 c1)] (by kernel_rfl) _ (item_built HS.out _ rfl) ?_
      go_wp2_with (with_reducible (show wpList _ _ _ (Oper.mk _ (Op.store 51 _ _) _ _ _ _ :: _) _ _); refine pause ?_)
      unfold Paused
      change wpList _ _ _ _ _ (w5.alloc (.cells (itemC zid nilV 0).toArray 51))
      refine wpList_store_row (by rfl) 51 (.tmp 8) (.tmp 25) (by rfl) w5.heap.size (itemC su (.slice A1 n1 c1) 0).toArray (by rfl) (by rfl) 51 (itemC zid nilV 0).toArray (Blk.new w5 _ _) (by rw [List.size_toArray, itemC_len HS.out]; exact item_size) (by rw [List.size_toArray, List.size_toArray, itemC_len HS.out]; rfl) (itemC_one rfl 0) ?_
      have HB6 : Hid (Below w5.heap.size w5 ((w5.alloc (.cells (itemC zid nilV 0).toArray 51)).setRow w5.heap.size (itemC su (.slice A1 n1 c1) 0).toArray)) := Lib.hid (below_row ((Below.refl _ _).alloc (Nat.le_refl _) _) (Nat.le_refl _) _)
      have HX6 : Hid (Blk ((w5.alloc (.cells (itemC zid nilV 0).toArray 51)).setRow w5.heap.size (itemC su (.slice A1 n1 c1) 0).toArray) w5.heap.size 51 (itemC su (.slice A1 n1 c1) 0).toArray) := Lib.hid ((Blk.new w5 _ _).row _)
      generalize (w5.alloc (.cells (itemC zid nilV 0).toArray 51)).setRow w5.heap.size (itemC su (.slice A1 n1 c1) 0).toArray = w6 at HB6 HX6 ⊢
      have HF6 := Lib.hid (HF5.out.below HB6.out)
      clear HF5 HB6
      generalize w5.heap.size = g8 at HX6 ⊢
      have p6 : w6.cell? ⟨bB, 0, none⟩ = some (.map (some (w.heap.size + 2))) := HF6.out.box.cell 0
      obtain ⟨w7, hrun, hm7, hg7⟩ := HF6.out.map.store Tryz.underlying71 (by have := HFW.out; unfold maxLen; omega) HS.out (.agg (itemC su (.slice A1 n1 c1) 0).toArray)
      have HF7 : Hid (FW w w7 bB (w.heap.size + 2) kn id (k + 1)) := Lib.hid (HF6.out.put HLT.out HLB.out (by rw [HP.out, HPV.out, HSE.out]; exact hm7) hg7)
      have hrun' : (Instr.mapUpdate 71 (.map (some (w.heap.size + 2))) (.agg (cellsB su).toArray) (.agg (itemC su (.slice A1 n1 c1) 0).toArray)).run Tryz.prog w6 = .ok () w7 := hrun
      clear hm7 hg7 hrun
      simp only [Act.put]
      go_wp2_with (with_reducible (show wpList _ _ _ (Oper.mk _ (Op.load 49 _) _ _ _ _ :: _) _ _); refine pause ?_)
      unfold Paused
      refine wpList_mid_w (by rfl) 49 (.tmp 27) (by rfl) g8 0 (by rfl) _ _ (item_idx HX6.out) Tryz.underlying49 (by rfl) (by rw [cellsB_len, HS.out.1]; exact oid_load) ?_
      go_wp2_with (with_reducible (show wpList _ _ _ (Oper.mk _ (Op.load 51 _) _ _ _ _ :: _) _ _); refine pause ?_)
      unfold Paused
      refine wpList_row_w (by rfl) 51 (.tmp 8) (by rfl) g8 (by rfl) 51 _ _ HX6.out Tryz.underlying51 (by rfl) (by rw [List.size_toArray, itemC_len HS.out]; exact item_size) ?_
      go_wp2
      go_roundw
      case rel => exact ⟨k + 1, by omega, by go_num, HF7⟩
      case measure => simp [intOf]; omega
    · obtain rfl : k = kn.length := by omega
      have HM : Hid (MapO wr (w.heap.size + 2) kn.length (fun id => (Pk.fnd kn id).map Pk.It.v)) := Lib.hid (by have h := HF.out.map; rwa [List.take_of_length_le (Nat.le_refl _)] at h)
      have p0 : wr.cell? ⟨bB, 0, none⟩ = some (.map (some (w.heap.size + 2))) := HF.out.box.cell 0
      have q0 := HM.out.look_ok Tryz.underlying71 (zeroItem wr) HL.out
      rw [HCS.out, Option.isSome_map, ← HHAS.out] at q0
      have HB3 : Hid (ByS wr bB kn) := Lib.hid (Or.inr ⟨_, _, HF.out.box, by have := HLB.out; omega, HM.out⟩)
      have ik : ¬ ((kn.length : Nat) : Int) < kn.length := by omega
      go_wp2_with (with_reducible (show wpList _ _ _ (Oper.mk _ (Op.load 49 _) _ _ _ _ :: _) _ _); refine pause ?_)
      unfold Paused
      refine wpList_row_w (by rfl) 49 (.tmp 3) (by rfl) w.heap.size (by rfl) 49 (u8s id) _ HF.out.idb Tryz.underlying49 (by rfl) (by rw [u8s_size, HL.out.1]; exact oid_load) ?_
      go_wp2_with (with_reducible (show wpList _ _ _ (Oper.mk _ (Op.store 51 _ _) _ _ _ _ :: _) _ _); refine pause ?_)
      unfold Paused
      change wpList _ _ _ _ _ (wr.alloc (.cells (itemC zid nilV 0).toArray 51))
      refine wpList_store_row (by rfl) 51 (.tmp 9) (.tmp 35) (by rfl) wr.heap.size cs (by rfl) (by rfl) 51 (itemC zid nilV 0).toArray (Blk.new wr _ _) (by rw [HC.out]; exact item_size) (by rw [HC.out]; rfl) H1.out ?_
      have hb3 : Below wr.heap.size wr ((wr.alloc (.cells (itemC zid nilV 0).toArray 51)).setRow wr.heap.size cs) := below_row ((Below.refl _ _).alloc (Nat.le_refl _) _) (Nat.le_refl _) cs
      have HX3 : Hid (Blk ((wr.alloc (.cells (itemC zid nilV 0).toArray 51)).setRow wr.heap.size cs) wr.heap.size 51 cs) := Lib.hid ((Blk.new wr _ _).row cs)
      have HZ3 := Lib.hid (HF.out.zb.below hb3 HF.out.zb.lt)
      have HY3 := Lib.hid (HB3.out.kpt (Kpt.of_below (S := fun _ => False) hb3) (fun _ _ h => h))
      have HK3 := Lib.hid (HF.out.kpt.trans (Kpt.of_below hb3))
      have HG : Hid (w.heap.size + 1 < wr.heap.size) := Lib.hid HF.out.zb.lt
      generalize (wr.alloc (.cells (itemC zid nilV 0).toArray 51)).setRow wr.heap.size cs = w3 at HX3 HZ3 HY3 HK3 ⊢
      clear q0 p0 hb3
      generalize wr.heap.size = g9 at HX3 HG ⊢
      simp only [Act.put]
      go_wp2_with (with_reducible (show wpList _ _ _ (Oper.mk _ (Op.load 51 _) _ _ _ _ :: _) _ _); refine pause ?_)
      unfold Paused
      refine wpList_row_w (by rfl) 51 (.tmp 9) (by rfl) g9 (by rfl) 51 cs _ HX3.out Tryz.underlying51 (by rfl) (by rw [HC.out]; exact item_size) ?_
      go_wp2_with (with_reducible (show wpList _ _ _ (Oper.mk _ (Op.store 51 _ _) _ _ _ _ :: _) _ _); refine pause ?_)
      unfold Paused
      refine wpList_store_row (by rfl) 51 (.tmp 4) (.tmp 37) (by rfl) (w.heap.size + 1) cs (by rfl) (by rfl) 51 (itemC zid nilV 0).toArray HZ3.out (by rw [HC.out]; exact item_size) (by rw [HC.out]; rfl) H1.out ?_
      have HX4 := Lib.hid (HZ3.out.row cs)
      have hg4 : w3.grownBy (w3.setRow (w.heap.size + 1) cs) (some (w.heap.size + 1)) := only_setRow (World.grownBy.refl w3 _) (Or.inl rfl) _
      have HK4 : Hid (Kpt (fun x => x = bB) w (w3.setRow (w.heap.size + 1) cs)) := Lib.hid (Kpt.old HK3.out (Kpt.of_grown (S := fun x => x = w.heap.size + 1) hg4 rfl) (fun x hx hl => by omega))
      have HY4 : Hid (ByS (w3.setRow (w.heap.size + 1) cs) bB kn) := Lib.hid (by
        rcases HY3.out with h | ⟨m, n, h1, h2, h3⟩
        · exact Or.inl (h.grown hg4 (fun e => by injection e with e; have := HLB.out; omega))
        · refine Or.inr ⟨m, n, h1.grown hg4 (fun e => by injection e with e; have := HLB.out; omega), h2, h3.kept hg4 (fun e => ?_)⟩
          injection e with e
          obtain ⟨es, ck, hm⟩ := h3.is
          rw [e, HZ3.out] at hm
          cases hm)
      clear hg4
      generalize w3.setRow (w.heap.size + 1) cs = w4 at HX4 HK4 HY4 ⊢
      simp only [Act.put]
      go_wp2
      exact bodyPost_ret (v := .tuple #[.agg cs, .bool has]) (resultsP2 (t := 4) (s := 5) rfl (by rfl) HX4.out HC.out) rfl ⟨rfl, HY4.out, HK4.out⟩
theorem find1_any (bB bK : Nat) (kn : List Pk.It) (id : List Nat) (w0 w : World) (hB : ByS w bB kn) (hK : KnS w0 w bK kn) (h0 : Below w0.heap.size w0 w) (hlo : w0.heap.size ≤ bB) (hne : bK ≠ bB) (hid : Id32 id) (ht : Tabs w0) :
    Calls Tryz.prog 57 #[.agg (u8s id), .pointer (some ⟨bB, 0, none⟩), .pointer (some ⟨bK, 0, none⟩)] w fun e w' => e = .returned (.tuple #[((Pk.fnd kn id).map Pk.It.v).getD zItem, .bool (Pk.fnd kn id).isSome]) ∧ ByS w' bB kn ∧ Kpt (fun x => x = bB) w w' := by
  rcases hB with h | ⟨m, n, h1, h2, h3⟩
  · exact find1_nil bB bK kn id w0 w h hK h0 hlo hne hid ht
  · exact (find1_has bB bK m n kn id w h1 h3 (fun p hp => by obtain ⟨⟨A1, c1, h, _⟩, _⟩ := hK.rd p hp; rw [h]; rfl) hid).mono fun e w' ⟨he, hb⟩ =>
      ⟨he, ByS.kpt (Or.inr ⟨m, n, h1, h2, h3⟩) (Kpt.of_below (S := fun _ => False) hb) (fun _ _ h => h), Kpt.of_below hb⟩
end Go.Proofs.YtolfphfdeccleaaGreatDoor
/- An object that is right, and isn't there yet, is admitted. -/
namespace Go.Proofs.YtolfphfdeccleaaGreatDoor
open Go Go.RowKit
/-- the error values that layer 8's calls give -/
def KSents (w : World) (a : Nat → Addr) : Prop := ∀ k, (k = 0 ∨ k = 1 ∨ k = 2 ∨ k = 3 ∨ k = 6 ∨ k = 7 ∨ k = 8 ∨ k = 12 ∨ k = 18 ∨ k = 19 ∨ k = 21) → SentAt w (sgs.getD k 0) (stexts.getD k []) (a k)
theorem KSents.below {w w' : World} {a : Nat → Addr} (h : KSents w a) {B : Nat} (hb : Below B w w') (hB : w.heap.size ≤ B) : KSents w' a := fun k hk => (h k hk).below hb hB
theorem KSents.a {w : World} {a : Nat → Addr} (h : KSents w a) : ASents w a := fun k hk => h k (by omega)
theorem KSents.p {w : World} {a : Nat → Addr} (h : KSents w a) : PSents w a := ⟨(h 1 (by omega)).var, (h 3 (by omega)).var, (h 6 (by omega)).var⟩
theorem MapO.below' {w w' : World} {b n : Nat} {f : List Nat → Option Value} (h : MapO w b n f) (hb : Below w.heap.size w w') : MapO w' b n f := h.below hb
theorem oc_bytes {xs : List Nat} (h : Sha.Byte xs) : Oc.bytes xs := Oc.bytes_of h
theorem zItem_size : ((itemC zid nilV 0).toArray : Array Value).size = 34 := by kernel_rfl
theorem obj36 {cs : Array Value} (h : cs.size = 36) : (Tryz.prog.info? 145).map (·.size) = some cs.size := by rw [h]; kernel_rfl
set_option maxRecDepth 100000 in
set_option maxHeartbeats 2000000 in
theorem admit_err (mb n c : Nat) (A : Option Addr) (ae : Addr) (w : World)
    (hP : ∀ w', Below w.heap.size w w' → Calls Tryz.prog 70 #[.slice A n c] w' fun e w'' => e = .returned (.tuple #[.agg zOc, ev ae]) ∧ Below w'.heap.size w' w'') :
    Calls Tryz.prog 47 #[.map (some mb), .slice A n c] w fun e w' => e = .returned (.tuple #[zItem, ev ae]) ∧ Below w.heap.size w w' := by
  obtain ⟨w1, hw1⟩ : ∃ w1, w1 = w.alloc (.cells (itemC zid nilV 0).toArray 51) := ⟨_, rfl⟩
  have HB1 : Hid (Below w.heap.size w w1) := Lib.hid (hw1 ▸ (Below.refl _ _).alloc (Nat.le_refl _) _)
  have HZ1 : Hid (Blk w1 w.heap.size 51 (itemC zid nilV 0).toArray) := Lib.hid (hw1 ▸ Blk.new w _ _)
  have CP := hP w1 HB1.out
  have e1 := hw1.symm
  clear hP hw1
  go_enter Tryz.func47, Tryz.ntmps47
  go_wp2_with (go_at_call 70; refine pause ?_)
  unfold Paused
  change Calls _ _ _ (w.alloc (.cells (itemC zid nilV 0).toArray 51)) _
  rw [e1]
  refine CP.mono ?_
  rintro e w2 ⟨rfl, hb2⟩
  have HB2 := Lib.hid (below_next HB1.out hb2)
  have HZ2 := Lib.hid (HZ1.out.below hb2 HZ1.out.lt)
  clear hb2 CP
  go_wp2_with (with_reducible (show wpList _ _ _ (Oper.mk _ (Op.store 145 _ _) _ _ _ _ :: _) _ _); refine pause ?_)
  unfold Paused
  change wpList _ _ _ _ _ (w2.alloc (.cells zOc 145))
  refine wpList_store_row (by rfl) 145 (.tmp 6) (.tmp 14) (by rfl) w2.heap.size zOc (by rfl) (by rfl) 145 zOc (Blk.new w2 _ _) (obj36 (by kernel_rfl)) (by rfl) (by kernel_rfl) ?_
  have b3 : Below w2.heap.size w2 ((w2.alloc (.cells zOc 145)).setRow w2.heap.size zOc) := below_row ((Below.refl _ _).alloc (Nat.le_refl _) _) (Nat.le_refl _) _
  have HB3 := Lib.hid (below_next HB2.out b3)
  have HZ3 := Lib.hid (HZ2.out.below b3 HZ2.out.lt)
  clear b3
  generalize (w2.alloc (.cells zOc 145)).setRow w2.heap.size zOc = w3 at HB3 HZ3 ⊢
  simp only [Act.put]
  go_wp2_with (with_reducible (show wpList _ _ _ (Oper.mk _ (Op.build 51 _) _ _ _ _ :: _) _ _); refine pause ?_)
  unfold Paused
  refine wpList_buildK (by rfl) 51 _ (by rfl) [] (by kernel_rfl) _ item_empty ?_
  go_wp2_with (with_reducible (show wpList _ _ _ (Oper.mk _ (Op.store 51 _ _) _ _ _ _ :: _) _ _); refine pause ?_)
  unfold Paused
  refine wpList_store_row (by rfl) 51 (.tmp 4) (.tmp 18) (by rfl) w.heap.size (itemC zid nilV 0).toArray (by rfl) (by rfl) 51 (itemC zid nilV 0).toArray HZ3.out (by rw [zItem_size]; exact item_size) (by rfl) (itemC_one rfl 0) ?_
  have HX := Lib.hid (HZ3.out.row (itemC zid nilV 0).toArray)
  have HBx := Lib.hid (below_row HB3.out (Nat.le_refl _) (itemC zid nilV 0).toArray)
  generalize w3.setRow w.heap.size (itemC zid nilV 0).toArray = w4 at HX HBx ⊢
  simp only [Act.put]
  go_wp2
  exact bodyPost_ret (v := .tuple #[zItem, ev ae]) (resultsP2 (t := 4) (s := 5) rfl (by rfl) HX.out zItem_size) rfl ⟨rfl, HBx.out⟩
/-- what Parse leaves where the bytes are an object -/
def ParseOk (A : Option Addr) (n c : Nat) (w : World) : Prop := ∀ w', Below w.heap.size w w' → Calls Tryz.prog 70 #[.slice A n c] w' fun e w'' => ∃ cs : Array Value, e = .returned (.tuple #[.agg cs, .nilIface]) ∧ cs.size = 36 ∧ cs.all (·.oneCell') = true ∧ Below w'.heap.size w' w''
theorem parseOk_of {o : Ob} {xs : List Nat} {a : Nat → Addr} {A : Option Addr} {n c : Nat} {w : World} (hv : Rd w (.slice A n c) xs) (hb : Sha.Byte xs) (hz : xs.length ≤ 300) (hS : KSents w a) (hp : Ob.parse xs = .ok o) : ParseOk A n c w := fun w' hw =>
  (oparse_ok o xs a _ w' (hv.below hw (Nat.le_refl _)) (oc_bytes hb) hz (hS.p.at_ hw) hp).mono fun e w'' ⟨cs, T, tc, E, ec, P, pc, he, hf, _, ho, hbb⟩ => ⟨cs, he, by rw [ho.cells, cellsOb_size _ _ _ _ _ hf.target.1], ho.one, hbb⟩
set_option maxRecDepth 100000 in
set_option maxHeartbeats 2000000 in
theorem admit_in (mb nm n c : Nat) (A : Option Addr) (xs : List Nat) (out : List Pk.It) (_aD : Addr) (w : World) (hv : Rd w (.slice A n c) xs) (hb : Sha.Byte xs) (hz : xs.length ≤ 300) (ht : Tabs w) (hP : ParseOk A n c w) (hM : MapO w mb nm (fun id => (Pk.fnd out id).map Pk.It.v)) (_ho : ∀ p ∈ out, p.val.oneCell' = true) (hf : Pk.fnd out (Sha.sum xs) = none) :
    Calls Tryz.prog 47 #[.map (some mb), .slice A n c] w fun e w' => e = .returned (.tuple #[.agg (itemC (Sha.sum xs) (.slice A n c) 0).toArray, .nilIface]) ∧ Below w.heap.size w w' := by
  obtain ⟨w1, hw1⟩ : ∃ w1, w1 = w.alloc (.cells (itemC zid nilV 0).toArray 51) := ⟨_, rfl⟩
  have HB1 : Hid (Below w.heap.size w w1) := Lib.hid (hw1 ▸ (Below.refl _ _).alloc (Nat.le_refl _) _)
  have HZ1 : Hid (Blk w1 w.heap.size 51 (itemC zid nilV 0).toArray) := Lib.hid (hw1 ▸ Blk.new w _ _)
  have CP := hP w1 HB1.out
  have e1 := hw1.symm
  have CID := fun w' (hw : Below w.heap.size w w') => oid_any xs (.slice A n c) w' (hv.below hw (Nat.le_refl _)) hb (ht.below hw (Nat.le_refl _)) (by omega)
  have HF := Lib.hid hf
  have HM := Lib.hid hM
  have HS := Lib.hid (sum_id xs)
  have LK : ∀ w', Below w.heap.size w w' → (Instr.lookup 72 (.map (some mb)) (.agg (u8s (Sha.sum xs))) true).run Tryz.prog w' = .ok (.tuple #[zItem, .bool false]) w' := fun w' hw => by
    have h := (hM.below' hw).look_ok Tryz.underlying72 (zeroItem w') (sum_id xs)
    rw [show (Pk.fnd out (Sha.sum xs)).map Pk.It.v = none by rw [hf]; rfl] at h
    exact h
  obtain ⟨su, hsu⟩ : ∃ su, su = Sha.sum xs := ⟨_, rfl⟩
  rw [← hsu] at CID LK HS ⊢
  clear hP hw1 hv hb hz ht hM _ho hf hsu HF
  go_enter Tryz.func47, Tryz.ntmps47
  go_wp2_with (go_at_call 70; refine pause ?_)
  unfold Paused
  change Calls _ _ _ (w.alloc (.cells (itemC zid nilV 0).toArray 51)) _
  rw [e1]
  refine CP.mono ?_
  rintro e w2 ⟨cs, rfl, h36, hc1, hb2⟩
  have HC := Lib.hid h36
  have H1 := Lib.hid hc1
  have HB2 := Lib.hid (below_next HB1.out hb2)
  have HZ2 := Lib.hid (HZ1.out.below hb2 HZ1.out.lt)
  clear hb2 CP h36 hc1
  go_wp2_with (with_reducible (show wpList _ _ _ (Oper.mk _ (Op.store 145 _ _) _ _ _ _ :: _) _ _); refine pause ?_)
  unfold Paused
  change wpList _ _ _ _ _ (w2.alloc (.cells zOc 145))
  refine wpList_store_row (by rfl) 145 (.tmp 6) (.tmp 14) (by rfl) w2.heap.size cs (by rfl) (by rfl) 145 zOc (Blk.new w2 _ _) (obj36 HC.out) (by rw [HC.out]; rfl) H1.out ?_
  have b3 : Below w2.heap.size w2 ((w2.alloc (.cells zOc 145)).setRow w2.heap.size cs) := below_row ((Below.refl _ _).alloc (Nat.le_refl _) _) (Nat.le_refl _) _
  have HB3 := Lib.hid (below_next HB2.out b3)
  have HZ3 := Lib.hid (HZ2.out.below b3 HZ2.out.lt)
  clear b3
  generalize (w2.alloc (.cells zOc 145)).setRow w2.heap.size cs = w3 at HB3 HZ3 ⊢
  simp only [Act.put]
  go_wp2_with (go_at_call 58; refine pause ?_)
  unfold Paused
  refine (CID _ HB3.out).mono ?_
  rintro e w5 ⟨rfl, hb5⟩
  have HB5 := Lib.hid (below_next HB3.out hb5)
  have HZ5 := Lib.hid (HZ3.out.below hb5 HZ3.out.lt)
  clear hb5 CID
  go_wp2_with (with_reducible (show wpList _ _ _ (Oper.mk _ (Op.store 49 _ _) _ _ _ _ :: _) _ _); refine pause ?_)
  unfold Paused
  change wpList _ _ _ _ _ (w5.alloc (.cells (u8s (List.replicate 32 0)) 49))
  refine wpList_store_row (by rfl) 49 (.tmp 8) (.tmp 21) (by rfl) w5.heap.size (u8s su) (by rfl) (by rfl) 49 (u8s (List.replicate 32 0)) (Blk.new w5 _ _) (by rw [u8s_size, HS.out.1]; exact oid_load) (by rw [u8s_size, u8s_size, HS.out.1]; rfl) (u8s_one _) ?_
  have b6 : Below w5.heap.size w5 ((w5.alloc (.cells (u8s (List.replicate 32 0)) 49)).setRow w5.heap.size (u8s su)) := below_row ((Below.refl _ _).alloc (Nat.le_refl _) _) (Nat.le_refl _) _
  have HB6 := Lib.hid (below_next HB5.out b6)
  have HZ6 := Lib.hid (HZ5.out.below b6 HZ5.out.lt)
  have HI6 : Hid (Blk ((w5.alloc (.cells (u8s (List.replicate 32 0)) 49)).setRow w5.heap.size (u8s su)) w5.heap.size 49 (u8s su)) := Lib.hid ((Blk.new w5 _ _).row _)
  clear b6
  generalize (w5.alloc (.cells (u8s (List.replicate 32 0)) 49)).setRow w5.heap.size (u8s su) = w6 at HB6 HZ6 HI6 ⊢
  generalize w5.heap.size = g8 at HI6 ⊢
  simp only [Act.put]
  have q6 := LK w6 HB6.out
  go_wp2_with (with_reducible (show wpList _ _ _ (Oper.mk _ (Op.load 49 _) _ _ _ _ :: _) _ _); refine pause ?_)
  unfold Paused
  refine wpList_row_w (by rfl) 49 (.tmp 8) (by rfl) g8 (by rfl) 49 (u8s su) _ HI6.out Tryz.underlying49 (by rfl) (by rw [u8s_size, HS.out.1]; exact oid_load) ?_
  go_wp2_with (with_reducible (show wpList _ _ _ (Oper.mk _ (Op.store 51 _ _) _ _ _ _ :: _) _ _); refine pause ?_)
  unfold Paused
  change wpList _ _ _ _ _ (w6.alloc (.cells (itemC zid nilV 0).toArray 51))
  refine wpList_store_row (by rfl) 51 (.tmp 9) (.tmp 26) (by rfl) w6.heap.size (itemC zid nilV 0).toArray (by rfl) (by rfl) 51 (itemC zid nilV 0).toArray (Blk.new w6 _ _) (by rw [zItem_size]; exact item_size) (by rfl) (itemC_one rfl 0) ?_
  have b7 : Below w6.heap.size w6 ((w6.alloc (.cells (itemC zid nilV 0).toArray 51)).setRow w6.heap.size (itemC zid nilV 0).toArray) := below_row ((Below.refl _ _).alloc (Nat.le_refl _) _) (Nat.le_refl _) _
  have HB7 := Lib.hid (below_next HB6.out b7)
  have HZ7 := Lib.hid (HZ6.out.below b7 HZ6.out.lt)
  have HI7 := Lib.hid (HI6.out.below b7 HI6.out.lt)
  clear b7 q6 LK
  generalize (w6.alloc (.cells (itemC zid nilV 0).toArray 51)).setRow w6.heap.size (itemC zid nilV 0).toArray = w7 at HB7 HZ7 HI7 ⊢
  generalize w6.heap.size = g9
  simp only [Act.put]
  go_wp2_with (with_reducible (show wpList _ _ _ (Oper.mk _ (Op.load 49 _) _ _ _ _ :: _) _ _); refine pause ?_)
  unfold Paused
  refine wpList_row_w (by rfl) 49 (.tmp 8) (by rfl) g8 (by rfl) 49 (u8s su) _ HI7.out Tryz.underlying49 (by rfl) (by rw [u8s_size, HS.out.1]; exact oid_load) ?_
  go_wp2_with (with_reducible (show wpList _ _ _ (Oper.mk _ (Op.build 51 _) _ _ _ _ :: _) _ _); refine pause ?_)
  unfold Paused
  refine wpList_buildK (by rfl) 51 _ (by rfl) [(0, .agg (u8s su)), (1, .slice A n c)] (by kernel_rfl) _ (item_built HS.out _ rfl) ?_
  go_wp2_with (with_reducible (show wpList _ _ _ (Oper.mk _ (Op.store 51 _ _) _ _ _ _ :: _) _ _); refine pause ?_)
  unfold Paused
  refine wpList_store_row (by rfl) 51 (.tmp 4) (.tmp 33) (by rfl) w.heap.size (itemC su (.slice A n c) 0).toArray (by rfl) (by rfl) 51 (itemC zid nilV 0).toArray HZ7.out (by rw [List.size_toArray, itemC_len HS.out]; exact item_size) (by rw [List.size_toArray, List.size_toArray, itemC_len HS.out]; rfl) (itemC_one rfl 0) ?_
  have HX := Lib.hid (HZ7.out.row (itemC su (.slice A n c) 0).toArray)
  have HBx := Lib.hid (below_row HB7.out (Nat.le_refl _) (itemC su (.slice A n c) 0).toArray)
  generalize w7.setRow w.heap.size (itemC su (.slice A n c) 0).toArray = w8 at HX HBx ⊢
  simp only [Act.put]
  go_wp2
  exact bodyPost_ret (v := .tuple #[.agg (itemC su (.slice A n c) 0).toArray, .nilIface]) (resultsP2 (t := 4) (s := 5) rfl (by rfl) HX.out (by rw [List.size_toArray, itemC_len HS.out])) rfl ⟨rfl, HBx.out⟩

end Go.Proofs.YtolfphfdeccleaaGreatDoor
