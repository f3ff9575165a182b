/- The walk of a message that grows ((*sha.message).add). -/
import Derived.Test.YtdokojlgcplefaaDoorMShaJoins
import Derived.Deep.RegionWith
import Derived.Laws.CopyOwn
namespace Go.Proofs.YtdokojlgcplefaaDoor
open Go Go.RowKit
theorem Tabs.only {w w' : World} {p : Nat} (h : Tabs w) (k : w.grownBy w' (some p)) (h1 : p ≠ 10) (h2 : p ≠ 7) : Tabs w' := by
 obtain ⟨⟨a1, a2⟩, a3, a4⟩ := h
 have hz := k.size
 exact ⟨⟨by omega, by omega⟩, fun i hi => k.cell (a3 i hi) (fun e => by injection e with e; exact h2 e.symm), fun i hi => k.cell (a4 i hi) (fun e => by injection e with e; exact h1 e.symm)⟩
def Took (w : World) (p : Nat) (bs : List Nat) (L : Nat) : Prop := ∃ blk, Sha.Tail bs blk ∧ MsgC w p (Sha.blocks bs (bs.length / 64)) blk (bs.length % 64) L
theorem Took.only {w w' : World} {p : Nat} {bs : List Nat} {L : Nat} (h : Took w p bs L) {B : Nat} (hb : Below B w w') (hp : p < B) : Took w' p bs L := by
 obtain ⟨blk, ht, hm⟩ := h
 exact ⟨blk, ht, hm.below hb hp⟩
theorem Took.part {w : World} {p : Nat} {cu ch bl : List Nat} {L : Nat} (hT : Sha.Tail cu bl) (hc : Sha.Byte ch) (hn : cu.length % 64 + ch.length < 64)
  (h : MsgC w p (Sha.blocks cu (cu.length / 64)) (Sha.lay bl ch (cu.length % 64)) (cu.length % 64 + ch.length) L) : Took w p (cu ++ ch) L := by
 refine ⟨_, hT.part hc hn, ?_⟩
 have hq : (cu ++ ch).length / 64 = cu.length / 64 := by rw [List.length_append]; omega
 have hr : (cu ++ ch).length % 64 = cu.length % 64 + ch.length := by rw [List.length_append]; omega
 rw [hq, hr, Sha.blocks_app _ _ _ (by omega)]
 exact h
theorem Took.whole {w : World} {p : Nat} {cu ch bl : List Nat} {L : Nat} (hT : Sha.Tail cu bl) (hc : Sha.Byte ch) (hn : cu.length % 64 + ch.length = 64)
  (h : MsgC w p (Sha.block (Sha.blocks cu (cu.length / 64)) (Sha.lay bl ch (cu.length % 64))) (Sha.lay bl ch (cu.length % 64)) 0 L) : Took w p (cu ++ ch) L := by
 obtain ⟨h1, h2⟩ := hT.whole hn
 have hl := hT.len
 refine ⟨_, Sha.Tail.fresh (blk := Sha.lay bl ch (cu.length % 64)) (by rw [Sha.lay_len (by omega), hl]) (Sha.lay_byte hT.byte hc) h2, ?_⟩
 rw [h1, h2]
 exact h
theorem mix_eight (ws sch : List Nat) (w : World) (hx : ws.length = 8) (hs : sch.length = 64) (hw : Sha.W32 ws) (hsw : Sha.W32 sch) (ht : Tabs w) :
  Calls Tryd.prog 89 #[.agg (u32s ws), .agg (u32s sch)] w fun e w' => ∃ y0 y1 y2 y3 y4 y5 y6 y7 : Nat, Sha.mix ws sch = [y0, y1, y2, y3, y4, y5, y6, y7] ∧
   e = .returned (.agg #[.int .u32 (y0 : Nat), .int .u32 (y1 : Nat), .int .u32 (y2 : Nat), .int .u32 (y3 : Nat), .int .u32 (y4 : Nat), .int .u32 (y5 : Nat), .int .u32 (y6 : Nat), .int .u32 (y7 : Nat)]) ∧ Below w.heap.size w w' :=
 (mix_any ws sch w hx hs hw hsw ht).mono fun e w' h => by
  obtain ⟨y0, y1, y2, y3, y4, y5, y6, y7, hy⟩ := list8 (show (Sha.mix ws sch).length = 8 from rfl)
  exact ⟨y0, y1, y2, y3, y4, y5, y6, y7, hy, by rw [h.1, hy]; rfl, h.2⟩
theorem take_more (ps : List Nat) (j m : Nat) : ps.take (j + m) = ps.take j ++ (ps.drop j).take m := by
 rw [List.take_add]
set_option maxRecDepth 100000 in
set_option maxHeartbeats 2000000 in
theorem add_any (p : Nat) (v : Value) (bs ps : List Nat) (w : World) (hm : Took w p bs bs.length) (hr : RdB w p v ps) (hb : Sha.Byte ps) (ht : Tabs w) (hp1 : p ≠ 10) (hp2 : p ≠ 7) (hsz : bs.length + ps.length < 1152921504606846976) :
  Calls Tryd.prog 83 #[.pointer (some ⟨p, 0, none⟩), v] w fun e w' => e = .returned (.tuple #[]) ∧ Took w' p (bs ++ ps) (bs ++ ps).length ∧ w.grownBy w' (some p) := by
 obtain ⟨blk, htl, hM⟩ := hm
 have HR := Lib.hid hr
 obtain ⟨A, c, rfl, hc, hA⟩ := hr
 have cl := hM.length
 have cz := hM.frozen 73
 go_enter Tryd.func83, Tryd.ntmps83
 go_wp2
 clear cl cz
 have hM1 := hM.setLength (v := (bs.length : Int) + ps.length) (L' := (bs ++ ps).length) (by simp)
 have hO1 := only_setCell (World.grownBy.refl w (some p)) (p := ⟨p, 73, none⟩) (.inl rfl) (.int .u64 ((bs.length : Int) + ps.length))
 generalize w.setCell ⟨p, 73, none⟩ (.int .u64 ((bs.length : Int) + ps.length)) = w1 at hM1 hO1 ⊢
 have hLz : (bs ++ ps).length = bs.length + ps.length := List.length_append
 generalize (bs ++ ps).length = L at hM1 hLz ⊢
 have HLz := Lib.hid hLz
 clear hLz
 go_loopw [1] (fun s wr => ∃ j, j ≤ ps.length ∧ RdB wr p s (ps.drop j) ∧ Took wr p (bs ++ ps.take j) L ∧ w.grownBy wr (some p)) (fun s _ => match s with | .slice _ n _ => n | _ => 0)
 case atStart => exact ⟨0, Nat.zero_le _, HR.out.only hO1, ⟨blk, by simpa using htl, by simpa using hM1⟩, hO1⟩
 case round =>
  obtain ⟨j, hj, hrd, ⟨bl, hT, hC⟩, hO⟩ := hrel
  have htr : Tabs wr := ht.only hO hp1 hp2
  have HD := Lib.hid hrd
  obtain ⟨A1, c1, rfl, hc1, hA1⟩ := hrd
  have HMO : Hid (∀ m, m ≤ (ps.drop j).length → j + m ≤ ps.length ∧ bs ++ ps.take (j + m) = (bs ++ ps.take j) ++ (ps.drop j).take m ∧ ps.drop (j + m) = (ps.drop j).drop m) :=
   Lib.hid fun m hm => ⟨by rw [List.length_drop] at hm; omega, by rw [take_more, List.append_assoc], by rw [List.drop_drop]⟩
  have HJ := Lib.hid (show (ps.drop j).length = ps.length - j from List.length_drop)
  have hbr := hb.drop j
  generalize bs ++ ps.take j = cu at hT hC HMO
  generalize ps.drop j = r at HMO HJ HD hc1 hA1 hbr
  by_cases hlt : 0 < r.length
  ·obtain ⟨b, o, rfl, hbp, hbl, hcell⟩ := hA1 hlt
   clear hA1
   have hf : cu.length % 64 < 64 := Nat.mod_lt _ (by decide)
   obtain ⟨m, hm1, hm2, HM⟩ : ∃ m, m ≤ r.length ∧ cu.length % 64 + m ≤ 64 ∧ Hid (m = Nat.min r.length (64 - cu.length % 64) ∧ 0 < m) :=
    ⟨min r.length (64 - cu.length % 64), by omega, by omega, Lib.hid ⟨rfl, by omega⟩⟩
   obtain ⟨hmo1, hmo2, hmo3⟩ := HMO.out m hm1
   have HM2 := Lib.hid hmo2
   have HM3 := Lib.hid hmo3
   clear hmo2 hmo3 HMO
   have HT := Lib.hid hT
   have HC := Lib.hid hC
   have cf := hC.fill
   have cff := hC.frozen 72
   obtain ⟨ch, hch⟩ : ∃ ch, ch = r.take m := ⟨_, rfl⟩
   have HCH := Lib.hid hch
   have hcl : ch.length = m := by rw [hch, List.length_take]; omega
   have HCL := Lib.hid hcl
   clear hch hcl
   obtain ⟨wlen, hwl⟩ : ∃ q, q = cu.length / 64 := ⟨_, rfl⟩
   rw [← hwl] at HC
   have HWL := Lib.hid hwl
   clear hwl hT hC
   have HF : Hid (MsgC wr p (Sha.blocks cu wlen) bl (cu.length % 64) L ∧ Sha.Tail cu bl) := Lib.hid ⟨HC.out, HT.out⟩
   obtain ⟨f, hff⟩ : ∃ q, q = cu.length % 64 := ⟨_, rfl⟩
   rw [← hff] at hf hm2 HM HC cf
   have HFF := Lib.hid hff
   clear hff
   have hsl1 : ∀ w', (Instr.sliceAt 133 (.pointer (some ⟨p, 8, none⟩)) (some (.int .i64 f)) none none).run Tryd.prog w' = .ok (.slice (some ⟨p, 8 + f, none⟩) (64 - f) (64 - f)) w' := fun w' => by
    rw [run_sliceArrLo (n := 64) (e := 5) (s := 1) Tryd.underlying133 (by kernel_rfl) _ f (by omega) rfl, if_neg (by omega), Addr.add_mid, Nat.mul_one]
   go_wp2
   refine wp_region_still_tail 9 (by kernel_rfl) (by kernel_rfl) ?_
   change wpStill _ _ wr.drew _ _ _
   dsimp only [List.take, List.drop]
   repeat still_step
   refine wpStill_nil ?_
   change wpList _ _ _ _ _ wr.drew
   refine wpList_copy_own rfl (.tmp 25) (.tmp 26) 39 39 rfl 5 Tryd.underlying39 (by kernel_rfl) p (8 + f) (64 - f) (64 - f) ⟨b, o, none⟩ r.length c1 rfl rfl (msgC (Sha.blocks cu wlen) bl f L) 135 HC.out.at_
    (ch.map (fun (n : Nat) => Value.int .u8 (n : Int))) ?hn ?hsrc ?hfit ?h1 ?_
   case hn => rw [List.length_map, HCL.out]; exact HM.out.1
   case hsrc =>
    intro i u hu
    have hi : i < m := by
     have h := (List.getElem?_eq_some_iff.1 hu).1
     rw [List.length_map, HCL.out] at h
     exact h
    rw [Addr.add_mid]
    show wr.cell? _ = _
    rw [hcell i (by omega), ← hu, HCH.out]
    simp [List.getD, hi, show i < r.length by omega]
   case hfit => rw [List.length_map, HCL.out, msgC_size HC.out.len8 HC.out.len64]; omega
   case h1 => intro u hu; obtain ⟨n, _, rfl⟩ := List.mem_map.1 hu; rfl
   rw [List.length_map, HCL.out]
   have hC2 := HC.out.drew.splice (f0 := f) (c := ch) (by rw [HCL.out]; omega) rfl
   have hO2 := only_setRow (only_drew (World.grownBy.refl wr (some p))) (.inl rfl) ((msgC (Sha.blocks cu wlen) bl f L).toList.take (8 + f) ++ (ch.map (fun (n : Nat) => Value.int .u8 (n : Int)) ++ (msgC (Sha.blocks cu wlen) bl f L).toList.drop (8 + f + ch.length))).toArray
   rw [HCL.out] at hC2 hO2
   generalize wr.drew.setRow p _ = w2 at hC2 hO2 ⊢
   have cf2 := hC2.fill
   have cff2 := hC2.frozen 72
   obtain ⟨s2, hs2⟩ : ∃ s2, s2 = Value.slice (if c1 = m then some ⟨b, o, none⟩ else (some (⟨b, o, none⟩ : Addr)).map (·.add m)) (r.length - m) (c1 - m) := ⟨_, rfl⟩
   have hsl2 : ∀ w', (Instr.sliceAt 39 (.slice (some ⟨b, o, none⟩) r.length c1) (some (.int .i64 m)) none none).run Tryd.prog w' = .ok s2 w' := fun w' => by
    rw [hs2]; exact run_sliceLo Tryd.underlying39 (by kernel_rfl) _ _ _ _ hm1 rfl w'
   have hrd2 : RdB w2 p s2 (r.drop m) := by rw [hs2]; exact (HD.out.only hO2).cut hm1
   have HS2 := Lib.hid hs2
   clear hs2 cf cff hcell hsl1
   by_cases hful : f + m = 64
   ·have heq : (((f : Nat) : Int) + ((m : Nat) : Int) == 64) = true := by simp; omega
    have hC3 := hC2.setFill (v := (f : Int) + m) (f' := 64) (by omega)
    have hO3 := only_setCell hO2 (p := ⟨p, 72, none⟩) (.inl rfl) (.int .i64 ((f : Int) + m))
    have HX := Lib.hid hful
    clear hful
    go_wp2
    generalize w2.setCell ⟨p, 72, none⟩ (.int .i64 ((f : Int) + m)) = w3 at hC3 hO3 ⊢
    have hO4 := only_trans hO hO3
    have ht3 : Tabs w3 := ht.only hO4 hp1 hp2
    have HRD := Lib.hid (HD.out.only' hO3 hm1 HS2.out)
    clear hrd2 cf2 cff2 heq hsl2
    have hlt3 := hC3.lt
    have hW32 := Sha.blocks_lt cu wlen
    obtain ⟨x0, x1, x2, x3, x4, x5, x6, x7, hws⟩ := list8 (Sha.blocks_len cu wlen)
    have HWS := Lib.hid hws
    rw [hws] at hC3 hW32
    clear hws
    have hl2 : (Sha.lay bl ch f).length = 64 := hC3.len64
    have hb2 : Sha.Byte (Sha.lay bl ch f) := Sha.lay_byte HF.out.2.byte (by rw [HCH.out]; exact hbr.take m)
    obtain ⟨blk2, hblk2⟩ : ∃ q, q = Sha.lay bl ch f := ⟨_, rfl⟩
    rw [← hblk2] at hl2 hb2 hC3
    have HBK := Lib.hid hblk2
    have HL2 := Lib.hid hl2
    clear hblk2 hl2
    have hinfo : (Tryd.prog.info? 133).map (·.size) = some (blk2.map fun (n : Nat) => Value.int .u8 (n : Int)).length := by rw [List.length_map, HL2.out]; kernel_rfl
    have hrange : w3.drew.rangeAt p 8 (blk2.map fun (n : Nat) => Value.int .u8 (n : Int)) := by
     intro i u hu
     have hi : i < 64 := by
      have h := (List.getElem?_eq_some_iff.1 hu).1
      rw [List.length_map, HL2.out] at h
      exact h
     show w3.cell? _ = _
     rw [hC3.byte i hi, ← hu]
     have := HL2.out
     simp [List.getD, show i < blk2.length by omega]
    have HI := Lib.hid hinfo
    have HG := Lib.hid hrange
    clear hinfo hrange
    have HRW : Hid (∀ w4, Below w3.drew.heap.size w3.drew w4 → w4.rangeAt p 0 [Value.int .u32 (x0 : Nat), .int .u32 (x1 : Nat), .int .u32 (x2 : Nat), .int .u32 (x3 : Nat), .int .u32 (x4 : Nat), .int .u32 (x5 : Nat), .int .u32 (x6 : Nat), .int .u32 (x7 : Nat)]) := by
     refine Lib.hid fun w4 hb4 i u hu => ?_
     have hi : i < 8 := (List.getElem?_eq_some_iff.1 hu).1
     rw [Nat.zero_add, (hC3.drew.below hb4 hlt3).word i hi, ← hu]
     simp only [List.getD]
     rcases i with _ | _ | _ | _ | _ | _ | _ | _ | i <;> first | rfl | omega
    refine wp_region_any (by kernel_rfl) ?_
    change wpAny _ _ _ _ _ _ _ w3.drew
    refine wpAny_take (i := 0) (v := ?_) rfl (by kernel_rfl) (by kernel_rfl) (by kernel_rfl) (fun _ _ _ h => h) (Or.inl ⟨by rfl, ?_⟩) ?_
    rotate_left
    ·intro w; go_simp; with_reducible rfl
    refine wpAny_take (i := 1) (v := ?_) rfl (by kernel_rfl) (by kernel_rfl) (by kernel_rfl) (fun _ _ _ h => h) (Or.inl ⟨by rfl, ?_⟩) ?_
    rotate_left
    ·intro w; go_simp; with_reducible rfl
    refine wpAny_take (i := 2) (v := ?_) rfl (by kernel_rfl) (by kernel_rfl) (by kernel_rfl) (fun _ _ _ h => h) (Or.inl ⟨by rfl, ?_⟩) ?_
    rotate_left
    ·intro w; go_simp; with_reducible rfl
    refine wpAny_take (i := 3) (v := ?_) rfl (by kernel_rfl) (by kernel_rfl) (by kernel_rfl) (fun _ _ _ h => h) (Or.inl ⟨by rfl, ?_⟩) ?_
    rotate_left
    ·intro w; go_simp; with_reducible rfl
    refine wpAny_take (i := 5) (v := ?_) rfl (by kernel_rfl) (by kernel_rfl) (by kernel_rfl) (fun _ _ _ h => h) (Or.inl ⟨by rfl, ?_⟩) ?_
    rotate_left
    ·intro w; go_simp; with_reducible rfl
    refine wpAny_take (i := 6) (v := ?_) rfl (by kernel_rfl) (by kernel_rfl) (by kernel_rfl) (fun _ _ _ h => h) (Or.inl ⟨by rfl, ?_⟩) ?_
    rotate_left
    ·intro w; go_simp; with_reducible rfl
    refine wpAny_take (i := 7) (v := ?_) rfl (by kernel_rfl) (by kernel_rfl) (by kernel_rfl) (fun _ _ _ h => h) (Or.inl ⟨by rfl, ?_⟩) ?_
    rotate_left
    ·intro w; go_simp; with_reducible rfl
    simp only [Act.put, List.getElem_toArray, List.getElem_cons_zero, List.getElem_cons_succ, List.setIfInBounds_toArray, List.set_cons_zero, List.set_cons_succ]
    refine wpAny_ready (rs := [4, 8]) (by kernel_rfl) (by simp) ?_
    refine AllReady.cons rfl (fun K hK => ?_) (AllReady.cons rfl (fun K hK => ?_) AllReady.nil)
    rotate_left
    rw [if_pos (by rfl)]
    refine wp_load_mid 133 _ rfl p 8 rfl _ _ HG.out Tryd.underlying133 rfl HI.out ?_
    refine hK _ _ ?_; clear hK K
    simp only [Act.put, List.getElem_toArray, List.getElem_cons_zero, List.getElem_cons_succ, List.setIfInBounds_toArray, List.set_cons_zero, List.set_cons_succ]
    refine wpAny_ready (rs := [4, 9]) (by kernel_rfl) (by simp) ?_
    refine AllReady.cons rfl (fun K hK => ?_) (AllReady.cons rfl (fun K hK => ?_) AllReady.nil)
    rotate_left
    go_simp
    refine (spread_any blk2 _ HL2.out hb2).mono ?_
    rintro e w4 ⟨rfl, hb4⟩
    dsimp only
    refine hK _ _ ?_; clear hK K
    refine wpAny_ready (rs := [4]) (by kernel_rfl) (by simp) ?_
    refine AllReady.cons rfl (fun K hK => ?_) AllReady.nil
    rw [if_pos (by rfl)]
    refine wp_load_mid 132 _ rfl p 0 rfl _ _ (HRW.out _ hb4) Tryd.underlying132 rfl mix_info ?_
    refine hK _ _ ?_; clear hK K
    simp only [Act.put, List.getElem_toArray, List.getElem_cons_zero, List.getElem_cons_succ, List.setIfInBounds_toArray, List.set_cons_zero, List.set_cons_succ]
    rotate_left
    rw [if_pos (by rfl)]
    refine wp_load_mid 132 _ rfl p 0 rfl _ _ (HRW.out _ (Below.refl _ _)) Tryd.underlying132 rfl mix_info ?_
    refine hK _ _ ?_; clear hK K
    simp only [Act.put, List.getElem_toArray, List.getElem_cons_zero, List.getElem_cons_succ, List.setIfInBounds_toArray, List.set_cons_zero, List.set_cons_succ]
    refine wpAny_ready (rs := [8]) (by kernel_rfl) (by simp) ?_
    refine AllReady.cons rfl (fun K hK => ?_) AllReady.nil
    rw [if_pos (by rfl)]
    refine wp_load_mid 133 _ rfl p 8 rfl _ _ HG.out Tryd.underlying133 rfl HI.out ?_
    refine hK _ _ ?_; clear hK K
    simp only [Act.put, List.getElem_toArray, List.getElem_cons_zero, List.getElem_cons_succ, List.setIfInBounds_toArray, List.set_cons_zero, List.set_cons_succ]
    refine wpAny_ready (rs := [9]) (by kernel_rfl) (by simp) ?_
    refine AllReady.cons rfl (fun K hK => ?_) AllReady.nil
    go_simp
    refine (spread_any blk2 _ HL2.out hb2).mono ?_
    rintro e w4 ⟨rfl, hb4⟩
    dsimp only
    refine hK _ _ ?_; clear hK K
    rotate_left
    rw [if_pos (by rfl)]
    refine wp_load_mid 132 _ rfl p 0 rfl _ _ (HRW.out _ (Below.refl _ _)) Tryd.underlying132 rfl mix_info ?_
    refine hK _ _ ?_; clear hK K
    simp only [Act.put, List.getElem_toArray, List.getElem_cons_zero, List.getElem_cons_succ, List.setIfInBounds_toArray, List.set_cons_zero, List.set_cons_succ]
    refine wpAny_ready (rs := [9]) (by kernel_rfl) (by simp) ?_
    refine AllReady.cons rfl (fun K hK => ?_) AllReady.nil
    go_simp
    refine (spread_any blk2 _ HL2.out hb2).mono ?_
    rintro e w4 ⟨rfl, hb4⟩
    dsimp only
    refine hK _ _ ?_; clear hK K
    all_goals
     have hC4 := hC3.drew.below hb4 hlt3
     have hb4' : Below w3.heap.size w3 w4 := ⟨hb4.os, hb4.tape, hb4.output, hb4.size, hb4.block⟩
     refine wpAny_ready (rs := [10]) (by kernel_rfl) (by simp) ?_
     refine AllReady.cons rfl (fun K hK => ?_) AllReady.nil
     go_simp
     refine (mix_eight [x0, x1, x2, x3, x4, x5, x6, x7] (Sha.sched blk2 64) _ rfl (Sha.sched_len _ _) hW32 (Sha.sched_lt hb2 _) (ht3.below hb4' (Nat.le_refl _))).mono ?_
     rintro e w5 ⟨y0, y1, y2, y3, y4, y5, y6, y7, hy, rfl, hb5⟩
     dsimp only
     refine hK _ _ ?_; clear hK K
     have HY := Lib.hid hy
     have hC5 := hC4.below hb5 hC4.lt
     have hO5 : w3.grownBy w5 (some p) := only_trans (only_of_below hb4' _) (only_of_below hb5 _)
     clear hy
     refine wpAny_take (i := 11) (v := ?_) rfl (by kernel_rfl) (by kernel_rfl) (by kernel_rfl) (fun _ _ _ h => h) (Or.inl ⟨by rfl, ?_⟩) ?_
     rotate_left
     ·intro w; go_simp; with_reducible rfl
     refine wpAny_take (i := 12) (v := ?_) rfl (by kernel_rfl) (by kernel_rfl) (by kernel_rfl) (fun _ _ _ h => h) (Or.inl ⟨by rfl, ?_⟩) ?_
     rotate_left
     ·intro w; go_simp; with_reducible rfl
     simp only [Act.put, List.getElem_toArray, List.getElem_cons_zero, List.getElem_cons_succ, List.setIfInBounds_toArray, List.set_cons_zero, List.set_cons_succ]
     refine wpAny_ready (rs := [13]) (by kernel_rfl) (by simp) ?_
     refine AllReady.cons rfl (fun K hK => ?_) AllReady.nil
     rw [if_pos (by rfl)]
     refine wp_store_mid 132 _ _ rfl p 0 _ rfl rfl hC5.there8 mix_info (all_oneCell_toArray (by intro v hv; simp at hv; rcases hv with h | h | h | h | h | h | h | h <;> rw [h] <;> rfl)) ?_
     refine hK _ _ ?_; clear hK K
     refine wpAny_done (by kernel_rfl) ?_ _
     have hC6 := hC5.setEight y0 y1 y2 y3 y4 y5 y6 y7
     have hO6 := only_setCells hO5 [Value.int .u32 (y0 : Nat), .int .u32 (y1 : Nat), .int .u32 (y2 : Nat), .int .u32 (y3 : Nat), .int .u32 (y4 : Nat), .int .u32 (y5 : Nat), .int .u32 (y6 : Nat), .int .u32 (y7 : Nat)] 0 w5 hO5
     generalize w5.setCells p 0 _ = w6 at hC6 hO6 ⊢
     have cf6 := hC6.fill
     have cff6 := hC6.frozen 72
     go_wp2
     go_roundw
     case rel =>
      have hO7 := only_setCell hO6 (p := ⟨p, 72, none⟩) (.inl rfl) (.int .i64 0)
      refine ⟨j + m, hmo1, by rw [HM3.out]; exact HRD.out.only hO7, ?_, only_trans hO4 hO7⟩
      rw [HM2.out, ← HCH.out]
      have hful := HX.out
      refine Took.whole HF.out.2 (by rw [HCH.out]; exact hbr.take m) (by rw [HCL.out, ← HFF.out]; exact hful) ?_
      rw [← HFF.out, ← HWL.out, ← HBK.out, HWS.out]
      show MsgC _ p (Sha.mix [x0, x1, x2, x3, x4, x5, x6, x7] (Sha.sched blk2 64)) blk2 0 L
      rw [HY.out]
      exact hC6.setFill rfl
     case measure =>
      rw [HS2.out]
      have := HM.out.2
      show r.length - m < r.length
      omega
   ·have hne : (((f : Nat) : Int) + ((m : Nat) : Int) == 64) = false := by simp; omega
    go_wp2
    go_roundw
    case rel =>
     have hO3 := only_setCell hO2 (p := ⟨p, 72, none⟩) (.inl rfl) (.int .i64 ((f : Int) + m))
     refine ⟨j + m, hmo1, by rw [HM3.out]; exact HD.out.only' hO3 hm1 HS2.out, ?_, only_trans hO hO3⟩
     rw [HM2.out, ← HCH.out]
     refine Took.part HF.out.2 (by rw [HCH.out]; exact hbr.take m) (by rw [HCL.out, ← HFF.out]; omega) ?_
     rw [HCL.out, ← HFF.out, ← HWL.out]
     exact hC2.setFill (by simp)
    case measure =>
     rw [HS2.out]
     have := HM.out.2
     show r.length - m < r.length
     omega
  ·have hr0 : r.length = 0 := by omega
   have HR0 := Lib.hid hr0
   have HCU := Lib.hid (HMO.out 0 (Nat.zero_le _)).2.1
   have HC0 := Lib.hid hC
   have HT0 := Lib.hid hT
   have hj2 := HJ.out
   have hjp : j = ps.length := by omega
   clear HMO hC hT hA1 HD hj2
   go_wp2
   go_end0
   refine ⟨rfl, ?_, hO⟩
   have e : bs ++ ps = cu := by
    have h := HCU.out
    rw [Nat.add_zero, hjp, List.take_length, List.take_zero, List.append_nil] at h
    exact h
   have el : (bs ++ ps).length = L := by rw [HLz.out, List.length_append]
   rw [el, e]
   exact ⟨bl, HT0.out, HC0.out⟩
end Go.Proofs.YtdokojlgcplefaaDoor
