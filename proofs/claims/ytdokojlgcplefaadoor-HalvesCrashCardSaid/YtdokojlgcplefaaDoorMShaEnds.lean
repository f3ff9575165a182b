/- The walks of a message's end ((*sha.message).end) and of a digest (sha.Sum). -/
import Derived.Test.YtdokojlgcplefaaDoorMShaAdd
import Derived.Test.YtdokojlgcplefaaDoorMShaJoins
import Derived.Lib.SlBytesConst
import Derived.Below
import Derived.ChangeSame
import Derived.ReadAgain
import Derived.ChangeOld
import Derived.RowKit
import Derived.OpenShut
namespace Go.Proofs.YtdokojlgcplefaaDoor
open Go Go.RowKit
def fillOf (w : World) (p : Nat) : Nat := match w.cell? ⟨p, 72, none⟩ with | some (.int _ n) => n.toNat | _ => 0
theorem Took.fill {w : World} {p : Nat} {bs : List Nat} {L : Nat} (h : Took w p bs L) : w.cell? ⟨p, 72, none⟩ = some (.int .i64 ((bs.length % 64 : Nat) : Int)) := by
 obtain ⟨blk, _, hm⟩ := h
 exact hm.fill
theorem Took.fillOf {w : World} {p : Nat} {bs : List Nat} {L : Nat} (h : Took w p bs L) : fillOf w p = bs.length % 64 := by
 unfold Proofs.YtdokojlgcplefaaDoor.fillOf
 rw [h.fill]
 exact Int.toNat_natCast _
theorem Took.length {w : World} {p : Nat} {bs : List Nat} {L : Nat} (h : Took w p bs L) : w.cell? ⟨p, 73, none⟩ = some (.int .u64 (L : Int)) := by
 obtain ⟨blk, _, hm⟩ := h
 exact hm.length
theorem Took.lt {w : World} {p : Nat} {bs : List Nat} {L : Nat} (h : Took w p bs L) : p < w.heap.size := by
 obtain ⟨blk, _, hm⟩ := h
 exact hm.lt
theorem RdB.new {w : World} {p : Nat} (t : TypeId) (x : Nat) (hp : p < w.heap.size) : RdB (w.alloc (.cells #[.int .u8 (x : Int)] t)) p (.slice (some ⟨w.heap.size, 0, none⟩) 1 1) [x] := by
 refine ⟨_, _, rfl, Nat.le_refl _, fun _ => ⟨w.heap.size, 0, rfl, by omega, by simp, fun i hi => ?_⟩⟩
 have h0 : i = 0 := by simp at hi; exact hi
 subst h0
 rw [(Blk.new w t #[.int .u8 (x : Int)]).cell 0]
 rfl
set_option maxRecDepth 100000 in
set_option maxHeartbeats 2000000 in
theorem end_any (p : Nat) (bs : List Nat) (w : World) (hm : Took w p bs bs.length) (ht : Tabs w) (hp1 : p ≠ 10) (hp2 : p ≠ 7) (hsz : bs.length < 1152921504606846000) :
  Calls Tryd.prog 84 #[.pointer (some ⟨p, 0, none⟩)] w fun e w' => e = .returned (.agg (u8s (Sha.sum bs))) ∧ w.grownBy w' (some p) := by
 have cl := hm.length
 have hlt := hm.lt
 go_enter Tryd.func84, Tryd.ntmps84
 go_wp2_with fail
 have HR : Hid (RdB ((w.alloc (.cells (u8s (List.replicate 32 0)) 116)).alloc (.cells #[.int .u8 128] 5)) p (.slice (some ⟨w.heap.size + 1, 0, none⟩) 1 1) [128]) := by
  have h := RdB.new (w := w.alloc (.cells (u8s (List.replicate 32 0)) 116)) (p := p) 5 128 (by simp; omega)
  have e : (w.alloc (.cells (u8s (List.replicate 32 0)) 116)).heap.size = w.heap.size + 1 := by simp
  rw [e] at h
  exact Lib.hid h
 have HO : Hid (Below w.heap.size w ((w.alloc (.cells (u8s (List.replicate 32 0)) 116)).alloc (.cells #[.int .u8 128] 5))) := by
  refine Lib.hid (((Below.refl _ _).alloc (Nat.le_refl _) _).alloc ?_ _); simp
 have HB : Hid (Blk ((w.alloc (.cells (u8s (List.replicate 32 0)) 116)).alloc (.cells #[.int .u8 128] 5)) w.heap.size 116 (u8s (List.replicate 32 0))) := Lib.hid ((Blk.new w _ _).alloc _)
 change Calls _ _ _ ((w.alloc (.cells (u8s (List.replicate 32 0)) 116)).alloc (.cells #[.int .u8 128] 5)) _
 generalize (w.alloc (.cells (u8s (List.replicate 32 0)) 116)).alloc (.cells #[.int .u8 128] 5) = w1 at HR HO HB ⊢
 refine (add_any p _ bs [128] w1 (hm.only HO.out hlt) HR.out (Sha.Byte.one (by omega)) (ht.below HO.out (Nat.le_refl _)) hp1 hp2 (by simp; omega)).mono ?_
 rintro e w2 ⟨rfl, hT2, hO2⟩
 have HT2 : Hid (Took w2 p (Sha.upTo bs 0) (Sha.upTo bs 0).length) := by
  have e : bs ++ [128] = Sha.upTo bs 0 := by simp [Sha.upTo]
  rw [e] at hT2; exact Lib.hid hT2
 have hO3 : w.grownBy w2 (some p) := only_trans (only_of_below HO.out _) hO2
 have HB2 : Hid (∃ cs, cs.size = 32 ∧ Blk w2 w.heap.size 116 cs) := Lib.hid ⟨_, by rw [u8s_size]; rfl, HB.out.grown hO2 (fun e => by injection e; omega)⟩
 clear hT2 hO2 HR HO HB
 go_wp2_with fail
 go_loopw [] (fun wr => ∃ z, z ≤ Sha.gap bs.length ∧ Took wr p (Sha.upTo bs z) (Sha.upTo bs z).length ∧ w.grownBy wr (some p) ∧ ∃ cs, cs.size = 32 ∧ Blk wr w.heap.size 116 cs) (fun wr => (120 - fillOf wr p) % 64)
 case atStart => exact ⟨0, Nat.zero_le _, HT2.out, hO3, HB2.out⟩
 case round =>
  obtain ⟨z, hz, hT, hO, hRes⟩ := hrel
  have HRes := Lib.hid hRes
  have HF := Lib.hid hT.fillOf
  have hplt : p < wr.heap.size := hT.lt
  have hRlt : w.heap.size < wr.heap.size := by obtain ⟨cs, _, hc⟩ := hRes; exact hc.lt
  clear hRes
  have cf := hT.fill
  have hl := Sha.upTo_len bs z
  have hg : Sha.gap bs.length < 64 := Nat.mod_lt _ (by decide)
  have hgd : Sha.gap bs.length = (119 - bs.length % 64) % 64 := rfl
  have htw : Tabs wr := ht.only hO hp1 hp2
  by_cases hzg : z < Sha.gap bs.length
  ·obtain ⟨f, hff⟩ : ∃ f, f = (Sha.upTo bs z).length % 64 := ⟨_, rfl⟩
   have hf56 : f ≠ 56 := by omega
   have hf64 : f < 64 := by omega
   have hl1 : (Sha.upTo bs (z + 1)).length % 64 = (f + 1) % 64 := by rw [Sha.upTo_len]; omega
   rw [← hff] at cf HF
   have HL1 := Lib.hid hl1
   clear hff hl hgd hl1
   have t1 : (((f : Nat) : Int) == 56) = false := by simp; omega
   have t2 : (((f : Nat) : Int) != 56) = true := by simp; omega
   have HR : Hid (RdB (wr.alloc (.cells #[.int .u8 0] 5)) p (.slice (some ⟨wr.heap.size, 0, none⟩) 1 1) [0]) := Lib.hid (RdB.new 5 0 hplt)
   have HB : Hid (Below wr.heap.size wr (wr.alloc (.cells #[.int .u8 0] 5))) := Lib.hid ((Below.refl _ _).alloc (Nat.le_refl _) _)
   go_wp2_with fail
   generalize wr.alloc (.cells #[.int .u8 0] 5) = w3 at HR HB ⊢
   refine (add_any p _ (Sha.upTo bs z) [0] w3 (hT.only HB.out hplt) HR.out (Sha.Byte.one (by omega)) (htw.below HB.out (Nat.le_refl _)) hp1 hp2 (by rw [Sha.upTo_len]; simp; omega)).mono ?_
   rintro e w4 ⟨rfl, hT4, hO4⟩
   rw [← Sha.upTo_succ] at hT4
   have HT4 := Lib.hid hT4
   have hO5 : wr.grownBy w4 (some p) := only_trans (only_of_below HB.out _) hO4
   clear hT4 hT
   go_wp2_with fail
   go_roundw
   case rel =>
    obtain ⟨cs, hz2, hc⟩ := HRes.out
    exact ⟨z + 1, by omega, HT4.out, only_trans hO hO5, cs, hz2, hc.grown hO5 (fun e => by injection e; omega)⟩
   case measure =>
    rw [HT4.out.fillOf, HF.out, HL1.out]
    omega
  ·have hze : z = Sha.gap bs.length := by omega
   have hf : (Sha.upTo bs z).length % 64 = 56 := by omega
   rw [hf] at cf
   have HT := Lib.hid hT
   have HZ := Lib.hid hze
   clear hf hT hze hl hgd
   go_wp2_with fail
   have HTT : Hid (∃ bl, Sha.Tail (Sha.upTo bs (Sha.gap bs.length)) bl ∧ MsgC wr p (Sha.blocks (Sha.upTo bs (Sha.gap bs.length)) ((Sha.upTo bs (Sha.gap bs.length)).length / 64)) bl 56 (Sha.upTo bs (Sha.gap bs.length)).length) := by
    have h := HT.out
    rw [HZ.out] at h
    obtain ⟨bl, h1, h2⟩ := h
    have h56 : (Sha.upTo bs (Sha.gap bs.length)).length % 64 = 56 := by rw [Sha.upTo_len]; unfold Sha.gap; omega
    rw [h56] at h2
    exact Lib.hid ⟨bl, h1, h2⟩
   obtain ⟨bl, hTl0, hMC0⟩ := HTT.out
   have HTl := Lib.hid hTl0
   have hl64 := hTl0.len
   have hbb := hTl0.byte
   clear hTl0 HTT HF HT
   generalize hws : Sha.blocks (Sha.upTo bs (Sha.gap bs.length)) ((Sha.upTo bs (Sha.gap bs.length)).length / 64) = ws at hMC0
   have hw32 : Sha.W32 ws := by rw [← hws]; exact Sha.blocks_lt _ _
   have HWS := Lib.hid hws
   generalize (Sha.upTo bs (Sha.gap bs.length)).length = L at hMC0
   have HL64 := Lib.hid hl64
   clear hws hl64
   go_loopw [21] (fun i wr => ∃ k : Nat, k ≤ 8 ∧ i = .int .i64 k ∧ MsgC wr p ws (Sha.lay bl ((Sha.len8 bs.length).take k) 56) 56 L ∧ w.grownBy wr (some p) ∧ ∃ cs, cs.size = 32 ∧ Blk wr w.heap.size 116 cs) (fun i _ => 8 - (intOf i).toNat)
   case atStart => exact ⟨0, by omega, rfl, by rw [List.take_zero, Sha.lay_nil]; exact hMC0, hO, HRes.out⟩
   case round =>
    obtain ⟨wo, rfl⟩ : ∃ wo : World, wo = wr := ⟨_, rfl⟩
    obtain ⟨k, hk, rfl, hM, hO2, hRes2⟩ := hrel
    have HRes2 := Lib.hid hRes2
    clear hRes2
    by_cases hk8 : k < 8
    ·have c0 := hM.byte (56 + k) (by omega)
     generalize (Sha.lay bl ((Sha.len8 bs.length).take k) 56).getD (56 + k) 0 = y at c0
     have c1 := hM.frozen (8 + (56 + k))
     have HG := Lib.hid (Sha.len8_get bs.length k hk8)
     have i0 : ((k : Nat) : Int) < 8 := by omega
     have i1 : (0 : Int) ≤ ((k : Nat) : Int) := by omega
     have W1 : IntKind.i64.wrap (56 + ((k : Nat) : Int)) = 56 + ((k : Nat) : Int) := IntWalk.i64_in _ (by omega)
     have W2 : IntKind.i64.wrap (7 - ((k : Nat) : Int)) = 7 - ((k : Nat) : Int) := IntWalk.i64_in _ (by omega)
     have W3 : IntKind.i64.wrap (8 * (7 - ((k : Nat) : Int))) = 8 * (7 - ((k : Nat) : Int)) := IntWalk.i64_in _ (by omega)
     have i2 : (0 : Int) ≤ 8 * (7 - ((k : Nat) : Int)) := by omega
     have i3 : 8 * (7 - ((k : Nat) : Int)) < 64 := by omega
     have i4 : (0 : Int) ≤ 56 + ((k : Nat) : Int) := by omega
     have i5 : 56 + ((k : Nat) : Int) < 64 := by omega
     have T1 : (56 + ((k : Nat) : Int)).toNat = 56 + k := by omega
     go_wp2_with fail
     refine wp_region_still_tail 12 (by kernel_rfl) (by kernel_rfl) ?_
     change wpStill _ _ wo.drew _ _ _
     dsimp only [List.take, List.drop]
     repeat still_step
     refine wpStill_nil ?_
     change wpList _ _ _ _ _ wo.drew
     go_wp2_with fail
     go_roundw
     case rel =>
      have hO4 := only_setCell hO2 (p := ⟨p, 8 + (56 + k), none⟩) (.inl rfl) (.int .u8 (8 * (bs.length : Int) / 2 ^ (8 * (7 - k)) % 256))
      refine ⟨k + 1, by omega, by go_num, ?_, only_drew hO4, ?_⟩
      ·have h := (hM.setByte (i := 56 + k) (x := (Sha.len8 bs.length).getD k 0) (v := 8 * (bs.length : Int) / 2 ^ (8 * (7 - k)) % 256) (by omega) (by rw [HG.out]; simp)).drew
       have e := Sha.lay_snoc (blk := bl) (c := (Sha.len8 bs.length).take k) (f := 56) ((Sha.len8 bs.length).getD k 0) (by rw [List.length_take, Sha.len8_len, HL64.out]; omega)
       rw [List.length_take, Sha.len8_len, Nat.min_eq_left (by omega), ← Sha.take_snoc (by rw [Sha.len8_len]; omega)] at e
       rw [e] at h
       exact h
      ·obtain ⟨cs, hz2, hc⟩ := HRes2.out
       exact ⟨cs, hz2, (hc.far (p := ⟨p, 8 + (56 + k), none⟩) (by show w.heap.size ≠ p; omega) _).drew⟩
     case measure => simp [intOf]; omega
    ·have HK := Lib.hid (show k = 8 by omega)
     have hMM : MsgC wo p ws (Sha.lay bl (Sha.len8 bs.length) 56) 56 L := by
      have h := hM
      rw [HK.out, List.take_of_length_le (by rw [Sha.len8_len]; omega)] at h
      exact h
     go_wp2_with fail
     have hlt3 := hMM.lt
     obtain ⟨cs, hz2, hres⟩ := HRes2.out
     have HZ2 := Lib.hid hz2
     clear hz2
     have ht3 : Tabs wo := ht.only hO2 hp1 hp2
     obtain ⟨x0, x1, x2, x3, x4, x5, x6, x7, hws⟩ := list8 hMM.len8
     have HW8 := Lib.hid hws
     rw [hws] at hMM hw32
     clear hws hM
     have hl2 : (Sha.lay bl (Sha.len8 bs.length) 56).length = 64 := hMM.len64
     have hb2 : Sha.Byte (Sha.lay bl (Sha.len8 bs.length) 56) := Sha.lay_byte hbb (Sha.len8_byte _)
     obtain ⟨blk2, hblk2⟩ : ∃ q, q = Sha.lay bl (Sha.len8 bs.length) 56 := ⟨_, rfl⟩
     rw [← hblk2] at hl2 hb2 hMM
     have HBK := Lib.hid hblk2
     have HL2 := Lib.hid hl2
     clear hblk2 hl2
     have HI : Hid ((Tryd.prog.info? 133).map (·.size) = some (blk2.map fun (n : Nat) => Value.int .u8 (n : Int)).length) := by
      apply Lib.hid; rw [List.length_map, HL2.out]; kernel_rfl
     have HG : Hid (wo.drew.rangeAt p 8 (blk2.map fun (n : Nat) => Value.int .u8 (n : Int))) := by
      refine Lib.hid fun i u hu => ?_
      have hi : i < 64 := by
       have h := (List.getElem?_eq_some_iff.1 hu).1
       rw [List.length_map, HL2.out] at h
       exact h
      show wo.cell? _ = _
      rw [hMM.byte i hi, ← hu]
      have := HL2.out
      simp [List.getD, show i < blk2.length by omega]
     have HRW : Hid (∀ w4, Below wo.drew.heap.size wo.drew w4 → w4.rangeAt p 0 [Value.int .u32 (x0 : Nat), .int .u32 (x1 : Nat), .int .u32 (x2 : Nat), .int .u32 (x3 : Nat), .int .u32 (x4 : Nat), .int .u32 (x5 : Nat), .int .u32 (x6 : Nat), .int .u32 (x7 : Nat)]) := by
      refine Lib.hid fun w4 hb4 i u hu => ?_
      have hi : i < 8 := (List.getElem?_eq_some_iff.1 hu).1
      rw [Nat.zero_add, (hMM.drew.below hb4 hlt3).word i hi, ← hu]
      simp only [List.getD]
      rcases i with _ | _ | _ | _ | _ | _ | _ | _ | i <;> first | rfl | omega
     refine wp_region_any (by kernel_rfl) ?_
     change wpAny _ _ _ _ _ _ _ wo.drew
     refine wpAny_take (i := 0) (v := ?_) rfl (by kernel_rfl) (by kernel_rfl) (by kernel_rfl) (fun _ _ _ h => h) (Or.inl ⟨by rfl, ?_⟩) ?_
     rotate_left
     ·intro w; go_simp; with_reducible rfl
     refine wpAny_take (i := 1) (v := ?_) rfl (by kernel_rfl) (by kernel_rfl) (by kernel_rfl) (fun _ _ _ h => h) (Or.inl ⟨by rfl, ?_⟩) ?_
     rotate_left
     ·intro w; go_simp; with_reducible rfl
     refine wpAny_take (i := 2) (v := ?_) rfl (by kernel_rfl) (by kernel_rfl) (by kernel_rfl) (fun _ _ _ h => h) (Or.inl ⟨by rfl, ?_⟩) ?_
     rotate_left
     ·intro w; go_simp; with_reducible rfl
     refine wpAny_take (i := 4) (v := ?_) rfl (by kernel_rfl) (by kernel_rfl) (by kernel_rfl) (fun _ _ _ h => h) (Or.inl ⟨by rfl, ?_⟩) ?_
     rotate_left
     ·intro w; go_simp; with_reducible rfl
     refine wpAny_take (i := 5) (v := ?_) rfl (by kernel_rfl) (by kernel_rfl) (by kernel_rfl) (fun _ _ _ h => h) (Or.inl ⟨by rfl, ?_⟩) ?_
     rotate_left
     ·intro w; go_simp; with_reducible rfl
     refine wpAny_take (i := 6) (v := ?_) rfl (by kernel_rfl) (by kernel_rfl) (by kernel_rfl) (fun _ _ _ h => h) (Or.inl ⟨by rfl, ?_⟩) ?_
     rotate_left
     ·intro w; go_simp; with_reducible rfl
     simp only [Act.put, List.getElem_toArray, List.getElem_cons_zero, List.getElem_cons_succ, List.setIfInBounds_toArray, List.set_cons_zero, List.set_cons_succ]
     refine wpAny_ready (rs := [3, 7]) (by kernel_rfl) (by simp) ?_
     refine AllReady.cons rfl (fun K hK => ?_) (AllReady.cons rfl (fun K hK => ?_) AllReady.nil)
     rotate_left
     rw [if_pos (by rfl)]
     refine wp_load_mid 133 _ rfl p 8 rfl _ _ (HG.out) Tryd.underlying133 rfl HI.out ?_
     refine hK _ _ ?_; clear hK K
     simp only [Act.put, List.getElem_toArray, List.getElem_cons_zero, List.getElem_cons_succ, List.setIfInBounds_toArray, List.set_cons_zero, List.set_cons_succ]
     refine wpAny_ready (rs := [3, 8]) (by kernel_rfl) (by simp) ?_
     refine AllReady.cons rfl (fun K hK => ?_) (AllReady.cons rfl (fun K hK => ?_) AllReady.nil)
     rotate_left
     go_simp
     refine (spread_any blk2 _ HL2.out hb2).mono ?_
     rintro e w4 ⟨rfl, hb4⟩
     dsimp only
     refine hK _ _ ?_; clear hK K
     refine wpAny_ready (rs := [3]) (by kernel_rfl) (by simp) ?_
     refine AllReady.cons rfl (fun K hK => ?_) AllReady.nil
     rw [if_pos (by rfl)]
     refine wp_load_mid 132 _ rfl p 0 rfl _ _ (HRW.out _ hb4) Tryd.underlying132 rfl mix_info ?_
     refine hK _ _ ?_; clear hK K
     simp only [Act.put, List.getElem_toArray, List.getElem_cons_zero, List.getElem_cons_succ, List.setIfInBounds_toArray, List.set_cons_zero, List.set_cons_succ]
     rotate_left
     rw [if_pos (by rfl)]
     refine wp_load_mid 132 _ rfl p 0 rfl _ _ (HRW.out _ (Below.refl _ _)) Tryd.underlying132 rfl mix_info ?_
     refine hK _ _ ?_; clear hK K
     simp only [Act.put, List.getElem_toArray, List.getElem_cons_zero, List.getElem_cons_succ, List.setIfInBounds_toArray, List.set_cons_zero, List.set_cons_succ]
     refine wpAny_ready (rs := [7]) (by kernel_rfl) (by simp) ?_
     refine AllReady.cons rfl (fun K hK => ?_) AllReady.nil
     rw [if_pos (by rfl)]
     refine wp_load_mid 133 _ rfl p 8 rfl _ _ (HG.out) Tryd.underlying133 rfl HI.out ?_
     refine hK _ _ ?_; clear hK K
     simp only [Act.put, List.getElem_toArray, List.getElem_cons_zero, List.getElem_cons_succ, List.setIfInBounds_toArray, List.set_cons_zero, List.set_cons_succ]
     refine wpAny_ready (rs := [8]) (by kernel_rfl) (by simp) ?_
     refine AllReady.cons rfl (fun K hK => ?_) AllReady.nil
     go_simp
     refine (spread_any blk2 _ HL2.out hb2).mono ?_
     rintro e w4 ⟨rfl, hb4⟩
     dsimp only
     refine hK _ _ ?_; clear hK K
     rotate_left
     rw [if_pos (by rfl)]
     refine wp_load_mid 132 _ rfl p 0 rfl _ _ (HRW.out _ (Below.refl _ _)) Tryd.underlying132 rfl mix_info ?_
     refine hK _ _ ?_; clear hK K
     simp only [Act.put, List.getElem_toArray, List.getElem_cons_zero, List.getElem_cons_succ, List.setIfInBounds_toArray, List.set_cons_zero, List.set_cons_succ]
     refine wpAny_ready (rs := [8]) (by kernel_rfl) (by simp) ?_
     refine AllReady.cons rfl (fun K hK => ?_) AllReady.nil
     go_simp
     refine (spread_any blk2 _ HL2.out hb2).mono ?_
     rintro e w4 ⟨rfl, hb4⟩
     dsimp only
     refine hK _ _ ?_; clear hK K
     all_goals
      have hC4 := hMM.drew.below hb4 hlt3
      have hb4' : Below wo.heap.size wo w4 := ⟨hb4.os, hb4.tape, hb4.output, hb4.size, hb4.block⟩
      refine wpAny_ready (rs := [9]) (by kernel_rfl) (by simp) ?_
      refine AllReady.cons rfl (fun K hK => ?_) AllReady.nil
      go_simp
      refine (mix_any [x0, x1, x2, x3, x4, x5, x6, x7] (Sha.sched blk2 64) _ rfl (Sha.sched_len _ _) hw32 (Sha.sched_lt hb2 _) (ht3.below hb4' (Nat.le_refl _))).mono ?_
      rintro e w5 ⟨rfl, hb5⟩
      dsimp only
      refine hK _ _ ?_; clear hK K
      refine wpAny_ready (rs := [10]) (by kernel_rfl) (by simp) ?_
      refine AllReady.cons rfl (fun K hK => ?_) AllReady.nil
      go_simp
      refine (join_any (Sha.mix [x0, x1, x2, x3, x4, x5, x6, x7] (Sha.sched blk2 64)) _ rfl (Sha.mix_lt _ _)).mono ?_
      rintro e w6 ⟨rfl, hb6⟩
      dsimp only
      refine hK _ _ ?_; clear hK K
      have hO6 : w.grownBy w6 (some p) := only_trans hO2 (only_trans (only_of_below hb4' _) (only_trans (only_of_below hb5 _) (only_of_below hb6 _)))
      have hz4 := hb4'.size
      have hz5 := hb5.size
      have hres6 : Blk w6 w.heap.size 116 cs := ((hres.below hb4' hres.lt).below hb5 (by have := hres.lt; omega)).below hb6 (by have := hres.lt; omega)
      have HC6 := Lib.hid hres6
      have HS : Hid (Sha.join (Sha.mix [x0, x1, x2, x3, x4, x5, x6, x7] (Sha.sched blk2 64)) = Sha.sum bs) := by
       apply Lib.hid
       rw [Sha.sum_upTo HTl.out, HWS.out, HW8.out, ← HBK.out]
       rfl
      rw [HS.out]
      have HL := Lib.hid (show (u8s (Sha.sum bs)).size = 32 by rw [u8s_size]; exact Sha.join_len _)
      clear hres6
      refine wpAny_ready (rs := [11]) (by kernel_rfl) (by simp) ?_
      refine AllReady.cons rfl (fun K hK => ?_) AllReady.nil
      rw [if_pos (by rfl)]
      refine wp_store_row 116 _ _ rfl w.heap.size _ rfl rfl 116 cs HC6.out (by rw [HL.out]; exact oid_info) (by rw [HL.out]; exact HZ2.out) (u8s_one _) ?_
      refine hK _ _ ?_; clear hK K
      refine wpAny_done (by kernel_rfl) ?_ _
      go_wp2_with fail
      exact bodyPost_ret (v := .agg (u8s (Sha.sum bs))) (results_cell_row rfl _ _ w.heap.size 116 _ (0, 0) _ rfl (HC6.out.row _) Tryd.underlying116 rfl (by rw [HL.out]; exact oid_info)) rfl ⟨rfl, only_setRow hO6 (.inr (Nat.le_refl _)) _⟩
end Go.Proofs.YtdokojlgcplefaaDoor
/- The walk of a digest (sha.Sum). -/
namespace Go.Proofs.YtdokojlgcplefaaDoor
open Go Go.RowKit
theorem start_cells : ((((((((Tryd.zeroCells135.setIfInBounds 0 (.int .u32 1779033703)).setIfInBounds 1 (.int .u32 3144134277)).setIfInBounds 2 (.int .u32 1013904242)).setIfInBounds 3 (.int .u32 2773480762)).setIfInBounds 4 (.int .u32 1359893119)).setIfInBounds 5 (.int .u32 2600822924)).setIfInBounds 6 (.int .u32 528734635)).setIfInBounds 7 (.int .u32 1541459225)) = msgC Sha.H0 (List.replicate 64 0) 0 0 := by kernel_rfl
theorem start_one : (((((((((Tryd.zeroCells135.setIfInBounds 0 (.int .u32 1779033703)).setIfInBounds 1 (.int .u32 3144134277)).setIfInBounds 2 (.int .u32 1013904242)).setIfInBounds 3 (.int .u32 2773480762)).setIfInBounds 4 (.int .u32 1359893119)).setIfInBounds 5 (.int .u32 2600822924)).setIfInBounds 6 (.int .u32 528734635)).setIfInBounds 7 (.int .u32 1541459225))).all (·.oneCell') = true := by kernel_rfl
theorem sflat_len : ∀ (l : List (List Nat)) (B : Nat), (∀ ps ∈ l, ps.length ≤ B) → l.flatten.length ≤ l.length * B
 | [], _, _ => by simp
 | a :: l, B, h => by
  have h1 := sflat_len l B (fun ps hp => h ps (List.mem_cons_of_mem _ hp))
  have h2 := h a (List.mem_cons_self)
  rw [List.flatten_cons, List.length_append, List.length_cons, Nat.succ_mul]
  omega
theorem msg_info : (Tryd.prog.info? 135).map (·.size) = some 74 := by kernel_rfl
theorem zeroCells_size : Tryd.zeroCells135.size = 74 := by kernel_rfl
set_option maxRecDepth 100000 in
set_option maxHeartbeats 2000000 in
theorem sum_any (v : Value) (vs : List Value) (pss : List (List Nat)) (w : World) (hv : RdL w v vs) (hl : pss.length = vs.length) (hr : ∀ i u, vs[i]? = some u → Rd w u (pss.getD i [])) (hb : ∀ ps ∈ pss, Sha.Byte ps) (ht : Tabs w)
  (hz1 : vs.length < 1048576) (hz2 : ∀ ps ∈ pss, ps.length ≤ 549755813888) :
  Calls Tryd.prog 70 #[v] w fun e w' => e = .returned (.agg (u8s (Sha.sum pss.flatten))) ∧ Below w.heap.size w w' := by
 obtain ⟨A, c, rfl, hc, hA⟩ := hv
 have c0 : w.cell? ⟨7, 0, none⟩ = some (.int .u32 1779033703) := ht.start 0 (by omega)
 have c1 : w.cell? ⟨7, 1, none⟩ = some (.int .u32 3144134277) := ht.start 1 (by omega)
 have c2 : w.cell? ⟨7, 2, none⟩ = some (.int .u32 1013904242) := ht.start 2 (by omega)
 have c3 : w.cell? ⟨7, 3, none⟩ = some (.int .u32 2773480762) := ht.start 3 (by omega)
 have c4 : w.cell? ⟨7, 4, none⟩ = some (.int .u32 1359893119) := ht.start 4 (by omega)
 have c5 : w.cell? ⟨7, 5, none⟩ = some (.int .u32 2600822924) := ht.start 5 (by omega)
 have c6 : w.cell? ⟨7, 6, none⟩ = some (.int .u32 528734635) := ht.start 6 (by omega)
 have c7 : w.cell? ⟨7, 7, none⟩ = some (.int .u32 1541459225) := ht.start 7 (by omega)
 have hg := ht.big.2
 go_enter Tryd.func70, Tryd.ntmps70
 have HBK : Hid (Blk ((w.alloc (.cells (u8s (List.replicate 32 0)) 116)).alloc (.cells Tryd.zeroCells135 135)) (w.heap.size + 1) 135 Tryd.zeroCells135) := by
  have h := Blk.new (w.alloc (.cells (u8s (List.replicate 32 0)) 116)) 135 Tryd.zeroCells135
  have e : (w.alloc (.cells (u8s (List.replicate 32 0)) 116)).heap.size = w.heap.size + 1 := by simp
  rw [e] at h
  exact Lib.hid h
 have HRS : Hid (Blk ((w.alloc (.cells (u8s (List.replicate 32 0)) 116)).alloc (.cells Tryd.zeroCells135 135)) w.heap.size 116 (u8s (List.replicate 32 0))) := Lib.hid ((Blk.new w _ _).alloc _)
 have HBB : Hid (Below w.heap.size w ((w.alloc (.cells (u8s (List.replicate 32 0)) 116)).alloc (.cells Tryd.zeroCells135 135))) := by
  refine Lib.hid (((Below.refl _ _).alloc (Nat.le_refl _) _).alloc ?_ _); simp
 go_wp2_with (first | (refine wpList_store_row rfl 135 (.tmp 3) (.tmp 7) rfl (w.heap.size + 1) _ rfl rfl 135 _ HBK.out ?_ ?_ ?_ ?_))
 case refine_1 => rw [start_cells]; exact msg_info
 case refine_2 => rw [start_cells]; exact zeroCells_size
 case refine_3 => exact start_one
 rw [start_cells]
 have HM : Hid (Took ((((w.alloc (.cells (u8s (List.replicate 32 0)) 116)).alloc (.cells Tryd.zeroCells135 135))).setRow (w.heap.size + 1) (msgC Sha.H0 (List.replicate 64 0) 0 0)) (w.heap.size + 1) [] 0) :=
  Lib.hid ⟨List.replicate 64 0, ⟨rfl, Sha.Byte.zeros 64, fun i hi => absurd hi (by simp)⟩, ⟨HBK.out.row _, rfl, rfl⟩⟩
 have HRS2 := Lib.hid (HRS.out.farRow (g' := w.heap.size + 1) (by omega) (msgC Sha.H0 (List.replicate 64 0) 0 0))
 have HB2 := Lib.hid (below_row HBB.out (g := w.heap.size + 1) (by omega) (msgC Sha.H0 (List.replicate 64 0) 0 0))
 clear HBK HRS HBB c0 c1 c2 c3 c4 c5 c6 c7
 change Code.wp _ _ _ _ (((w.alloc (.cells (u8s (List.replicate 32 0)) 116)).alloc (.cells Tryd.zeroCells135 135)).setRow (w.heap.size + 1) (msgC Sha.H0 (List.replicate 64 0) 0 0))
 generalize ((w.alloc (.cells (u8s (List.replicate 32 0)) 116)).alloc (.cells Tryd.zeroCells135 135)).setRow (w.heap.size + 1) (msgC Sha.H0 (List.replicate 64 0) 0 0) = w1 at HM HRS2 HB2 ⊢
 generalize msgC Sha.H0 (List.replicate 64 0) 0 0 = mc
 go_loopw [10] (fun i wr => ∃ k : Nat, k ≤ vs.length ∧ i = .int .i64 k ∧ Took wr (w.heap.size + 1) (pss.take k).flatten (pss.take k).flatten.length ∧ Below w.heap.size w wr ∧ ∃ cs, cs.size = 32 ∧ Blk wr w.heap.size 116 cs) (fun i _ => vs.length - (intOf i).toNat)
 case atStart => exact ⟨0, by omega, rfl, HM.out, HB2.out, _, by rw [u8s_size]; rfl, HRS2.out⟩
 case round =>
  obtain ⟨k, hk, rfl, hT, hbel, hres⟩ := hrel
  have HRES := Lib.hid hres
  clear hres
  have hp1 : w.heap.size + 1 ≠ 10 := by have := ht.big.1; omega
  have hp2 : w.heap.size + 1 ≠ 7 := by have := ht.big.2; omega
  have hfl := sflat_len (pss.take k) 549755813888 (fun ps hps => hz2 ps (List.mem_of_mem_take hps))
  rw [List.length_take] at hfl
  by_cases hlt : k < vs.length
  ·obtain ⟨b, o, rfl, hbl, hcell⟩ := hA (by omega)
   have hu := hcell k vs[k] (List.getElem?_eq_getElem hlt)
   have hru := hr k vs[k] (List.getElem?_eq_getElem hlt)
   have hbk := hb (pss.getD k []) (by simp [List.getD, show k < pss.length by omega])
   have hzk := hz2 (pss.getD k []) (by simp [List.getD, show k < pss.length by omega])
   have HTK : Hid ((pss.take (k + 1)).flatten = (pss.take k).flatten ++ pss.getD k []) := by
    apply Lib.hid
    rw [List.take_add_one, List.flatten_append]
    congr 1
    simp [List.getD, show k < pss.length by omega]
   generalize vs[k] = u at hu hru
   generalize pss.getD k [] = pk at hru hbk hzk HTK
   have hcu : wr.cell? ⟨b, o + k, none⟩ = some u := (hbel.cell (p := ⟨b, o + k, none⟩) hbl).trans hu
   have i1 : ((k : Nat) : Int) < vs.length := by omega
   have hmin : k * 549755813888 ≤ 1048576 * 549755813888 := Nat.mul_le_mul_right _ (by omega)
   have hfl2 : (pss.take k).flatten.length ≤ k * 549755813888 := Nat.le_trans hfl (Nat.mul_le_mul_right _ (Nat.min_le_left _ _))
   clear hcell hA hfl hu
   go_wp2_with fail
   refine (add_any (w.heap.size + 1) u _ pk wr hT (hru.outB (Nat.le_succ _) hbel) hbk (ht.below hbel (Nat.le_refl _)) hp1 hp2 (by omega)).mono ?_
   rintro e w2 ⟨rfl, hT2, hO2⟩
   have HT2 := Lib.hid hT2
   have hb2 := below_of_only hbel hO2 (by omega)
   clear hT2
   go_wp2_with fail
   go_roundw
   case rel =>
    obtain ⟨cs, hz, hc⟩ := HRES.out
    refine ⟨k + 1, by omega, by go_num, by rw [HTK.out]; exact HT2.out, hb2, cs, hz, hc.grown hO2 (fun e => by injection e; omega)⟩
   case measure => simp [intOf]; omega
  ·have HK := Lib.hid (show k = vs.length by omega)
   have hfl2 : (pss.take k).flatten.length ≤ 1048576 * 549755813888 := Nat.le_trans hfl (Nat.mul_le_mul_right _ (by omega))
   clear hfl hA
   go_wp2_with fail
   refine (end_any (w.heap.size + 1) _ wr hT (ht.below hbel (Nat.le_refl _)) hp1 hp2 (by omega)).mono ?_
   rintro e w2 ⟨rfl, hO2⟩
   have hb2 := below_of_only hbel hO2 (by omega)
   have HF : Hid ((pss.take k).flatten = pss.flatten) := by
    apply Lib.hid; rw [HK.out, List.take_of_length_le (by omega)]
   rw [HF.out]
   obtain ⟨cs, hz, hc⟩ := HRES.out
   have HZ := Lib.hid hz
   have HC := Lib.hid (hc.grown hO2 (fun e => by injection e; omega))
   have HL := Lib.hid (show (u8s (Sha.sum pss.flatten)).size = 32 by rw [u8s_size]; exact Sha.join_len _)
   clear hz hc
   go_wp2_with (first | (refine wpList_store_row rfl 116 (.tmp 2) (.tmp 17) rfl w.heap.size _ rfl rfl 116 cs HC.out (by rw [HL.out]; exact oid_info) (by rw [HL.out]; exact HZ.out) (u8s_one _) ?_))
   exact bodyPost_ret (v := .agg (u8s (Sha.sum pss.flatten))) (results_cell_row rfl _ _ w.heap.size 116 _ (0, 0) _ rfl (HC.out.row _) Tryd.underlying116 rfl (by rw [HL.out]; exact oid_info)) rfl ⟨rfl, below_row hb2 (Nat.le_refl _) _⟩
end Go.Proofs.YtdokojlgcplefaaDoor
/- The walk of sha.Hex: a digest as 64 figures. -/
namespace Go.Proofs.YtdokojlgcplefaaDoor
open Go Go.RowKit
end Go.Proofs.YtdokojlgcplefaaDoor
/- The walk of the chapter's example (alive). -/
namespace Go.Proofs.YtdokojlgcplefaaDoor
open Go Go.RowKit
end Go.Proofs.YtdokojlgcplefaaDoor
/- The last step of a law's row, once for all laws: a call that answers true and leaves every block that stood before as it was meets 'true; each argument reads as it read', whatever the arguments' types are. -/
namespace Go.Proofs.YtdokojlgcplefaaDoor
open Go Go.RowKit Go.WideShapes Go.ChangeShapes
section
variable {H : Type} {enc : TypeId × Value → H} {P : Program} {w w' : World}
theorem sameAt_of_below (hb : Below w.heap.size w w') {p : MemPlace} (hp : p.block < w.heap.size) : w.sameAt w' p := by
 cases p with
 | cell b off => exact hb.cell (p := ⟨b, off, none⟩) hp
 | map b => exact hb.block b hp
theorem all_stay (hb : Below w.heap.size w w') : ∀ {ts : List TypeId} {vs : List Value} {ds : List (DataW H)} {ps : List MemPlace},
  DataW.TrodAll enc P w 0 (fun _ => true) true ts vs ds ps → (∀ p ∈ ps, p.block < w.heap.size) → DataW.TrodAll enc P w' 0 (fun _ => true) true ts vs ds ps
 | [], [], [], _, h, _ => h
 | _ :: _, _ :: _, _ :: _, _, ⟨p, q, ⟨n, h1⟩, h2, e⟩, hs =>
  ⟨p, q, ⟨n, DataW.trod_carry n _ _ _ h1 (fun x hx => sameAt_of_below hb (hs x (by rw [e]; exact List.mem_append_left _ hx)))⟩,
   all_stay hb h2 (fun x hx => hs x (by rw [e]; exact List.mem_append_right _ hx)), e⟩
theorem law_post (hlo : laidOutB P = true) (hmr : mapsRowed P = true)
  (hsl : ((List.range P.types.size).all fun t => match P.underlying t with | some (.slice e) => decide (0 < P.cellsOf e) | _ => true) = true)
  {f : Func} {s : ChangeSpec} {tb : TypeId} (hv : s.vars = []) (hrt : f.resultTypes = #[tb]) (htb : P.underlying tb = some .bool) (hT : ∀ t ∈ f.params.toList, t < P.types.size)
  {apart fresh handsOn again : Bool} {args : Array Value} {ds gs : List (DataW H)} {before : List MemPlace}
  (hfn : (s.fn H (ds ++ gs)).results = [.lit (.bool true)] ∧ (s.fn H (ds ++ gs)).args = ds ∧ (s.fn H (ds ++ gs)).vars = [])
  (hW : DataW.Whole enc P f.params.toList s.vars apart w args.toList ds gs before) (hb : Below w.heap.size w w') :
  s.post enc P f apart fresh handsOn again w args (.bool true) w' := by
 have hlt := hW.lt
 have hW0 := hW
 obtain ⟨p, q, h1, h2, he, hz, hn⟩ := hW
 rw [hv] at h2
 obtain ⟨rfl, rfl⟩ : gs = [] ∧ q = [] := by
  cases gs with
  | nil => exact ⟨rfl, h2⟩
  | cons g r => exact h2.elim
 rw [List.append_nil] at he
 subst he
 have hst := all_stay hb h1 hlt
 have hsp := DataW.TrodAll.respare (spare' := fun b => decide (b < w.heap.size)) (kids_rows hlo hmr) (slices_full_of P hsl) hT hst (fun x hx => by simpa using hlt x hx)
 have hres : ∀ (b : Nat) (sp : Nat → Bool) (hd : Bool), DataW.TrodAll enc P w' b sp hd f.resultTypes.toList ((Value.bool true).resultList f.resultTypes.size) (s.fn H (ds ++ [])).results [] := by
  intro b sp hd
  rw [hrt, hfn.1]
  exact trodAll_mk1 (shut_bool htb true)
 refine ⟨ds, [], before, [], before, [], hW0, hres _ _ _, by rw [hfn.2.1]; exact hsp, by rw [hv, hfn.2.2]; rfl, hb.frame _, fun _ => ⟨ok_one hrt rfl (okWide_bool_mk htb true), .lit (.bool true) :: ds, [], before, ⟨before, [], ?_, by rw [hv]; rfl, by simp, ?_, hn⟩, fun x hx _ => hx⟩⟩
 ·rw [hrt]
  exact ⟨[], before, shut_bool htb true, hst, by simp⟩
 ·intro b off hp
  rw [hb.frozen (p := ⟨b, off, none⟩) (hlt _ hp)]
  exact hz b off hp
end
end Go.Proofs.YtdokojlgcplefaaDoor
