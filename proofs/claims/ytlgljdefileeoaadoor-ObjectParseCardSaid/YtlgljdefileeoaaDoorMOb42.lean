/- Which object bytes are, by the program and by the document (ObjectParse). -/
import Derived.Test.YtlgljdefileeoaaDoorMOb41
import Derived.Test.YtlgljdefileeoaaDoorMOb34
import Derived.Test.YtlgljdefileeoaaDoorMOb10s
import Derived.Test.YtlgljdefileeoaaDoorMOb7
import Derived.Test.YtlgljdefileeoaaDoorMNum
import Derived.Test.YtlgljdefileeoaaDoorMErrs
namespace Go.Proofs.YtlgljdefileeoaaDoor
open Go Go.RowKit
theorem marked_rd {w : World} {v : Value} {xs : List Nat} (h : Marked w v xs) : Rd w v xs := by
  obtain ⟨b, c, rfl, hc, _, hb, hx⟩ := h
  refine ⟨_, c, rfl, by omega, fun _ => ⟨b, 0, rfl, hb, fun i hi => ?_⟩⟩
  rw [Nat.zero_add, hx i (by omega)]
  simp [List.getD, List.getElem?_append_left hi]
theorem marked_below {w w' : World} {v : Value} {xs : List Nat} (h : Marked w v xs) (hb : Below w.heap.size w w') : Marked w' v xs := by
  obtain ⟨b, c, hv, hc, hm, hbl, hx⟩ := h
  exact ⟨b, c, hv, hc, hm, Nat.lt_of_lt_of_le hbl hb.size, fun i hi => (hb.cell (p := ⟨b, i, none⟩) hbl).trans (hx i hi)⟩
theorem obc_one {w : World} {o : Ob} {cs : Array Value} {T E P : Option Addr} {tc ec pc : Nat} (h : ObC w o cs T tc E ec P pc) : cs.all (·.oneCell') = true := by
  rw [h.cells]
  exact cellsOb_one o.kind T E P o.text.length o.ents.length o.pars.length tc ec pc o.target
theorem right_small {o : Ob} (h : o.right = true) : o.small ∧ o.ents.length ≤ 1000 ∧ o.pars.length ≤ 1000 := by
  obtain ⟨n, hz⟩ := right_near h
  exact ⟨⟨by omega, by have := n.ents; omega, by have := n.pars; omega, fun e he => by have := n.names e he; omega⟩, by have := n.ents; omega, by have := n.pars; omega⟩
theorem fin_bad {o : Ob} {c : Nat} (h : Prs.fin o = .bad c) : c = 4 := by
  unfold Prs.fin at h
  split at h
  · cases h
  · injection h with h; exact h.symm
theorem parse_code {xs : List Nat} {c : Nat} (h : Ob.parse xs = .bad c) : 1 ≤ c ∧ c ≤ 22 := by
  obtain _ | ⟨k, ys⟩ := xs
  · injection h with h; omega
  · unfold Ob.parse at h
    dsimp only at h
    by_cases h1 : k = 98
    · rw [if_pos h1] at h; have := fin_bad h; omega
    · rw [if_neg h1] at h
      by_cases h2 : k = 116
      · rw [if_pos h2] at h
        cases hq : entsOf [] ys with
        | none => rw [hq] at h; injection h with h; omega
        | some es => rw [hq] at h; have := fin_bad h; omega
      · rw [if_neg h2] at h
        by_cases h3 : k = 99
        · rw [if_pos h3] at h
          by_cases h4 : ys.length < 33
          · rw [if_pos h4] at h; injection h with h; omega
          · rw [if_neg h4] at h
            cases hq : parsGo (ys.getD 32 0) [] (ys.drop 33) with
            | none => rw [hq] at h; injection h with h; omega
            | some q => rw [hq] at h; have := fin_bad h; omega
        · rw [if_neg h3] at h
          by_cases h4 : k = 103
          · rw [if_pos h4] at h
            by_cases h5 : ys.length < 32
            · rw [if_pos h5] at h; injection h with h; omega
            · rw [if_neg h5] at h; have := fin_bad h; omega
          · rw [if_neg h4] at h; injection h with h; omega
theorem sents_at {w w' : World} {a : Nat → Addr} (h : Sents w a) (hb : Below w.heap.size w w') : Sents w' a := fun k hk => (h k hk).below hb (Nat.le_refl _)
theorem psents_of {w : World} {a : Nat → Addr} (h : Sents w a) : PSents w a := ⟨(h 1 (by omega)).var, (h 3 (by omega)).var, (h 6 (by omega)).var⟩
set_option maxRecDepth 100000 in
set_option maxHeartbeats 8000000 in
theorem plaw_long (xs : List Nat) (A : Option Addr) (c : Nat) (a : Nat → Addr) (w : World) (_hv : Rd w (.slice A xs.length c) xs) (_hb : Sha.Byte xs) (_hs : Sents w a) (hz : 500 < xs.length) :
    Calls Tryd.prog 3 #[.slice A xs.length c] w fun e w' => e = .returned (.bool true) ∧ Below w.heap.size w w' := by
  have CA := oalive_any w
  have i1 : ((xs.length : Nat) : Int) > 500 := by omega
  go_enter Tryd.func3, Tryd.ntmps3
  go_wp2_with (go_at_call 5; refine pause ?_)
  unfold Paused
  refine CA.mono ?_
  rintro e w3 ⟨rfl, h3⟩
  have HB := Lib.hid h3
  clear h3 CA
  go_wp2
  go_ret
  exact ⟨rfl, HB.out⟩
set_option maxRecDepth 100000 in
set_option maxHeartbeats 8000000 in
theorem plaw_bad (xs : List Nat) (A : Option Addr) (c : Nat) (a : Nat → Addr) (w : World) (hv : Rd w (.slice A xs.length c) xs) (hb : Sha.Byte xs) (hs : Sents w a) (hz : xs.length ≤ 500) (n : Nat) (hn : 1 ≤ n ∧ n ≤ 22)
    (hP : ∀ w' v', Below w.heap.size w w' → Rd w' v' xs → Calls Tryd.prog 7 #[v'] w' fun e w'' => e = .returned (.tuple #[.agg zOc, ev (a (n - 1))]) ∧ Below w'.heap.size w' w'')
    (hR : ∀ w', Below w.heap.size w w' → Calls Tryd.prog 8 #[.slice A xs.length c] w' fun e w'' => e = .returned (.tuple #[.agg zc0, .int .i64 (n : Int)]) ∧ Below w'.heap.size w' w'') :
    Calls Tryd.prog 3 #[.slice A xs.length c] w fun e w' => e = .returned (.bool true) ∧ Below w.heap.size w w' := by
  have HPP := Lib.hid hP
  have HRR := Lib.hid hR
  have HN := Lib.hid hn
  clear hP hR hn
  have HV := Lib.hid hv
  have HBY := Lib.hid hb
  have HS := Lib.hid hs
  have HZ := Lib.hid hz
  have CA := oalive_any w
  have i1 : ¬ ((xs.length : Nat) : Int) > 500 := by omega
  clear hv hb hs hz
  go_enter Tryd.func3, Tryd.ntmps3
  go_wp2_with (go_at_call 5; refine pause ?_)
  unfold Paused
  refine CA.mono ?_
  rintro e w3 ⟨rfl, h3⟩
  have HB3 := Lib.hid h3
  clear h3 CA
  have CB := bytes_any _ xs w3 (HV.out.below HB3.out (Nat.le_refl _)) HBY.out (by have := HZ.out; omega)
  go_wp2_with (go_at_call 6; refine pause ?_)
  unfold Paused
  refine CB.mono ?_
  rintro e w4 ⟨v4, rfl, hm, h4⟩
  have HM4 := Lib.hid hm
  have HB4 := Lib.hid (below_next HB3.out h4)
  obtain ⟨bm, cm, rfl, _⟩ := hm
  clear h4 CB
  have CP := HPP.out w4 _ HB4.out (marked_rd HM4.out)
  go_wp2_with (go_at_call 7; refine pause ?_)
  unfold Paused
  refine CP.mono ?_
  rintro e w5 ⟨rfl, h5⟩
  have HB5 := Lib.hid (below_next HB4.out h5)
  have HM5 := Lib.hid (marked_below HM4.out h5)
  clear h5 CP
  go_wp2_with (with_reducible (show wpList _ _ _ (Oper.mk _ (Op.store 30 _ _) _ _ _ _ :: _) _ _); refine pause ?_)
  unfold Paused
  change wpList _ _ _ _ _ (w5.alloc (.cells zOc 30))
  refine wpList_store_row (by rfl) 30 (.tmp 4) (.tmp 21) (by rfl) w5.heap.size zOc (by rfl) (by rfl) 30 zOc (Blk.new w5 _ _) (by kernel_rfl) (by rfl) (by kernel_rfl) ?_
  have hk : Below w5.heap.size w5 ((w5.alloc (.cells zOc 30)).setRow w5.heap.size zOc) := below_row ((Below.refl _ _).alloc (Nat.le_refl _) _) (Nat.le_refl _) _
  have HB6 := Lib.hid (below_next HB5.out hk)
  have HM6 := Lib.hid (marked_below HM5.out hk)
  have Hg4 := Lib.hid ((Blk.new w5 30 zOc).row zOc)
  clear hk
  generalize World.setRow _ w5.heap.size zOc = w6 at HB6 HM6 Hg4 ⊢
  generalize w5.heap.size = g4 at Hg4 ⊢
  have CR := HRR.out w6 HB6.out
  go_wp2_with (go_at_call 8; refine pause ?_)
  unfold Paused
  refine CR.mono ?_
  rintro e w7 ⟨rfl, h7⟩
  have HB7 := Lib.hid (below_next HB6.out h7)
  have HM7 := Lib.hid (marked_below HM6.out h7)
  have HG7 := Lib.hid (Hg4.out.below h7 Hg4.out.lt)
  clear h7 CR
  go_wp2_with (with_reducible (show wpList _ _ _ (Oper.mk _ (Op.store 38 _ _) _ _ _ _ :: _) _ _); refine pause ?_)
  unfold Paused
  change wpList _ _ _ _ _ (w7.alloc (.cells zc0 38))
  refine wpList_store_row (by rfl) 38 (.tmp 6) (.tmp 26) (by rfl) w7.heap.size zc0 (by rfl) (by rfl) 38 zc0 (Blk.new w7 _ _) (by kernel_rfl) (by rfl) (by kernel_rfl) ?_
  have hk : Below w7.heap.size w7 ((w7.alloc (.cells zc0 38)).setRow w7.heap.size zc0) := below_row ((Below.refl _ _).alloc (Nat.le_refl _) _) (Nat.le_refl _) _
  have HB8 := Lib.hid (below_next HB7.out hk)
  have HM8 := Lib.hid (marked_below HM7.out hk)
  have HG8 := Lib.hid (HG7.out.below hk HG7.out.lt)
  have Hg6 := Lib.hid ((Blk.new w7 38 zc0).row zc0)
  clear hk
  generalize World.setRow _ w7.heap.size zc0 = w8 at HB8 HM8 HG8 Hg6 ⊢
  generalize w7.heap.size = g6 at Hg6 ⊢
  have CN := num_any (n - 1) (by have := HN.out; omega) a w8 (sents_at HS.out HB8.out)
  rw [show n - 1 + 1 = n by have := HN.out; omega] at CN
  go_wp2_with (go_at_call 9; refine pause ?_)
  unfold Paused
  refine CN.mono ?_
  rintro e w9 ⟨rfl, h9⟩
  have HB9 := Lib.hid (below_next HB8.out h9)
  have HM9 := Lib.hid (marked_below HM8.out h9)
  have HG9 := Lib.hid (HG8.out.below h9 HG8.out.lt)
  clear h9 CN
  have CK := kept_any _ _ xs w9 HM9.out (HV.out.below HB9.out (Nat.le_refl _)) (by have := HZ.out; omega)
  go_wp2_with (go_at_call 10; refine pause ?_)
  unfold Paused
  refine CK.mono ?_
  rintro e w10 ⟨rfl, mk, rfl⟩
  have HB10 := Lib.hid (below_drewN HB9.out mk)
  have a0 : (w9.drewN mk).cell? ⟨g4, 0, none⟩ = some (.int .i64 0) := HG9.out.cell 0
  have j1 : (((n : Nat) : Int) != 0) = true := by have := HN.out; simp; omega
  have j2 : ¬ (((n : Nat) : Int) = 0) := by have := HN.out; omega
  clear CK
  generalize w9.drewN mk = w10 at HB10 a0 ⊢
  go_wp2
  go_ret
  exact ⟨rfl, HB10.out⟩
set_option maxRecDepth 100000 in
set_option maxHeartbeats 8000000 in
theorem plaw_ok (xs : List Nat) (A : Option Addr) (c : Nat) (a : Nat → Addr) (w : World) (hv : Rd w (.slice A xs.length c) xs) (hb : Sha.Byte xs) (hs : Sents w a) (hz : xs.length ≤ 300) (o : Ob) (hp : Ob.parse xs = .ok o) :
    Calls Tryd.prog 3 #[.slice A xs.length c] w fun e w' => e = .returned (.bool true) ∧ Below w.heap.size w w' := by
  have HPO := Lib.hid hp
  have hbb := byte_all hb
  have HBB := Lib.hid hbb
  clear hp hbb
  have HV := Lib.hid hv
  have HBY := Lib.hid hb
  have HS := Lib.hid hs
  have HZ := Lib.hid hz
  have CA := oalive_any w
  have i1 : ¬ ((xs.length : Nat) : Int) > 500 := by omega
  clear hv hb hs hz
  go_enter Tryd.func3, Tryd.ntmps3
  go_wp2_with (go_at_call 5; refine pause ?_)
  unfold Paused
  refine CA.mono ?_
  rintro e w3 ⟨rfl, h3⟩
  have HB3 := Lib.hid h3
  clear h3 CA
  have CB := bytes_any _ xs w3 (HV.out.below HB3.out (Nat.le_refl _)) HBY.out (by have := HZ.out; omega)
  go_wp2_with (go_at_call 6; refine pause ?_)
  unfold Paused
  refine CB.mono ?_
  rintro e w4 ⟨v4, rfl, hm, h4⟩
  have HM4 := Lib.hid hm
  have HB4 := Lib.hid (below_next HB3.out h4)
  obtain ⟨bm, cm, rfl, _⟩ := hm
  clear h4 CB
  have HPL := Lib.hid (parse_laid HBB.out HPO.out)
  have HSM := Lib.hid (right_small HPL.out.2)
  have CP := oparse_ok o xs a _ w4 (marked_rd HM4.out) HBB.out HZ.out (psents_of (sents_at HS.out HB4.out)) HPO.out
  go_wp2_with (go_at_call 7; refine pause ?_)
  unfold Paused
  refine CP.mono ?_
  rintro e w5 ⟨cs, T, tc, E, ec, P, pc, rfl, hf, hd, ho, h5⟩
  have HF := Lib.hid hf
  have HD := Lib.hid hd
  have HO5 := Lib.hid ho.obc
  have HB5 := Lib.hid (below_next HB4.out h5)
  have HM5 := Lib.hid (marked_below HM4.out h5)
  clear h5 CP hf hd ho
  go_wp2_with (with_reducible (show wpList _ _ _ (Oper.mk _ (Op.store 30 _ _) _ _ _ _ :: _) _ _); refine pause ?_)
  unfold Paused
  change wpList _ _ _ _ _ (w5.alloc (.cells zOc 30))
  refine wpList_store_row (by rfl) 30 (.tmp 4) (.tmp 21) (by rfl) w5.heap.size cs (by rfl) (by rfl) 30 zOc (Blk.new w5 _ _) (by rw [HO5.out.size HF.out]; kernel_rfl) (by rw [HO5.out.size HF.out]; rfl) (obc_one HO5.out) ?_
  have hk : Below w5.heap.size w5 ((w5.alloc (.cells zOc 30)).setRow w5.heap.size cs) := below_row ((Below.refl _ _).alloc (Nat.le_refl _) _) (Nat.le_refl _) _
  have HB6 := Lib.hid (below_next HB5.out hk)
  have HM6 := Lib.hid (marked_below HM5.out hk)
  have HO6 := Lib.hid (HO5.out.below hk (Nat.le_refl _))
  have Hg4 := Lib.hid ((Blk.new w5 30 zOc).row cs)
  clear hk
  generalize World.setRow _ w5.heap.size cs = w6 at HB6 HM6 HO6 Hg4 ⊢
  generalize w5.heap.size = g4 at Hg4 ⊢
  have CR := rparse_any xs A c w6 (HV.out.below HB6.out (Nat.le_refl _)) HBB.out HZ.out
  go_wp2_with (go_at_call 8; refine pause ?_)
  unfold Paused
  refine CR.mono ?_
  rintro e w7 ⟨h7, _, hq⟩
  obtain ⟨cr, T2, tc2, E2, ec2, P2, pc2, rfl, _, _, hor⟩ := hq o HPO.out
  have HQ7 := Lib.hid hor
  have HB7 := Lib.hid (below_next HB6.out h7)
  have HM7 := Lib.hid (marked_below HM6.out h7)
  have HG7 := Lib.hid (Hg4.out.below h7 Hg4.out.lt)
  have HO7 := Lib.hid (HO6.out.below h7 (Nat.le_refl _))
  clear h7 CR hq hor
  go_wp2_with (with_reducible (show wpList _ _ _ (Oper.mk _ (Op.store 38 _ _) _ _ _ _ :: _) _ _); refine pause ?_)
  unfold Paused
  change wpList _ _ _ _ _ (w7.alloc (.cells zc0 38))
  refine wpList_store_row (by rfl) 38 (.tmp 6) (.tmp 26) (by rfl) w7.heap.size cr (by rfl) (by rfl) 38 zc0 (Blk.new w7 _ _) (by rw [HQ7.out.size HF.out]; kernel_rfl) (by rw [HQ7.out.size HF.out]; rfl) (obc_one HQ7.out) ?_
  have hk : Below w7.heap.size w7 ((w7.alloc (.cells zc0 38)).setRow w7.heap.size cr) := below_row ((Below.refl _ _).alloc (Nat.le_refl _) _) (Nat.le_refl _) _
  have HB8 := Lib.hid (below_next HB7.out hk)
  have HM8 := Lib.hid (marked_below HM7.out hk)
  have HG8 := Lib.hid (HG7.out.below hk HG7.out.lt)
  have HO8 := Lib.hid (HO7.out.below hk (Nat.le_refl _))
  have HQ8 := Lib.hid (HQ7.out.below hk (Nat.le_refl _))
  have Hg6 := Lib.hid ((Blk.new w7 38 zc0).row cr)
  clear hk
  generalize World.setRow _ w7.heap.size cr = w8 at HB8 HM8 HG8 HO8 HQ8 Hg6 ⊢
  generalize w7.heap.size = g6 at Hg6 ⊢
  have CN := num_nil w8
  go_wp2_with (go_at_call 9; refine pause ?_)
  unfold Paused
  refine CN.mono ?_
  rintro e w9 ⟨rfl, rfl⟩
  clear CN
  have CK := kept_any _ _ xs w9 HM8.out (HV.out.below HB8.out (Nat.le_refl _)) (by have := HZ.out; omega)
  go_wp2_with (go_at_call 10; refine pause ?_)
  unfold Paused
  refine CK.mono ?_
  rintro e w10 ⟨rfl, mk, rfl⟩
  have hk : Below w9.heap.size w9 (w9.drewN mk) := below_drewN (Below.refl _ _) mk
  have HB10 := Lib.hid (below_next HB8.out hk)
  have HG10 := Lib.hid (HG8.out.below hk HG8.out.lt)
  have HR10 := Lib.hid (Hg6.out.below hk Hg6.out.lt)
  have HO10 := Lib.hid (HO8.out.below hk (Nat.le_refl _))
  have HQ10 := Lib.hid (HQ8.out.below hk (Nat.le_refl _))
  clear CK hk
  generalize w9.drewN mk = w10 at HB10 HG10 HR10 HO10 HQ10 ⊢
  go_wp2_with (with_reducible (show wpList _ _ _ (Oper.mk _ (Op.load 30 _) _ _ _ _ :: _) _ _); refine pause ?_)
  unfold Paused
  refine wpList_row_w (by rfl) 30 (.tmp 4) (by rfl) g4 (by rfl) 30 cs _ (HG10.out) Tryd.underlying30 (by rfl) (by rw [HO10.out.size HF.out]; kernel_rfl) ?_
  have CF := of_small o cs T E P tc ec pc w10 HO10.out HF.out HSM.out.1
  go_wp2_with (go_at_call 11; refine pause ?_)
  unfold Paused
  refine CF.mono ?_
  rintro e w11 ⟨h11, cx, rfl, sx, ox, Tx, tx, Ex, ex, Px, px, hx⟩
  have HX11 := Lib.hid hx
  have SX := Lib.hid sx
  have OX := Lib.hid ox
  have HB11 := Lib.hid (below_next HB10.out h11)
  have HG11 := Lib.hid (HG10.out.below h11 HG10.out.lt)
  have HR11 := Lib.hid (HR10.out.below h11 HR10.out.lt)
  have HO11 := Lib.hid (HO10.out.below h11 (Nat.le_refl _))
  have HQ11 := Lib.hid (HQ10.out.below h11 (Nat.le_refl _))
  clear h11 CF hx sx ox
  go_wp2_with (with_reducible (show wpList _ _ _ (Oper.mk _ (Op.store 38 _ _) _ _ _ _ :: _) _ _); refine pause ?_)
  unfold Paused
  change wpList _ _ _ _ _ (w11.alloc (.cells zc0 38))
  refine wpList_store_row (by rfl) 38 (.tmp 8) (.tmp 46) (by rfl) w11.heap.size cx (by rfl) (by rfl) 38 zc0 (Blk.new w11 _ _) (by rw [SX.out]; kernel_rfl) (by rw [SX.out]; rfl) OX.out ?_
  have hk : Below w11.heap.size w11 ((w11.alloc (.cells zc0 38)).setRow w11.heap.size cx) := below_row ((Below.refl _ _).alloc (Nat.le_refl _) _) (Nat.le_refl _) _
  have HB12 := Lib.hid (below_next HB11.out hk)
  have HG12 := Lib.hid (HG11.out.below hk HG11.out.lt)
  have HR12 := Lib.hid (HR11.out.below hk HR11.out.lt)
  have HO12 := Lib.hid (HO11.out.below hk (Nat.le_refl _))
  have HQ12 := Lib.hid (HQ11.out.below hk (Nat.le_refl _))
  have HX12 := Lib.hid (HX11.out.below hk (Nat.le_refl _))
  have Hg8 := Lib.hid ((Blk.new w11 38 zc0).row cx)
  clear hk
  generalize World.setRow _ w11.heap.size cx = w12 at HB12 HG12 HR12 HO12 HQ12 HX12 Hg8 ⊢
  generalize w11.heap.size = g8 at Hg8 ⊢
  go_wp2_with (with_reducible (show wpList _ _ _ (Oper.mk _ (Op.load 30 _) _ _ _ _ :: _) _ _); refine pause ?_)
  unfold Paused
  refine wpList_row_w (by rfl) 30 (.tmp 4) (by rfl) g4 (by rfl) 30 cs _ (HG12.out) Tryd.underlying30 (by rfl) (by rw [HO12.out.size HF.out]; kernel_rfl) ?_
  have CB := obytes_any o cs T E P tc ec pc (a 3) w12 HO12.out HF.out HD.out ((sents_at HS.out HB12.out) 3 (by omega)).var
  go_wp2_with (go_at_call 12; refine pause ?_)
  unfold Paused
  refine CB.mono ?_
  rintro e w13 ⟨h13, _, hq⟩
  obtain ⟨vb, rfl, hvb⟩ := hq HPL.out.2
  rw [HPL.out.1] at hvb
  have HVB := Lib.hid hvb
  have HB13 := Lib.hid (below_next HB12.out h13)
  have HR13 := Lib.hid (HR12.out.below h13 HR12.out.lt)
  have HT13 := Lib.hid (Hg8.out.below h13 Hg8.out.lt)
  have HQ13 := Lib.hid (HQ12.out.below h13 (Nat.le_refl _))
  have HX13 := Lib.hid (HX12.out.below h13 (Nat.le_refl _))
  obtain ⟨Ab, cb, rfl⟩ : ∃ Ab cb, vb = .slice Ab xs.length cb := by obtain ⟨A, c, hv, _⟩ := hvb; exact ⟨A, c, hv⟩
  clear h13 CB hq hvb
  go_wp2_with (with_reducible (show wpList _ _ _ (Oper.mk _ (Op.load 38 _) _ _ _ _ :: _) _ _); refine pause ?_)
  unfold Paused
  refine wpList_row_w (by rfl) 38 (.tmp 8) (by rfl) g8 (by rfl) 38 cx _ (HT13.out) robj_under (by rfl) (by rw [SX.out]; kernel_rfl) ?_
  go_wp2_with (with_reducible (show wpList _ _ _ (Oper.mk _ (Op.load 38 _) _ _ _ _ :: _) _ _); refine pause ?_)
  unfold Paused
  refine wpList_row_w (by rfl) 38 (.tmp 6) (by rfl) g6 (by rfl) 38 cr _ (HR13.out) robj_under (by rfl) (by rw [HQ13.out.size HF.out]; kernel_rfl) ?_
  have CS := rsame_any o o cx cr Tx Ex Px T2 E2 P2 tx ex px tc2 ec2 pc2 w13 HX13.out HQ13.out HF.out HF.out HSM.out.2.1 HSM.out.2.2
  rw [eqv_self] at CS
  go_wp2_with (go_at_call 13; refine pause ?_)
  unfold Paused
  refine CS.mono ?_
  rintro e w14 ⟨rfl, h14⟩
  have HB14 := Lib.hid (below_next HB13.out h14)
  have k1 := conv_rd (HVB.out.below h14 (Nat.le_refl _))
  have k2 := conv_rd (HV.out.below HB14.out (Nat.le_refl _))
  clear h14 CS
  generalize textOf xs = tx0 at k1 k2
  go_wp2
  go_ret
  exact ⟨rfl, HB14.out⟩
set_option maxRecDepth 100000 in
theorem parse_law (xs : List Nat) (A : Option Addr) (c : Nat) (a : Nat → Addr) (w : World) (hv : Rd w (.slice A xs.length c) xs) (hb : Sha.Byte xs) (hs : Sents w a) :
    Calls Tryd.prog 3 #[.slice A xs.length c] w fun e w' => e = .returned (.bool true) ∧ Below w.heap.size w w' := by
  by_cases h5 : 500 < xs.length
  · exact plaw_long xs A c a w hv hb hs h5
  · by_cases h3 : 300 < xs.length
    · exact plaw_bad xs A c a w hv hb hs (by omega) 13 (by omega)
        (fun w' v' h hr => oparse_large (a 12) xs v' w' hr h3 ((sents_at hs h) 12 (by omega)).var)
        (fun w' _ => rparse_large A xs.length c w' h3)
    · cases hp : Ob.parse xs with
      | bad n =>
        exact plaw_bad xs A c a w hv hb hs (by omega) n (parse_code hp)
          (fun w' v' h hr => oparse_bad n xs a v' w' hr (byte_all hb) (by omega) (psents_of (sents_at hs h)) hp)
          (fun w' h => (rparse_any xs A c w' (hv.below h (Nat.le_refl _)) (byte_all hb) (by omega)).mono fun e w'' ⟨h1, h2, _⟩ => ⟨h2 n hp, h1⟩)
      | ok o => exact plaw_ok xs A c a w hv hb hs (by omega) o hp
end Go.Proofs.YtlgljdefileeoaaDoor
