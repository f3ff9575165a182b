/- The law ClosureWalks. -/
import Derived.Test.YtlodalppnglclaaDoorMCl19s
import Derived.Test.YtlodalppnglclaaDoorMCl17
import Derived.Test.YtlodalppnglclaaDoorMLawKits
import Derived.Test.YtlodalppnglclaaDoorMTextss
import Derived.Test.YtlodalppnglclaaDoorMShaMsgMaths
import Derived.Deep.Matrix
import Derived.OpenShut
namespace Go.Proofs.YtlodalppnglclaaDoor
open Go Go.RowKit
theorem set_same {r s : List (List Nat)} {Q : List Nat → Prop} (hr : Sha.Rising r) (hs : Sha.Rising s) (ir : ∀ x ∈ r, Id32 x) (is : ∀ x ∈ s, Id32 x) (mr : ∀ x, Id32 x → (x ∈ r ↔ Q x)) (ms : ∀ x, Id32 x → (x ∈ s ↔ Q x)) : r = s :=
  Cl.rising_ext hr hs fun x => ⟨fun h => (ms x (ir x h)).2 ((mr x (ir x h)).1 h), fun h => (mr x (is x h)).2 ((ms x (is x h)).1 h)⟩
theorem csame {r s : List (List Nat)} {v u : Value} {w : World} (h : r = s) (hv : RdO w v r) (hu : RdO w u s) (is : ∀ x ∈ s, Id32 x) (hl : s.length ≤ 1000) :
    Calls Tryd.prog 10 #[v, u] w fun e w' => e = .returned (.bool true) ∧ ∃ m, w' = w.drewN m := by
  subst h
  obtain ⟨A, c, rfl⟩ := rdo_form hv
  obtain ⟨B, d, rfl⟩ := rdo_form hu
  exact (lsame_any A B c d r r w (rdk_rdo hv is) (rdk_rdo hu is) is is hl).mono fun e w' ⟨h1, h2⟩ => ⟨by rw [h1, eqv_true rfl], h2⟩
section
variable {objs roots : List (List Nat)} {w w1 w' : World} {va vb vc vd : Value} {a b c d : List (List Nat)}
theorem WR.below (h : WR objs roots w w1 va vb vc vd a b c d) (hb : Below w1.heap.size w1 w') : WR objs roots w w' va vb vc vd a b c d :=
  ⟨rdo_go h.ra hb (Nat.le_refl _), rdo_go h.rb hb (Nat.le_refl _), rdo_go h.rc hb (Nat.le_refl _), rdo_go h.rd hb (Nat.le_refl _), h.ia, h.ib, h.ic, h.id_, h.ma, h.mb, h.mc, h.md, below_next h.bel hb⟩
theorem WR.few (h : WR objs roots w w1 va vb vc vd a b c d) (hb : ∀ t ∈ objs, Sha.Byte t) (ho : objs.length ≤ 12) (hr : roots.length ≤ 12) : a.length ≤ 1000 ∧ b.length ≤ 1000 ∧ c.length ≤ 1000 ∧ d.length ≤ 1000 := by
  have hp := pool_few (roots := roots) hb
  have h1 := Cl.nodup_le (M := Cl.pool objs roots) (Cl.rising_nodup h.ia.1) (fun x hx => Cl.rch_pool ((h.ma x).1 hx).1)
  have h2 := Cl.nodup_le (M := Cl.pool objs roots) (Cl.rising_nodup h.ib.1) (fun x hx => Cl.rch_pool ((h.mb x).1 hx).1)
  have h3 := Cl.nodup_le (M := Cl.pool objs roots) (Cl.rising_nodup h.ic.1) (fun x hx => Cl.rch_pool ((h.mc x).1 hx).1)
  have h4 := Cl.nodup_le (M := objs.map Sha.sum) (Cl.rising_nodup h.id_.1) (fun x hx => by
    obtain ⟨⟨t, ht, e⟩, _⟩ := (h.md x).1 hx
    exact List.mem_map.2 ⟨t, ht, e.symm⟩)
  rw [List.length_map] at h4
  refine ⟨?_, ?_, ?_, ?_⟩ <;> omega
theorem WR.loose (h : WR objs roots w w1 va vb vc vd a b c d) (x : List Nat) : x ∈ d ↔ (Cl.the objs x = true ∧ ¬ Cl.Rch objs roots x) := by
  rw [h.md x, h.ma x]
  have e : (∃ t ∈ objs, x = Sha.sum t) ↔ Cl.the objs x = true := by
    unfold Cl.the
    rw [Cl.stk_iff, List.mem_map]
    exact ⟨fun ⟨t, h1, h2⟩ => ⟨t, h1, h2.symm⟩, fun ⟨t, h1, h2⟩ => ⟨t, h1, h2.symm⟩⟩
  rw [e]
  exact ⟨fun ⟨h1, h2⟩ => ⟨h1, fun h3 => h2 ⟨h3, h1⟩⟩, fun ⟨h1, h2⟩ => ⟨h1, fun h3 => h2 h3.1⟩⟩
theorem WR.whole (h : WR objs roots w w1 va vb vc vd a b c d) : (∀ x, Id32 x → Cl.Rch objs roots x → Cl.the objs x = true ∧ Cl.wrg objs x = false) ↔ (b.length = 0 ∧ c.length = 0) := by
  constructor
  · intro hk
    constructor
    · cases hb : b with
      | nil => rfl
      | cons y l =>
        have hy : y ∈ b := by rw [hb]; simp
        obtain ⟨h1, h2⟩ := (h.mb y).1 hy
        rw [(hk y (h.ib.2 y hy) h1).1] at h2
        cases h2
    · cases hb : c with
      | nil => rfl
      | cons y l =>
        have hy : y ∈ c := by rw [hb]; simp
        obtain ⟨h1, h2⟩ := (h.mc y).1 hy
        rw [(hk y (h.ic.2 y hy) h1).2] at h2
        cases h2
  · rintro ⟨hb, hc⟩ x hx hr
    have hb := List.length_eq_zero_iff.1 hb
    have hc := List.length_eq_zero_iff.1 hc
    constructor
    · cases ht : Cl.the objs x with
      | true => rfl
      | false => have h1 := (h.mb x).2 ⟨hr, ht⟩; rw [hb] at h1; cases h1
    · cases ht : Cl.wrg objs x with
      | false => rfl
      | true => have h1 := (h.mc x).2 ⟨hr, ht⟩; rw [hc] at h1; cases h1
end
set_option maxRecDepth 100000 in
set_option maxHeartbeats 8000000 in
theorem cwalks_law (A : Option Addr) (n c : Nat) (its : List Cl.T) (A2 : Option Addr) (n2 c2 : Nat) (roots : List (List Nat)) (a : Nat → Addr) (w : World) (hT : ClT w (.slice A n c) its) (hR : RdK w (.slice A2 n2 c2) n2 (cellsP roots)) (hl : n2 = roots.length) (hi : ∀ x ∈ roots, Id32 x) (ht : Tabs w) (hS : CSents w a) :
    Calls Tryd.prog 3 #[.slice A n c, .slice A2 n2 c2] w fun e w' => e = .returned (.bool true) ∧ Below w.heap.size w w' := by
  have hnl : n = its.length := by
    obtain ⟨A', c', hv, _⟩ := hT.row
    injection hv with e1 e2 e3
    rw [e2, List.length_map]
  have AL := cl_alive_any a w ht hS
  have LG := fun (w1 : World) (h1 : Below w.heap.size w w1) => clong_any A n c its w1 (hT.below h1)
  have HT := Lib.hid hT
  have HR := Lib.hid hR
  have HL := Lib.hid hl
  have HI := Lib.hid hi
  have HTB := Lib.hid ht
  have HS := Lib.hid hS
  have HNL := Lib.hid hnl
  clear hT hR hl hi ht hS hnl
  go_enter Tryd.func3, Tryd.ntmps3
  go_wp2_with (go_at_call 6; refine pause ?_)
  unfold Paused
  refine AL.mono ?_
  rintro e w1 ⟨rfl, hb1⟩
  have H1 := Lib.hid hb1
  have LG1 := LG w1 hb1
  clear hb1 AL LG
  go_wp2_with (go_at_call 7; refine pause ?_)
  unfold Paused
  refine LG1.mono ?_
  rintro e w2 ⟨β, rfl, hβ, rfl⟩
  rcases β with _ | _
  rotate_left
  · clear LG1 hβ
    go_wp2
    go_ret
    exact ⟨rfl, H1.out⟩
  obtain ⟨h70, h400⟩ := hβ rfl
  by_cases h12 : 12 < n
  · have g2 : (12 : Int) < (n : Int) := by omega
    clear LG1 hβ h70 h400 h12
    go_wp2
    go_ret
    exact ⟨rfl, H1.out⟩
  have g2 : ¬ (12 : Int) < (n : Int) := by omega
  by_cases h13 : 12 < n2
  · have g3 : (12 : Int) < (n2 : Int) := by omega
    clear LG1 hβ h70 h400 h12 h13
    go_wp2
    go_ret
    exact ⟨rfl, H1.out⟩
  have g3 : ¬ (12 : Int) < (n2 : Int) := by omega
  have HIN : Hid (ClIn w A n c its A2 n2 c2 roots a) := Lib.hid ⟨HT.out, fun p hp => by have := h400 p hp; omega, HTB.out, HS.out, HR.out, HL.out, HI.out, by have := HL.out; have := HNL.out; omega⟩
  have H400 := Lib.hid h400
  have HNN : Hid (its.length ≤ 12 ∧ roots.length ≤ 12) := Lib.hid ⟨by have := HNL.out; omega, by have := HL.out; omega⟩
  have HBY := Lib.hid HIN.out.byt
  have CI := lids_any roots (.slice A2 n2 c2) w2 (rdo_go (rdo_k (by rw [← HL.out]; exact HR.out) HI.out) H1.out (Nat.le_refl _)) HI.out (by have := HNN.out.2; omega)
  unfold MadePost at CI
  clear LG1 hβ h70 h400 h12 h13
  go_wp2_with (go_at_call 9; refine pause ?_)
  unfold Paused
  refine CI.mono ?_
  rintro e w3 ⟨v3, rfl, hv3, _, hb3⟩
  have h3 := below_next H1.out hb3
  have H3 := Lib.hid h3
  have CW := rwalk_any A n c its v3 roots w3 (HT.out.below h3) hv3 HI.out (by have := HNN.out.1; omega) (by have := HNN.out.2; omega) H400.out
  unfold WalkR at CW
  clear CI hv3 hb3 h3
  go_wp2_with (go_at_call 8; refine pause ?_)
  unfold Paused
  refine CW.mono ?_
  rintro e w4 ⟨va, vb, vc, vd, la, lb, lc, ld, rfl, hw4⟩
  have HW4 := Lib.hid hw4
  have H4 : Hid (Below w.heap.size w w4) := Lib.hid (below_next H3.out hw4.bel)
  have HFW := Lib.hid (hw4.few HBY.out (by rw [List.length_map]; exact HNN.out.1) HNN.out.2)
  have HLO := Lib.hid hw4.loose
  have HWH := Lib.hid hw4.whole
  obtain ⟨Ab, cb, hvb⟩ := rdo_form hw4.rb
  obtain ⟨Ac, cc, hvc⟩ := rdo_form hw4.rc
  subst hvb hvc
  obtain ⟨nb, hnb⟩ : ∃ k, k = lb.length := ⟨_, rfl⟩
  obtain ⟨nc, hnc⟩ : ∃ k, k = lc.length := ⟨_, rfl⟩
  rw [← hnb, ← hnc] at HWH
  rw [← hnb, ← hnc] at HW4 ⊢
  have HNB := Lib.hid hnb
  have HNC := Lib.hid hnc
  clear hnb hnc hw4 CW
  have CR5 := reached_any HIN.out w4 H4.out
  unfold SetPost at CR5
  go_wp2_with (go_at_call 11; refine pause ?_)
  unfold Paused
  refine CR5.mono ?_
  rintro e w5 ⟨v5, r5, rfl, hv5, hi5, hr5, hm5, hb5⟩
  have hw5 := HW4.out.below hb5
  have CS5 := csame (set_same hr5 HW4.out.ia.1 hi5 HW4.out.ia.2 hm5 (fun x _ => HW4.out.ma x)) hv5 hw5.ra HW4.out.ia.2 HFW.out.1
  have HW5 := Lib.hid hw5
  have H5 := Lib.hid (below_next H4.out hb5)
  clear CR5 hv5 hi5 hr5 hm5 hb5 hw5 HW4
  go_wp2_with (go_at_call 10; refine pause ?_)
  unfold Paused
  refine CS5.mono ?_
  rintro e w6 ⟨rfl, m6, rfl⟩
  have HW6 := Lib.hid (HW5.out.below (below_drewN (Below.refl _ _) m6))
  have H6 := Lib.hid (below_drewN H5.out m6)
  clear CS5 HW5
  generalize w5.drewN m6 = w6 at HW6 H6 ⊢
  have CR7 := missing_any HIN.out w6 H6.out
  unfold SetPost at CR7
  go_wp2_with (go_at_call 12; refine pause ?_)
  unfold Paused
  refine CR7.mono ?_
  rintro e w7 ⟨v7, r7, rfl, hv7, hi7, hr7, hm7, hb7⟩
  have hw7 := HW6.out.below hb7
  have CS7 := csame (set_same hr7 HW6.out.ib.1 hi7 HW6.out.ib.2 hm7 (fun x _ => HW6.out.mb x)) hv7 hw7.rb HW6.out.ib.2 HFW.out.2.1
  have HW7 := Lib.hid hw7
  have H7 := Lib.hid (below_next H6.out hb7)
  clear CR7 hv7 hi7 hr7 hm7 hb7 hw7 HW6
  go_wp2_with (go_at_call 10; refine pause ?_)
  unfold Paused
  refine CS7.mono ?_
  rintro e w8 ⟨rfl, m8, rfl⟩
  have HW8 := Lib.hid (HW7.out.below (below_drewN (Below.refl _ _) m8))
  have H8 := Lib.hid (below_drewN H7.out m8)
  clear CS7 HW7
  generalize w7.drewN m8 = w8 at HW8 H8 ⊢
  have CR9 := wrong_any HIN.out w8 H8.out
  unfold SetPost at CR9
  go_wp2_with (go_at_call 13; refine pause ?_)
  unfold Paused
  refine CR9.mono ?_
  rintro e w9 ⟨v9, r9, rfl, hv9, hi9, hr9, hm9, hb9⟩
  have hw9 := HW8.out.below hb9
  have CS9 := csame (set_same hr9 HW8.out.ic.1 hi9 HW8.out.ic.2 hm9 (fun x _ => HW8.out.mc x)) hv9 hw9.rc HW8.out.ic.2 HFW.out.2.2.1
  have HW9 := Lib.hid hw9
  have H9 := Lib.hid (below_next H8.out hb9)
  clear CR9 hv9 hi9 hr9 hm9 hb9 hw9 HW8
  go_wp2_with (go_at_call 10; refine pause ?_)
  unfold Paused
  refine CS9.mono ?_
  rintro e w10 ⟨rfl, m10, rfl⟩
  have HW10 := Lib.hid (HW9.out.below (below_drewN (Below.refl _ _) m10))
  have H10 := Lib.hid (below_drewN H9.out m10)
  clear CS9 HW9
  generalize w9.drewN m10 = w10 at HW10 H10 ⊢
  have CR11 := loose_any HIN.out w10 H10.out
  unfold SetPost at CR11
  go_wp2_with (go_at_call 14; refine pause ?_)
  unfold Paused
  refine CR11.mono ?_
  rintro e w11 ⟨v11, r11, rfl, hv11, hi11, hr11, hm11, hb11⟩
  have hw11 := HW10.out.below hb11
  have CS11 := csame (set_same hr11 HW10.out.id_.1 hi11 HW10.out.id_.2 hm11 (fun x _ => HLO.out x)) hv11 hw11.rd HW10.out.id_.2 HFW.out.2.2.2
  have HW11 := Lib.hid hw11
  have H11 := Lib.hid (below_next H10.out hb11)
  clear CR11 hv11 hi11 hr11 hm11 hb11 hw11 HW10
  go_wp2_with (go_at_call 10; refine pause ?_)
  unfold Paused
  refine CS11.mono ?_
  rintro e w12 ⟨rfl, m12, rfl⟩
  have HW12 := Lib.hid (HW11.out.below (below_drewN (Below.refl _ _) m12))
  have H12 := Lib.hid (below_drewN H11.out m12)
  clear CS11 HW11
  generalize w11.drewN m12 = w12 at HW12 H12 ⊢
  have CH := whole_any HIN.out w12 H12.out
  unfold WholePost at CH
  go_wp2_with (go_at_call 15; refine pause ?_)
  unfold Paused
  refine CH.mono ?_
  rintro e wz ⟨β, rfl, hβ, hbz⟩
  have HZ := Lib.hid (below_next H12.out hbz)
  have hβ2 := hβ.trans HWH.out
  clear CH hbz hβ
  by_cases hb0 : nb = 0
  · have g5 : ((nb : Int) == 0) = true := by simp [hb0]
    by_cases hc0 : nc = 0
    · have g6 : ((nc : Int) == 0) = true := by simp [hc0]
      obtain rfl : β = true := hβ2.2 ⟨hb0, hc0⟩
      clear hβ2 hb0 hc0
      go_wp2
      go_ret
      exact ⟨rfl, HZ.out⟩
    · have g6 : ((nc : Int) == 0) = false := by simp [hc0]
      obtain rfl : β = false := by
        cases β with
        | false => rfl
        | true => exact absurd (hβ2.1 rfl).2 hc0
      clear hβ2 hb0 hc0
      go_wp2
      go_ret
      exact ⟨rfl, HZ.out⟩
  · have g5 : ((nb : Int) == 0) = false := by simp [hb0]
    obtain rfl : β = false := by
      cases β with
      | false => rfl
      | true => exact absurd (hβ2.1 rfl).1 hb0
    clear hβ2 hb0
    go_wp2
    go_ret
    exact ⟨rfl, HZ.out⟩
end Go.Proofs.YtlodalppnglclaaDoor
/- Arguments of laws, opened: slices of arrays of 32 bytes. -/
namespace Go.Proofs.YtlodalppnglclaaDoor
open Go Go.RowKit Go.WideShapes Go.ChangeShapes
section
variable {H : Type} {enc : TypeId × Value → H} {P : Program} {W : World} {base : Nat} {sp : Nat → Bool} {held : Bool} {t e : TypeId} {n : Nat}
theorem trod_u8arr (ht : P.underlying t = some (.array n e)) (he : P.underlying e = some (.int .u8)) (h1 : P.cellsOf e = 1) (hn : P.cellsOf t = n) {fuel : Nat} {cs : List Value} {y : DataW H × List MemPlace}
    (hf : DataW.trod enc P W base sp held fuel t cs = some y) : ∃ xs : List Nat, cs = cellsN xs ∧ xs.length = n ∧ Sha.Byte xs := by
  cases fuel with
  | zero => simp [DataW.trod] at hf
  | succ m =>
    rw [DataW.trod_step] at hf
    unfold DataW.trodStep at hf
    simp only [ht] at hf
    by_cases hz : cs.length = P.cellsOf t
    · rw [if_pos hz] at hf
      simp only [Option.map_eq_some_iff] at hf
      obtain ⟨ys, hy, _⟩ := hf
      rw [h1] at hy
      rw [hn] at hz
      have hall := mapM_u8 he _ _ hy
      have hget : ∀ i, i < n → ∃ a : Nat, a < 256 ∧ cs[i]? = some (.int .u8 (a : Int)) := fun i hi => by
        obtain ⟨a, ha, hc⟩ := hall i (List.mem_range.2 hi)
        refine ⟨a, ha, ?_⟩
        have := congrArg (fun l => l[0]?) hc
        simpa [List.getElem?_take, List.getElem?_drop] using this
      let f : Value → Nat := fun v => match v with | .int _ a => a.toNat | _ => 0
      refine ⟨cs.map f, ?_, by rw [List.length_map, hz], ?_⟩
      · unfold cellsN
        rw [List.map_map]
        apply List.ext_getElem?
        intro i
        rcases Nat.lt_or_ge i n with hi | hi
        · obtain ⟨a, ha, hc⟩ := hget i hi
          rw [List.getElem?_map, hc]
          simp [f]
        · rw [List.getElem?_eq_none (by omega), List.getElem?_eq_none (by rw [List.length_map]; omega)]
      · intro i
        rcases Nat.lt_or_ge i n with hi | hi
        · obtain ⟨a, ha, hc⟩ := hget i hi
          simp [List.getD, List.getElem?_map, hc, f, ha]
        · simp [List.getD, List.getElem?_eq_none (show cs.length ≤ i by omega)]
    · rw [if_neg hz] at hf
      cases hf
theorem mapM_cells {w : World} {a : Addr} : ∀ (L : List Nat) (cs : List Value), L.mapM (fun i => w.cell? (a.add i)) = some cs → ∀ j, j < L.length → ∃ v, cs[j]? = some v ∧ w.cell? (a.add (L.getD j 0)) = some v
  | [], _, _, j, hj => by simp at hj
  | i :: L, cs, h, j, hj => by
    rw [List.mapM_cons] at h
    simp only [bind, Option.bind_eq_some_iff, pure, Option.some.injEq] at h
    obtain ⟨y, hy, ys, hys, rfl⟩ := h
    cases j with
    | zero => exact ⟨y, rfl, by simpa using hy⟩
    | succ j =>
      obtain ⟨v, h1, h2⟩ := mapM_cells L ys hys j (by simpa using hj)
      exact ⟨v, by simpa using h1, by simpa using h2⟩
theorem spot_none {w : World} {b o : Nat} {s : Option Nat} {v : Value} (h : w.cell? ⟨b, o, s⟩ = some v) : s = none := by
  cases s with
  | none => rfl
  | some k =>
    exfalso
    unfold World.cell? at h
    split at h <;> simp_all
theorem open_oids {ts : TypeId} (hs : P.underlying ts = some (.slice t)) (ht : P.underlying t = some (.array 32 e)) (he : P.underlying e = some (.int .u8)) (h1 : P.cellsOf e = 1) (hn : P.cellsOf t = 32) {r : Reach} {b0 : Nat} {v : Value} {d : DataW H} {ps : List MemPlace}
    (hval : Value.okWide P W r b0 ts v) (hd : DataW.Trod enc P W base sp held ts v d ps) : ∃ l : List (List Nat), RdO W v l ∧ Sha.Oids l ∧ l.length ≤ maxLen := by
  have hv1 : v.cells.toList = [v] := by
    simp only [Value.okWide, hs] at hval
    cases v <;> first | rfl | (simp [Cell.okWide, hs] at hval; done) | (exfalso; simp_all [Cell.okWide, Cell.ok])
  obtain ⟨fuel, hf⟩ := hd
  rw [hv1] at hf
  rcases DataW.trod_slice hs hf with ⟨hc, _⟩ | ⟨a, len, cap, elems, rest, m, _, hc, _, hba, hlc, hcm, hlen, hel, _⟩
  · obtain rfl : v = .slice none 0 0 := by simpa using hc
    exact ⟨[], ⟨none, 0, rfl, Nat.le_refl _, fun h => by simp at h⟩, fun o h => by simp at h, Nat.zero_le _⟩
  · obtain rfl : v = .slice (some a) len cap := by simpa using hc
    rw [hn] at hel
    have hx : ∀ i, i < len → ∃ xs : List Nat, xs.length = 32 ∧ Sha.Byte xs ∧ ∀ j u, (cellsN xs)[j]? = some u → W.cell? ((a.add (i * 32)).add j) = some u := fun i hi => by
      have h := hel i hi
      rw [List.getElem?_eq_getElem (by omega)] at h
      simp only [Option.bind_eq_some_iff] at h
      obtain ⟨cs, hcs, hy⟩ := h
      obtain ⟨xs, rfl, hxl, hxb⟩ := trod_u8arr ht he h1 hn hy
      refine ⟨xs, hxl, hxb, fun j u hu => ?_⟩
      unfold World.cells? at hcs
      split at hcs
      · have hj : j < 32 := by have := (List.getElem?_eq_some_iff.1 hu).1; rw [cellsN_len, hxl] at this; exact this
        obtain ⟨u', h1, h2⟩ := mapM_cells _ _ hcs j (by simpa using hj)
        rw [hu] at h1
        obtain rfl := Option.some.inj h1
        have e : (List.range 32).getD j 0 = j := by simp [List.getD, hj]
        rw [e] at h2
        exact h2
      · cases hcs
    let g : Nat → List Nat := fun i => if h : i < len then Classical.choose (hx i h) else []
    have hg : ∀ i, i < len → (g i).length = 32 ∧ Sha.Byte (g i) ∧ ∀ j u, (cellsN (g i))[j]? = some u → W.cell? ((a.add (i * 32)).add j) = some u := fun i hi => by
      have : g i = Classical.choose (hx i hi) := by simp only [g, hi, dif_pos]
      rw [this]; exact Classical.choose_spec (hx i hi)
    have hlen2 : ((List.range len).map g).length = len := by simp
    have hgd : ∀ i, i < len → ((List.range len).map g).getD i [] = g i := fun i hi => by simp [List.getD, hi]
    refine ⟨(List.range len).map g, ⟨some a, cap, by rw [hlen2], by rw [hlen2]; exact hlc, fun h0 => ?_⟩, fun o ho => ?_, by rw [hlen2]; omega⟩
    · rw [hlen2] at h0
      obtain ⟨b, o, s⟩ := a
      have hz := hg 0 h0
      have hc0 := hz.2.2 0 ((cellsN (g 0))[0]'(by rw [cellsN_len, hz.1]; omega)) (List.getElem?_eq_getElem _)
      have e0 : ((⟨b, o, s⟩ : Addr).add (0 * 32)).add 0 = ⟨b, o, s⟩ := by simp [Addr.add]
      rw [e0] at hc0
      obtain rfl := spot_none hc0
      refine ⟨b, o, rfl, block_lt_of_cell hc0, fun i hi j u hu => ?_⟩
      rw [hlen2] at hi
      rw [hgd i hi] at hu
      have := (hg i hi).2.2 j u hu
      rw [Addr.add_mid, Addr.add_mid] at this
      rw [Nat.mul_comm 32 i]; exact this
    · obtain ⟨i, hi, rfl⟩ := List.mem_map.1 ho
      have hi := List.mem_range.1 hi
      exact ⟨(hg i hi).1, (hg i hi).2.1⟩
end
end Go.Proofs.YtlodalppnglclaaDoor
/- Arguments of laws, opened: slices of slices of bytes. -/
namespace Go.Proofs.YtlodalppnglclaaDoor
open Go Go.RowKit Go.WideShapes Go.ChangeShapes Go.Deep
section
variable {H : Type} {enc : TypeId × Value → H} {P : Program} {W : World} {held : Bool} {t e q : TypeId}
theorem open_parts (ht : P.underlying t = some (.slice e)) (he : P.underlying e = some (.slice q)) (hq : P.underlying q = some (.int .u8)) (ce : P.cellsOf e = 1) (cq : P.cellsOf q = 1) {r : Reach} {b0 : Nat} {v : Value} {d : DataW H} {ps : List MemPlace}
    (hval : Value.okWide P W r b0 t v) (hd : DataW.Trod enc P W 0 (fun _ => true) held t v d ps) :
    ∃ (vs : List Value) (pss : List (List Nat)), RdL W v vs ∧ pss.length = vs.length ∧ (∀ i u, vs[i]? = some u → Rd W u (pss.getD i [])) ∧ (∀ ps ∈ pss, Sha.Byte ps) ∧ vs.length ≤ maxLen ∧ ∀ ps ∈ pss, ps.length ≤ maxLen := by
  have hv1 : v.cells.toList = [v] := by
    simp only [Value.okWide, ht] at hval
    cases v <;> first | rfl | (simp [Cell.okWide, ht] at hval; done) | (exfalso; simp_all [Cell.okWide, Cell.ok])
  obtain ⟨fuel, hf⟩ := hd
  rw [hv1] at hf
  rcases open_int_rows ht he hq ce cq hf with ⟨hc, _⟩ | ⟨a, len, cap, A, L, C, Z, hc, _, hlc, hcm, _, hx⟩
  · obtain rfl : v = .slice none 0 0 := by simpa using hc
    exact ⟨[], [], ⟨none, 0, rfl, Nat.le_refl _, fun h => by simp at h⟩, rfl, fun i u h => by simp at h, fun ps h => by simp at h, Nat.zero_le _, fun ps h => by simp at h⟩
  · obtain rfl : v = .slice (some a) len cap := by simpa using hc
    have hvl : ((List.range len).map fun r => Value.slice (A r) (L r) (C r)).length = len := by simp
    have hpl : ((List.range len).map fun r => ((Z r).take (L r)).map Int.toNat).length = len := by simp
    have hzl : ∀ r, r < cap → (((Z r).take (L r)).map Int.toNat).length = L r := fun r hr => by
      obtain ⟨_, h1, _, h2, _⟩ := hx r hr
      rw [List.length_map, List.length_take]; omega
    have hget : ∀ r, r < cap → ∀ i, i < L r → (((Z r).getD i 0).toNat : Int) = (Z r).getD i 0 ∧ ((Z r).getD i 0).toNat < 256 ∧ (((Z r).take (L r)).map Int.toNat).getD i 0 = ((Z r).getD i 0).toNat := fun r hr i hi => by
      obtain ⟨_, h1, _, h2, h3, _⟩ := hx r hr
      have hiz : i < (Z r).length := by omega
      have e1 : (Z r).getD i 0 = (Z r)[i] := by rw [List.getD_eq_getElem?_getD, List.getElem?_eq_getElem hiz]; rfl
      obtain ⟨g1, g2⟩ := u8_nat (h3 _ (List.getElem_mem hiz))
      refine ⟨by rw [e1]; exact g1, by rw [e1]; exact g2, ?_⟩
      rw [List.getD_eq_getElem?_getD, List.getElem?_map, List.getElem?_take_of_lt hi, List.getElem?_eq_getElem hiz, e1]; rfl
    refine ⟨(List.range len).map fun r => .slice (A r) (L r) (C r), (List.range len).map fun r => ((Z r).take (L r)).map Int.toNat, ⟨some a, cap, by rw [hvl], by rw [hvl]; exact hlc, fun h0 => ?_⟩, by rw [hvl, hpl], fun i u hu => ?_, fun ps hp => ?_, by rw [hvl]; omega, fun ps hp => ?_⟩
    · rw [hvl] at h0
      obtain ⟨b, o, s⟩ := a
      have hc0 := (hx 0 (by omega)).1
      rw [show (⟨b, o, s⟩ : Addr).add 0 = ⟨b, o, s⟩ from by simp [Addr.add]] at hc0
      obtain rfl := spot_free hc0
      refine ⟨b, o, rfl, block_lt_of_cell hc0, fun i u hu => ?_⟩
      have hi : i < len := by have := (List.getElem?_eq_some_iff.1 hu).1; rwa [hvl] at this
      have e1 := (hx i (by omega)).1
      rw [show (⟨b, o, none⟩ : Addr).add i = ⟨b, o + i, none⟩ from by simp [Addr.add]] at e1
      rw [e1, ← hu, List.getElem?_map, List.getElem?_range hi]; rfl
    · have hi : i < len := by have := (List.getElem?_eq_some_iff.1 hu).1; rwa [hvl] at this
      rw [List.getElem?_map, List.getElem?_range hi] at hu
      cases hu
      have hpi : ((List.range len).map fun r => ((Z r).take (L r)).map Int.toNat).getD i [] = ((Z i).take (L i)).map Int.toNat := by
        rw [List.getD_eq_getElem?_getD, List.getElem?_map, List.getElem?_range hi]; rfl
      rw [hpi]
      obtain ⟨_, h1, h2, h3, _, h5, h6⟩ := hx i (by omega)
      refine ⟨A i, C i, by rw [hzl i (by omega)], by rw [hzl i (by omega)]; exact h1, fun h0 => ?_⟩
      rw [hzl i (by omega)] at h0
      cases hA : A i with
      | none => have := h5 hA; omega
      | some a' =>
        obtain ⟨b, o, s⟩ := a'
        obtain ⟨_, h7⟩ := h6 _ hA
        have hc0 := h7 0 (by omega)
        rw [show (⟨b, o, s⟩ : Addr).add 0 = ⟨b, o, s⟩ from by simp [Addr.add]] at hc0
        obtain rfl := spot_free hc0
        refine ⟨b, o, rfl, block_lt_of_cell hc0, fun j hj => ?_⟩
        rw [hzl i (by omega)] at hj
        have e1 := h7 j (by omega)
        rw [show (⟨b, o, none⟩ : Addr).add j = ⟨b, o + j, none⟩ from by simp [Addr.add]] at e1
        obtain ⟨g1, _, g3⟩ := hget i (by omega) j hj
        rw [e1, g3, g1]
    · obtain ⟨r, hr, rfl⟩ := List.mem_map.1 hp
      have hr' := List.mem_range.1 hr
      intro i
      by_cases hi : i < L r
      · obtain ⟨_, g2, g3⟩ := hget r (by omega) i hi
        rw [g3]; exact g2
      · rw [List.getD_eq_getElem?_getD, List.getElem?_eq_none (by rw [hzl r (by omega)]; omega)]; decide
    · obtain ⟨r, hr, rfl⟩ := List.mem_map.1 hp
      have hr' := List.mem_range.1 hr
      obtain ⟨_, h1, h2, _⟩ := hx r (by omega)
      rw [hzl r (by omega)]; omega
end
end Go.Proofs.YtlodalppnglclaaDoor
