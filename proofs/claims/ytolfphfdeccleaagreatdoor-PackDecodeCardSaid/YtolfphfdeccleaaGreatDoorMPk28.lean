/- The law PackDecode. -/
import Derived.Test.YtolfphfdeccleaaGreatDoorMPk27
import Derived.Test.YtolfphfdeccleaaGreatDoorMPkNs
import Derived.Test.YtolfphfdeccleaaGreatDoorMNums
import Derived.Test.YtolfphfdeccleaaGreatDoorMLawKits
namespace Go.Proofs.YtolfphfdeccleaaGreatDoor
open Go Go.RowKit
namespace Pk
theorem runE_le (base d : List Nat) (to : Nat) : ∀ (l : List Dl.Ev) (out : List Nat) (k : Nat), Dl.runE base d to l out = .err k → k ≤ 3
  | [], out, k, h => by
    rw [Dl.runE] at h
    split at h
    · injection h with h; omega
    · cases h
  | .bad s :: _, out, k, h => by
    rw [Dl.runE] at h
    injection h with h
    cases s <;> simp at h <;> omega
  | .copy n f :: r, out, k, h => by
    rw [Dl.runE] at h
    split at h
    · injection h with h; omega
    · split at h
      · injection h with h; omega
      · exact runE_le base d to r _ k h
  | .fresh n f :: r, out, k, h => by
    rw [Dl.runE] at h
    split at h
    · injection h with h; omega
    · exact runE_le base d to r _ k h
theorem applyP_le {base d : List Nat} {k : Nat} (h : Dl.applyP base d = .err k) : k < 22 := by
  unfold Dl.applyP at h
  split at h
  · injection h with h; omega
  · split at h
    · injection h with h; omega
    · split at h
      · injection h with h; omega
      · have := runE_le _ _ _ _ _ _ h; omega
theorem parse_bad_le {t : List Nat} {e : Nat} (h : Ob.parse t = .bad e) : e ≤ 22 := by
  have hf : ∀ o, Prs.fin o = .bad e → e ≤ 22 := fun o h => by
    unfold Prs.fin at h
    split at h
    · cases h
    · cases h; omega
  unfold Ob.parse at h
  split at h
  · cases h; omega
  · repeat' split at h
    all_goals first | exact hf _ h | (cases h; omega)
theorem adm_le (out : List Item) (t : List Nat) : adm out t ≤ 22 := by
  unfold adm
  split
  · omega
  · split
    · rename_i e he
      exact parse_bad_le he
    · split <;> omega
theorem told_le {out kn : List Item} {xs : List Nat} {c : Nat} (h : told out kn xs = .bad c) : 1 ≤ c ∧ c ≤ 22 := by
  obtain _ | ⟨k, ys⟩ := xs
  · cases h; omega
  · rw [told_cons] at h
    split at h
    · split at h
      · cases h; omega
      · cases h
    · split at h
      · split at h
        · cases h; omega
        · split at h
          · cases h; omega
          · split at h
            · cases h; omega
            · split at h
              · cases h; omega
              · split at h
                · rename_i k hk
                  cases h
                  have := applyP_le hk; omega
                · cases h
      · cases h; omega
theorem step_le {out kn : List Item} {xs : List Nat} {c : Nat} (h : step out kn xs = .bad c) : 1 ≤ c ∧ c ≤ 22 := by
  unfold step at h
  split at h
  · rename_i e he
    cases h
    exact told_le he
  · split at h
    · cases h
    · rename_i q hq hne
      cases h
      have := adm_le out q.1.1
      exact ⟨by omega, this⟩
theorem go_le (kn : List Item) : ∀ (n : Nat) (out : List Item) (xs : List Nat) (c : Nat), go kn n out xs = .bad c → 1 ≤ c ∧ c ≤ 22
  | 0, out, xs, c, h => by
    unfold go at h
    split at h
    · cases h
    · cases h; omega
  | n + 1, out, xs, c, h => by
    unfold go at h
    split at h
    · rename_i e he
      cases h
      exact step_le he
    · exact go_le kn n _ _ c h
theorem decode_le {kn : List Item} {b : List Nat} {c : Nat} (h : decode kn b = .bad c) : 1 ≤ c ∧ c ≤ 22 := by
  unfold decode at h
  split at h
  · cases h; omega
  · split at h
    · cases h; omega
    · split at h
      · cases h; omega
      · exact go_le _ _ _ _ _ h
end Pk
theorem pk_marked_rd {w : World} {v : Value} {xs : List Nat} (h : Marked w v xs) : Rd w v xs := by
  obtain ⟨b, c, hv, h1, h2, h3, h4⟩ := h
  refine ⟨_, c, hv, by omega, fun h0 => ⟨b, 0, rfl, h3, fun i hi => ?_⟩⟩
  rw [Nat.zero_add, h4 i (by omega)]
  rw [List.getD_eq_getElem?_getD, List.getD_eq_getElem?_getD, List.getElem?_append_left hi]
theorem pk_marked_below {w w' : World} {v : Value} {xs : List Nat} (h : Marked w v xs) (hb : Below w.heap.size w w') : Marked w' v xs := by
  obtain ⟨b, c, hv, h1, h2, h3, h4⟩ := h
  exact ⟨b, c, hv, h1, h2, Nat.lt_of_lt_of_le h3 hb.size, fun i hi => (hb.cell (p := ⟨b, i, none⟩) h3).trans (h4 i hi)⟩
theorem ksents_of {w : World} {a : Nat → Addr} (h : Sents w a) : KSents w a := fun k hk => h k (by omega)
theorem pnum_code (c : Nat) (h : 1 ≤ c ∧ c ≤ 22) (a : Nat → Addr) (w : World) (hs : Sents w a) :
    Calls Tryz.prog 11 #[ecode a c] w fun e w' => e = .returned (.int .i64 (c : Int)) ∧ Below w.heap.size w w' := by
  have h1 := num_any (c - 1) (by omega) a w hs
  rw [show c - 1 + 1 = c by omega] at h1
  exact h1
theorem pcount_all (A : Option Addr) (n c x : Nat) (r : List Nat) (w : World) (h : Rd w (.slice A n c) (x :: r)) (hx : x < 256) :
    Calls Tryz.prog 13 #[.slice A n c] w fun e w' => e = .returned (.tuple #[.int .i64 (x : Int), .nilIface]) ∧ w' = w := by
  obtain ⟨A', c', hv, hc, hA⟩ := h
  injection hv with e1 e2 e3
  obtain ⟨b, o, rfl, hb, hr⟩ := hA (by simp)
  subst e1 e2 e3
  have p0 : w.cell? ⟨b, o, none⟩ = some (.int .u8 (x : Int)) := hr 0 (by simp)
  rw [List.length_cons]
  have g0 : ((r.length + 1 : Nat) : Int) ≠ 0 := by omega
  have g1 : (0 : Int) < ((r.length + 1 : Nat) : Int) := by omega
  have w8 : wrap64 (x : Int) = (x : Int) := IntWalk.wrap64_in _ (by omega)
  generalize r.length + 1 = m at g0 g1
  clear hr hA hc hb
  go_enter Tryz.func13, Tryz.ntmps13
  go_wp2
  go_ret2
  exact ⟨rfl, rfl⟩
theorem pcount_nil (A : Option Addr) (c : Nat) (ae : Addr) (w : World) (h : w.cell? ⟨1, 0, none⟩ = some (ev ae)) :
    Calls Tryz.prog 13 #[.slice A 0 c] w fun e w' => e = .returned (.tuple #[.int .i64 0, ev ae]) ∧ Below w.heap.size w w' := by
  go_enter Tryz.func13, Tryz.ntmps13
  go_wp2
  try go_quiet (fail)
  try go_wp2
  go_ret2
  first | exact ⟨rfl, Below.refl _ _⟩ | exact ⟨rfl, below_drewN (Below.refl _ _) _⟩
set_option maxRecDepth 100000 in
set_option maxHeartbeats 1000000 in
/-- two lists of numbers that are the same -/
theorem psameInts_yes (u v : Value) (cs : List Value) (w : World) (h1 : RdL w u cs) (h2 : RdL w v cs) (hc : ∀ x ∈ cs, ∃ z : Int, x = .int .i64 z) (hn : cs.length ≤ 100000) :
    Calls Tryz.prog 15 #[u, v] w fun e w' => e = .returned (.bool true) ∧ ∃ m, w' = w.drewN m := by
  obtain ⟨n, hnl⟩ : ∃ n, n = cs.length := ⟨_, rfl⟩
  obtain ⟨A1, c1, rfl, hc1, hA1⟩ := h1
  obtain ⟨A2, c2, rfl, hc2, hA2⟩ := h2
  rw [← hnl] at hc1 hA1 hc2 hA2 hn ⊢
  have HA1 := Lib.hid hA1
  have HA2 := Lib.hid hA2
  have HCC := Lib.hid hc
  have HNL := Lib.hid hnl
  clear hA1 hA2 hc hnl
  go_enter Tryz.func15, Tryz.ntmps15
  go_wp2_with fail
  go_loopw [13] (fun j wr => ∃ k : Nat, k ≤ n ∧ j = .int .i64 k ∧ ∃ m, wr = w.drewN m) (fun j _ => n - (intOf j).toNat)
  case atStart => exact ⟨0, Nat.zero_le _, rfl, 0, rfl⟩
  case round =>
    obtain ⟨k, hk, rfl, m, rfl⟩ := hrel
    by_cases hlt : k < n
    · have i0 : ((k : Nat) : Int) < (n : Int) := by omega
      have i1 : (0 : Int) ≤ ((k : Nat) : Int) := by omega
      obtain ⟨b1, o1, rfl, hb1, hx1⟩ := HA1.out (by omega)
      obtain ⟨b2, o2, rfl, hb2, hx2⟩ := HA2.out (by omega)
      obtain ⟨x, hx⟩ : ∃ x, cs[k]? = some x := ⟨cs[k]'(by rw [← HNL.out]; exact hlt), List.getElem?_eq_getElem _⟩
      obtain ⟨z, rfl⟩ := HCC.out x (List.mem_of_getElem? hx)
      obtain ⟨wo, hwo⟩ : ∃ wo, wo = w.drewN m := ⟨_, rfl⟩
      have p1 : wo.cell? ⟨b1, o1 + k, none⟩ = some (.int .i64 z) := by rw [hwo]; exact hx1 k _ hx
      have p2 : wo.cell? ⟨b2, o2 + k, none⟩ = some (.int .i64 z) := by rw [hwo]; exact hx2 k _ hx
      have HLT := Lib.hid hlt
      have HWO : Hid (∀ q, ∃ m', wo.drewN q = w.drewN m') := Lib.hid (fun q => ⟨m + q, by rw [hwo]; simp⟩)
      clear hx1 hx2 hx hlt hk hb1 hb2
      rw [← hwo]
      clear hwo
      go_wp2_with fail
      go_quiet (fail)
      go_wp2_with fail
      refine ⟨⟨k + 1, HLT.out, by simp, HWO.out _⟩, by have := HLT.out; simp [intOf]; omega⟩
    · obtain rfl : k = n := by omega
      have i0 : ¬ ((k : Nat) : Int) < (k : Int) := by omega
      clear hk hlt
      go_wp2_with fail
      go_ret
      exact ⟨rfl, _, rfl⟩
theorem pk_items_texts {out : List Pk.It} {l : List Pk.Item} (h : out.map Pk.It.item = l) : out.map (·.text) = l.map (·.1) := by
  rw [← h, List.map_map]; rfl
theorem rdll_nil (w : World) : RdLL w (.slice none 0 0) [] [] := ⟨none, 0, rfl, Nat.le_refl _, rfl, fun h => absurd h (by simp), fun i u h => by simp at h⟩
theorem rdl_nil (w : World) : RdL w (.slice none 0 0) [] := ⟨none, 0, rfl, Nat.le_refl _, fun h => absurd h (by simp)⟩
theorem dep_items {out : List Pk.It} {l : List Pk.Item} (h : out.map Pk.It.item = l) : out.map depV = l.map (fun q => Value.int .i64 (q.2 : Int)) := by
  rw [← h, List.map_map]; rfl
set_option maxRecDepth 100000 in
set_option maxHeartbeats 8000000 in
theorem pdecode_law (Ab : Option Addr) (nb cb : Nat) (xs : List Nat) (A : Option Addr) (n c : Nat) (its : List Pk.It) (a : Nat → Addr) (w : World) (hv : Rd w (.slice Ab nb cb) xs) (hb : Sha.Byte xs) (hT : Txts w (.slice A n c) its) (hd : ∀ p ∈ its, p.depth = 0) (ht : Tabs w) (hS : Sents w a) :
    Calls Tryz.prog 3 #[.slice Ab nb cb, .slice A n c] w fun e w' => e = .returned (.bool true) ∧ Below w.heap.size w w' := by
  have AL := palive_any w
  have hnb : nb = xs.length := by obtain ⟨_, _, hv, _⟩ := hv; injection hv
  have hnl : n = its.length := by
    obtain ⟨A', c', hv, _⟩ := hT.row
    injection hv with e1 e2 e3
    rw [e2, List.length_map]
  by_cases h1 : 2500 < nb
  · have g1 : (2500 : Int) < (nb : Int) := by omega
    clear hv hb hT hd ht hS hnb hnl h1
    go_enter Tryz.func3, Tryz.ntmps3
    go_wp2_with (go_at_call 5; refine AL.mono ?_; rintro e w1 ⟨rfl, hb1⟩)
    go_ret
    exact ⟨rfl, hb1⟩
  have g1 : ¬ (2500 : Int) < (nb : Int) := by omega
  have LG := fun (w1 : World) (h1 : Below w.heap.size w w1) => long_any A n c its w1 (hT.below h1)
  have HV := Lib.hid hv
  have HB := Lib.hid hb
  have HT := Lib.hid hT
  have HD := Lib.hid hd
  have HTB := Lib.hid ht
  have HS := Lib.hid hS
  have HNL := Lib.hid hnl
  have HNB := Lib.hid hnb
  have HZ : Hid (xs.length ≤ 2500) := Lib.hid (by omega)
  clear hv hb hT hd ht hS hnb hnl h1
  go_enter Tryz.func3, Tryz.ntmps3
  go_wp2_with (go_at_call 5; refine pause ?_)
  unfold Paused
  refine AL.mono ?_
  rintro e w1 ⟨rfl, hb1⟩
  have H1 := Lib.hid hb1
  have LG1 := LG w1 hb1
  clear hb1 AL LG
  go_wp2_with (go_at_call 6; refine pause ?_)
  unfold Paused
  refine LG1.mono ?_
  rintro e w2 ⟨β, rfl, hβ, rfl⟩
  rcases β with _ | _
  · obtain ⟨h70, h400⟩ := hβ rfl
    by_cases h12 : 12 < n
    · have g2 : (12 : Int) < (n : Int) := by omega
      clear LG1 hβ h70 h400
      go_wp2
      go_ret
      exact ⟨rfl, H1.out⟩
    have g2 : ¬ (12 : Int) < (n : Int) := by omega
    have HKN : Hid (∀ w', Below w.heap.size w w' → Known w' A c its) := Lib.hid (fun w' h => (Known.of (HT.out.below h) HD.out (fun p hp => by have := h400 p hp; omega) (by omega)).2)
    have H400 := Lib.hid h400
    have HN12 : Hid (its.length ≤ 100) := Lib.hid (by omega)
    clear LG1 hβ h70 h400 h12
    have CBY := bytes_any (.slice Ab nb cb) xs w2 (HV.out.below H1.out (Nat.le_refl _)) HB.out (by have := HZ.out; omega)
    go_wp2_with (go_at_call 7; refine pause ?_)
    unfold Paused
    refine CBY.mono ?_
    rintro e w3 ⟨v3, rfl, hmk, hb3⟩
    have HMK := Lib.hid hmk
    have h3 := below_next H1.out hb3
    have H3 := Lib.hid h3
    obtain ⟨b3, c3, rfl, _⟩ := hmk
    have CD := decodeL_any (kn := its) a xs (some ⟨b3, 0, none⟩) xs.length c3 w3 (pk_marked_rd HMK.out) HB.out (by have := HZ.out; omega) (HKN.out w3 h3) (HTB.out.below h3 (Nat.le_refl _)) ((ksents_of HS.out).below h3 (Nat.le_refl _))
    have CN := fun (w4 : World) (hb4 : Below w3.heap.size w3 w4) => decodeN_any (kn := its) a xs (some ⟨b3, 0, none⟩) xs.length c3 w4 ((pk_marked_rd HMK.out).below hb4 (Nat.le_refl _)) HB.out (by have := HZ.out; omega) (HKN.out w4 (below_next h3 hb4)) (HTB.out.below (below_next h3 hb4) (Nat.le_refl _)) ((ksents_of HS.out).below (below_next h3 hb4) (Nat.le_refl _))
    have CR := fun (w5 : World) (hb5 : Below w.heap.size w w5) => rdecode_any Ab nb cb xs A n c its w5 (HV.out.below hb5 (Nat.le_refl _)) HB.out (by have := HZ.out; omega) (HT.out.below hb5) HD.out H400.out HN12.out
    have CK := fun (w8 : World) (hb8 : Below w3.heap.size w3 w8) => kept_any (.slice (some ⟨b3, 0, none⟩) xs.length c3) (.slice Ab nb cb) xs w8 (pk_marked_below HMK.out hb8) (HV.out.below (below_next h3 hb8) (Nat.le_refl _)) (by have := HZ.out; omega)
    rw [← HNL.out] at CD CN
    unfold DecL at CD
    unfold DecN at CN
    unfold RDecPost at CR
    clear hb3 CBY h3
    obtain ⟨nx, hnx⟩ : ∃ n, n = xs.length := ⟨_, rfl⟩
    rw [← hnx] at CD CN CK HMK ⊢
    have HNX := Lib.hid hnx
    clear hnx
    cases hdc : Pk.decode (its.map Pk.It.item) xs with
    | bad c' =>
      rw [hdc] at CD CN CR
      simp only at CD CN CR
      have HC := Lib.hid (Pk.decode_le hdc)
      have HDC := Lib.hid hdc
      have HCN := Lib.hid CN
      have HCR := Lib.hid CR
      have HCK := Lib.hid CK
      clear hdc CN CR CK
      go_wp2_with (go_at_call 8; refine pause ?_)
      unfold Paused
      refine CD.mono ?_
      rintro e w4 ⟨rfl, hb4⟩
      have H4 := Lib.hid hb4
      clear hb4 CD
      go_wp2_with (go_at_call 9; refine pause ?_)
      unfold Paused
      refine (HCN.out w4 H4.out).mono ?_
      rintro e w5 ⟨rfl, hb5⟩
      have H5 := Lib.hid (below_then H4.out hb5)
      clear hb5 HCN
      go_wp2_with (go_at_call 10; refine pause ?_)
      unfold Paused
      refine (HCR.out w5 (below_next H3.out H5.out)).mono ?_
      rintro e w6 ⟨hb6, rfl⟩
      have H6 := Lib.hid (below_then H5.out hb6)
      clear hb6 HCR
      go_wp2_with (go_at_call 11; refine pause ?_)
      unfold Paused
      refine (pnum_code c' HC.out a w6 (HS.out.below (below_next H3.out H6.out) (Nat.le_refl _))).mono ?_
      rintro e w7 ⟨rfl, hb7⟩
      have H7 := Lib.hid (below_then H6.out hb7)
      clear hb7
      go_wp2_with (go_at_call 11; refine pause ?_)
      unfold Paused
      refine (pnum_code c' HC.out a w7 (HS.out.below (below_next H3.out H7.out) (Nat.le_refl _))).mono ?_
      rintro e w8 ⟨rfl, hb8⟩
      have H8 := Lib.hid (below_then H7.out hb8)
      clear hb8
      go_wp2_with (go_at_call 12; refine pause ?_)
      unfold Paused
      refine (HCK.out w8 H8.out).mono ?_
      rintro e w9 ⟨rfl, m9, rfl⟩
      have H9 := Lib.hid (below_next H3.out (below_drewN H8.out m9))
      generalize w8.drewN m9 = w9 at H9 ⊢
      clear HCK
      obtain _ | ⟨x, r⟩ := xs
      · have hn0 : nb = 0 := HNB.out
        subst hn0
        obtain rfl : c' = 2 := by
          have h := HDC.out
          have e0 : Pk.decode (its.map Pk.It.item) [] = .bad 2 := rfl
          rw [e0] at h
          injection h with h
          exact h.symm
        have CC := pcount_nil Ab cb (a 1) w9 ((HS.out.below H9.out (Nat.le_refl _)) 1 (by omega)).var
        go_wp2_with (go_at_call 13; refine pause ?_)
        unfold Paused
        refine CC.mono ?_
        rintro e wa ⟨rfl, hba⟩
        have HA9 := Lib.hid (below_next H9.out hba)
        clear hba CC
        go_wp2_with (go_at_call 11; refine pause ?_)
        unfold Paused
        refine (num_any 1 (by omega) a wa (HS.out.below HA9.out (Nat.le_refl _))).mono ?_
        rintro e wb ⟨rfl, hbb⟩
        have HB9 := Lib.hid (below_next HA9.out hbb)
        clear hbb
        go_wp2
        go_ret
        exact ⟨rfl, HB9.out⟩
      · have hx256 : x < 256 := by have h := HB.out 0; simpa using h
        have CC := pcount_all Ab nb cb x r w9 (HV.out.below H9.out (Nat.le_refl _)) hx256
        obtain ⟨b0, o0, rfl, p0⟩ : ∃ b o, Ab = some ⟨b, o, none⟩ ∧ w9.cell? ⟨b, o, none⟩ = some (.int .u8 (x : Int)) := by
          obtain ⟨A', c', hv, _, hA⟩ := HV.out.below H9.out (Nat.le_refl _)
          injection hv with e1 e2 e3
          obtain ⟨b, o, hAA, _, hr⟩ := hA (by simp)
          exact ⟨b, o, by rw [e1, hAA], hr 0 (by simp)⟩
        have gn : ((nb : Int) == 0) = false := by rw [HNB.out]; simp; omega
        have gn2 : (0 : Int) < (nb : Int) := by have h := HNB.out; rw [List.length_cons] at h; omega
        have gx : (x : Int) < 256 := by omega
        have gx2 : (0 : Int) ≤ (x : Int) := by omega
        have CS := psameLists_yes (.slice none 0 0) (.slice none 0 0) [] [] [] w9 (rdll_nil _) (rdll_nil _) (by simp)
        have CI := fun m => psameInts_yes (.slice none 0 0) (.slice none 0 0) [] (w9.drewN m) (rdl_nil _) (rdl_nil _) (fun x hx => by cases hx) (by simp)
        clear hx256
        go_wp2_with (go_at_call 13; refine pause ?_)
        unfold Paused
        refine CC.mono ?_
        rintro e wa ⟨rfl, rfl⟩
        clear CC
        go_wp2_with (go_at_call 14; refine pause ?_)
        unfold Paused
        refine CS.mono ?_
        rintro e wb ⟨rfl, m1, rfl⟩
        clear CS
        go_wp2_with (go_at_call 15; refine pause ?_)
        unfold Paused
        refine (CI m1).mono ?_
        rintro e wc ⟨rfl, m2, rfl⟩
        clear CI
        go_wp2
        go_ret
        exact ⟨rfl, below_drewN H9.out _⟩
    | ok l =>
      rw [hdc] at CD CN CR
      simp only at CD CN CR
      have HGD := Lib.hid (Pk.decode_good hdc)
      have HCN := Lib.hid CN
      have HCR := Lib.hid CR
      have HCK := Lib.hid CK
      clear hdc CN CR CK
      go_wp2_with (go_at_call 8; refine pause ?_)
      unfold Paused
      refine CD.mono ?_
      rintro e w4 ⟨v4, out4, ho4, rfl, hl4, hb4⟩
      have H4 := Lib.hid hb4
      have HL4 := Lib.hid hl4
      have HO4 := Lib.hid ho4
      clear hb4 CD hl4 ho4
      go_wp2_with (go_at_call 9; refine pause ?_)
      unfold Paused
      refine (HCN.out w4 H4.out).mono ?_
      rintro e w5 ⟨v5, out5, ho5, rfl, ⟨B5, hB5, hown5⟩, hb5⟩
      have H45 := Lib.hid hb5
      have H5 := Lib.hid (below_then H4.out hb5)
      have HO5 := Lib.hid ho5
      have HD5 : Hid (RdL w5 v5 (out5.map depV)) := Lib.hid (rdl_own hown5 (by rw [List.length_map]))
      clear hb5 HCN hown5 hB5 ho5
      go_wp2_with (go_at_call 10; refine pause ?_)
      unfold Paused
      refine (HCR.out w5 (below_next H3.out H5.out)).mono ?_
      rintro e w6 ⟨hb6, v6, vd6, out6, ho6, rfl, hl6, hd6⟩
      have H56 := Lib.hid hb6
      have H6 := Lib.hid (below_then H5.out hb6)
      have HO6 := Lib.hid ho6
      have HL6 := Lib.hid hl6
      have HD6 := Lib.hid hd6
      clear hb6 HCR hl6 hd6 ho6
      go_wp2_with (go_at_call 11; refine pause ?_)
      unfold Paused
      refine (num_nil w6).mono ?_
      rintro e w7 ⟨rfl, rfl⟩
      go_wp2_with (go_at_call 11; refine pause ?_)
      unfold Paused
      refine (num_nil w7).mono ?_
      rintro e w8 ⟨rfl, rfl⟩
      go_wp2_with (go_at_call 12; refine pause ?_)
      unfold Paused
      refine (HCK.out w8 H6.out).mono ?_
      rintro e w9 ⟨rfl, m9, rfl⟩
      clear HCK
      have H69 : Hid (Below w8.heap.size w8 (w8.drewN m9)) := Lib.hid (below_drewN (Below.refl _ _) m9)
      have H9 := Lib.hid (below_next H3.out (below_drewN H6.out m9))
      generalize w8.drewN m9 = w9 at H9 H69 ⊢
      obtain ⟨r, hxr⟩ := HGD.out.2.1
      obtain ⟨x, hxl⟩ : ∃ x, x = l.length := ⟨_, rfl⟩
      rw [← hxl] at hxr
      have hx64 : x ≤ 64 := by rw [hxl]; exact HGD.out.2.2
      have HXL := Lib.hid hxl
      have CC := pcount_all Ab nb cb x r w9 (by rw [← hxr]; exact HV.out.below H9.out (Nat.le_refl _)) (by omega)
      obtain ⟨b0, o0, rfl, p0⟩ : ∃ b o, Ab = some ⟨b, o, none⟩ ∧ w9.cell? ⟨b, o, none⟩ = some (.int .u8 (x : Int)) := by
        obtain ⟨A', c', hv, _, hA⟩ := HV.out.below H9.out (Nat.le_refl _)
        injection hv with e1 e2 e3
        obtain ⟨b, o, hAA, _, hr⟩ := hA (by rw [hxr]; simp)
        exact ⟨b, o, by rw [e1, hAA], by have h := hr 0 (by rw [hxr]; simp); rw [hxr] at h; exact h⟩
      have gn : ((nb : Int) == 0) = false := by rw [HNB.out, hxr]; simp; omega
      have gn2 : (0 : Int) < (nb : Int) := by have h := HNB.out; rw [hxr, List.length_cons] at h; omega
      have gx : (x : Int) < 256 := by omega
      have gx2 : (0 : Int) ≤ (x : Int) := by omega
      have HMM : Hid (Below w4.heap.size w4 w9) := Lib.hid (below_then (below_then H45.out H56.out) H69.out)
      have HM5 : Hid (Below w5.heap.size w5 w9) := Lib.hid (below_then H56.out H69.out)
      have CS := psameLists_yes v4 v6 _ _ (l.map (·.1)) w9 (by rw [← pk_items_texts HO4.out]; exact (HL4.out.below HMM.out).ll) (by rw [← pk_items_texts HO6.out]; exact (HL6.out.below H69.out).ll) (by rw [List.length_map, ← hxl]; omega)
      have CI := fun m => psameInts_yes v5 vd6 (l.map (fun q => Value.int .i64 (q.2 : Int))) (w9.drewN m) (rdl_below (by rw [← dep_items HO5.out]; exact HD5.out) (below_drewN HM5.out m) (Nat.le_refl _)) (rdl_below (by rw [← dep_items HO6.out]; exact HD6.out) (below_drewN H69.out m) (Nat.le_refl _)) (fun x hx => by obtain ⟨q, _, rfl⟩ := List.mem_map.1 hx; exact ⟨_, rfl⟩) (by rw [List.length_map, ← hxl]; omega)
      clear hx64 hxr hxl
      go_wp2_with (go_at_call 13; refine pause ?_)
      unfold Paused
      refine CC.mono ?_
      rintro e wa ⟨rfl, rfl⟩
      clear CC
      go_wp2_with (go_at_call 14; refine pause ?_)
      unfold Paused
      refine CS.mono ?_
      rintro e wb ⟨rfl, m1, rfl⟩
      clear CS
      go_wp2_with (go_at_call 15; refine pause ?_)
      unfold Paused
      refine (CI m1).mono ?_
      rintro e wc ⟨rfl, m2, rfl⟩
      clear CI
      go_wp2
      go_ret
      exact ⟨rfl, below_drewN H9.out _⟩
  · clear LG1 hβ
    go_wp2
    go_ret
    exact ⟨rfl, H1.out⟩
end Go.Proofs.YtolfphfdeccleaaGreatDoor
