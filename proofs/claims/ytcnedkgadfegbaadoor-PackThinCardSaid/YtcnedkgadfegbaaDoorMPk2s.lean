/- What is encoded is decoded as it was. -/
import Derived.Test.YtcnedkgadfegbaaDoorMPk1s
import Derived.Test.YtcnedkgadfegbaaDoorMPk14s
namespace Go.Proofs.YtcnedkgadfegbaaDoor
open Go Go.RowKit
namespace Pk
theorem text_lays (n : Nat) (d rest : List Nat) (hn : n = d.length) (h : n < 65536) : text ([n / 256, n % 256] ++ d ++ rest) = some (d, rest) := by
  have hv : Oc.val (([n / 256, n % 256] ++ d ++ rest).take 2) = n := by
    show Oc.val [n / 256, n % 256] = n
    simp [Oc.val]
    omega
  have hl : ([n / 256, n % 256] ++ d ++ rest).length = 2 + n + rest.length := by simp [hn]; omega
  unfold text
  rw [hv, hl, if_neg (by omega), if_neg (by omega)]
  have e1 : ([n / 256, n % 256] ++ d ++ rest).drop 2 = d ++ rest := rfl
  rw [← List.drop_drop, e1, hn, List.take_left, List.drop_left]
theorem okL_none {t : List Nat} : ∀ {l : List (Nat × Nat × Nat)} {told : Nat}, Dl.okL [] t told l → l = []
  | [], _, _ => rfl
  | (p, n, f) :: l, told, h => by
    obtain ⟨_, _, h3, _, h5, _⟩ := h
    simp at h5
    omega
theorem mk_none (t : List Nat) : t.length < (Dl.mk [] t).length + 40 := by
  have h := okL_none (Dl.okL_cps [] t _ 0 0 (Nat.le_refl _) (Nat.le_refl _) (Nat.zero_le _))
  rw [Dl.mk_len, h, Dl.mkS, Dl.fr_eq, Dl.frp_len _ _ 0 (Nat.le_refl _)]
  simp
  omega
/-- the last one of a row; at first one of no bytes -/
def Last (out : List Item) (last : Item) : Prop := (out = [] ∧ last = ([], 0)) ∨ ∃ o, out = o ++ [last]
theorem step_lays {out kn : List Item} {last : Item} {t rest : List Nat} (hL : Last out last) (hl : last.1.length ≤ 300) (ha : adm out t = 0) :
    step out kn ((lays last t).1 ++ rest) = .ok ((t, (lays last t).2), rest) := by
  have ht := (admit_zero ha).1
  have key : told out kn ((lays last t).1 ++ rest) = .ok ((t, (lays last t).2), rest) := by
    unfold lays
    split
    · rename_i h
      obtain ⟨h5, h40⟩ := h
      have hS : (Sha.sum last.1).length = 32 := Sha.join_len _
      rcases hL with ⟨_, rfl⟩ | ⟨o, ho⟩
      · have h2 : (Dl.mk [] t).length + 40 ≤ t.length := h40
        have := mk_none t; omega
      · obtain ⟨d, hd⟩ : ∃ d, d = Dl.mk last.1 t := ⟨_, rfl⟩
        rw [← hd] at h40
        have hdl : d.length < 65536 := by omega
        have e1 : ((1 :: Sha.sum last.1) ++ ([(Dl.mk last.1 t).length / 256, (Dl.mk last.1 t).length % 256] ++ Dl.mk last.1 t)) ++ rest = 1 :: (Sha.sum last.1 ++ ([d.length / 256, d.length % 256] ++ d ++ rest)) := by
          rw [← hd]; simp
        simp only
        rw [e1]
        rw [told_cons]
        rw [if_neg (by omega), if_pos rfl, if_neg (by simp [hS])]
        have e2 : (Sha.sum last.1 ++ ([d.length / 256, d.length % 256] ++ d ++ rest)).drop 32 = [d.length / 256, d.length % 256] ++ d ++ rest := by
          rw [← hS, List.drop_left]
        have e3 : (Sha.sum last.1 ++ ([d.length / 256, d.length % 256] ++ d ++ rest)).take 32 = Sha.sum last.1 := by
          rw [← hS, List.take_left]
        rw [e2, e3, text_lays _ d rest rfl hdl]
        have hb : base out kn (Sha.sum last.1) = some last := by
          unfold base
          rw [ho, find_snoc, if_pos rfl]
        simp only
        rw [hb]
        simp only
        rw [if_neg (by omega), hd, Dl.mk_back last.1 t hl ht]
    · have e1 : (0 :: ([t.length / 256, t.length % 256] ++ t)) ++ rest = 0 :: ([t.length / 256, t.length % 256] ++ t ++ rest) := by simp
      simp only
      rw [e1]
      rw [told_cons]
      rw [if_pos rfl, text_lays _ t rest rfl (by omega)]
  unfold step
  rw [key]
  simp only
  rw [if_pos ha]
theorem enc_go (kn : List Item) : ∀ (r : List (List Nat)) (out : List Item) (last : Item) (pk b : List Nat), encGo r out last pk = .ok b → Last out last → last.1.length ≤ 300 →
    b.length ≤ 2000 ∧ ∃ tail its, b = pk ++ tail ∧ go kn r.length out tail = .ok its ∧ its.map (·.1) = out.map (·.1) ++ r
  | [], out, last, pk, b, h, _, _ => by
    unfold encGo at h
    split at h
    · cases h
    · cases h
      exact ⟨by omega, [], out, by simp, rfl, by simp⟩
  | t :: r, out, last, pk, b, h, hL, hl => by
    unfold encGo at h
    split at h
    · rename_i ha
      obtain ⟨h1, tail, its, h2, h3, h4⟩ := enc_go kn r _ _ _ b h (Or.inr ⟨out, rfl⟩) (admit_zero ha).1
      refine ⟨h1, (lays last t).1 ++ tail, its, by rw [h2, List.append_assoc], ?_, by rw [h4]; simp⟩
      rw [List.length_cons, go, step_lays hL hl ha]
      exact h3
    · cases h
theorem encode_back (kn : List Item) {l : List (List Nat)} {b : List Nat} (h : encode l = .ok b) : ∃ its, decode kn b = .ok its ∧ its.map (·.1) = l := by
  unfold encode at h
  split at h
  · cases h
  · rename_i h64
    obtain ⟨h1, tail, its, h2, h3, h4⟩ := enc_go kn l [] ([], 0) [l.length] b h (Or.inl ⟨rfl, rfl⟩) (by simp)
    refine ⟨its, ?_, by simpa using h4⟩
    unfold decode
    rw [if_neg (by omega), h2]
    show (if 64 < l.length then R.bad 22 else go kn l.length [] tail) = _
    rw [if_neg h64]
    exact h3
theorem decode_good {kn : List Item} {b : List Nat} {l : List Item} (h : decode kn b = .ok l) : Good l ∧ (∃ r, b = l.length :: r) ∧ l.length ≤ 64 := by
  unfold decode at h
  split at h
  · cases h
  · obtain _ | ⟨n, r⟩ := b
    · cases h
    · simp only at h
      split at h
      · cases h
      · obtain ⟨h1, h2⟩ := go_good kn n [] r l h (fun p hp => by cases hp)
        have e : l.length = n := by simpa using h2
        exact ⟨h1, ⟨r, by rw [e]⟩, by omega⟩
theorem encode_none : encode [] = .ok [0] := rfl
end Pk
end Go.Proofs.YtcnedkgadfegbaaDoor
/- The law PackKnown. -/
namespace Go.Proofs.YtcnedkgadfegbaaDoor
open Go Go.RowKit
theorem known_nil (w : World) : Known w none 0 [] :=
  Known.mk ⟨none, 0, rfl, Nat.le_refl _, fun h => absurd h (by simp)⟩ (fun p hp => absurd hp (by simp)) (by simp)
theorem dec_some {w w' : World} {kn : List Pk.It} {a : Nat → Addr} {xs : List Nat} {e : Ending} (h : DecL w kn a xs e w') : ∃ v e8, e = .returned (.tuple #[v, e8]) ∧ Below w.heap.size w w' := by
  unfold DecL at h
  split at h
  · exact ⟨_, _, h.1, h.2⟩
  · obtain ⟨v, out, _, he, _, hb⟩ := h
    exact ⟨_, _, he, hb⟩
theorem items_texts {out : List Pk.It} {l : List Pk.Item} (h : out.map Pk.It.item = l) : out.map (·.text) = l.map (·.1) := by
  rw [← h, List.map_map]
  rfl
theorem KSents.at_ {w w' : World} {a : Nat → Addr} (h : KSents w a) (hb : Below w.heap.size w w') : KSents w' a := h.below hb (Nat.le_refl _)
set_option maxRecDepth 100000 in
set_option maxHeartbeats 4000000 in
theorem pknown_law (Ab : Option Addr) (nb cb : Nat) (xs : List Nat) (A : Option Addr) (n c : Nat) (its : List Pk.It) (a : Nat → Addr) (w : World) (hv : Rd w (.slice Ab nb cb) xs) (hb : Sha.Byte xs) (hT : Txts w (.slice A n c) its) (hd : ∀ p ∈ its, p.depth = 0) (ht : Tabs w) (hS : KSents w a) :
    Calls Tryd.prog 3 #[.slice Ab nb cb, .slice A n c] w fun e w' => e = .returned (.bool true) ∧ Below w.heap.size w w' := by
  have AL := palive_any w
  have hnb : nb = xs.length := by obtain ⟨_, _, hv, _⟩ := hv; injection hv
  have hnl : n = its.length := by
    obtain ⟨A', c', hv, _⟩ := hT.row
    injection hv with e1 e2 e3
    rw [e2, List.length_map]
  by_cases h1 : 2500 < nb
  · have g1 : (2500 : Int) < (nb : Int) := by omega
    clear hv hb hT hd ht hS hnb hnl h1
    go_enter Tryd.func3, Tryd.ntmps3
    go_wp2_with (go_at_call 5; refine AL.mono ?_; rintro e w1 ⟨rfl, hb1⟩)
    go_ret
    exact ⟨rfl, hb1⟩
  have g1 : ¬ (2500 : Int) < (nb : Int) := by omega
  have LG := fun (w1 : World) (h1 : Below w.heap.size w w1) => long_any A n c its w1 (hT.below h1)
  have HV := Lib.hid hv
  have HB := Lib.hid hb
  have HT := Lib.hid hT
  have HD := Lib.hid hd
  have HTB := Lib.hid ht
  have HS := Lib.hid hS
  have HNB := Lib.hid hnb
  have HNL := Lib.hid hnl
  have HZ : Hid (xs.length ≤ 1000000) := Lib.hid (by omega)
  clear hv hb hT hd ht hS hnb hnl h1
  go_enter Tryd.func3, Tryd.ntmps3
  go_wp2_with (go_at_call 5; refine pause ?_)
  unfold Paused
  refine AL.mono ?_
  rintro e w1 ⟨rfl, hb1⟩
  have H1 := Lib.hid hb1
  have LG1 := LG w1 hb1
  clear hb1 AL LG
  go_wp2_with (go_at_call 6; refine pause ?_)
  unfold Paused
  refine LG1.mono ?_
  rintro e w2 ⟨β, rfl, hβ, rfl⟩
  rcases β with _ | _
  · obtain ⟨h70, h400⟩ := hβ rfl
    by_cases h12 : 12 < n
    · have g2 : (12 : Int) < (n : Int) := by omega
      clear LG1 hβ h70 h400
      go_wp2
      go_ret
      exact ⟨rfl, H1.out⟩
    have g2 : ¬ (12 : Int) < (n : Int) := by omega
    have HKN : Hid (∀ w', Below w.heap.size w w' → Known w' A c its) := Lib.hid (fun w' h => (Known.of (HT.out.below h) HD.out (fun p hp => by have := h400 p hp; omega) (by omega)).2)
    clear LG1 hβ h70 h400 h12
    have CD := decodeL_any (kn := []) a xs Ab nb cb w2 (HV.out.below H1.out (Nat.le_refl _)) HB.out HZ.out (known_nil w2) (HTB.out.below H1.out (Nat.le_refl _)) (HS.out.at_ H1.out)
    have CD2 := fun (w3 : World) (h3 : Below w.heap.size w w3) => decodeL_any (kn := its) a xs Ab nb cb w3 (HV.out.below h3 (Nat.le_refl _)) HB.out HZ.out (HKN.out w3 h3) (HTB.out.below h3 (Nat.le_refl _)) (HS.out.at_ h3)
    rw [← HNL.out] at CD2
    unfold DecL at CD
    cases hdc : Pk.decode (([] : List Pk.It).map Pk.It.item) xs with
    | bad c' =>
      rw [hdc] at CD
      simp only [List.length_nil] at CD
      clear hdc
      go_wp2_with (go_at_call 7; refine pause ?_)
      unfold Paused
      refine CD.mono ?_
      rintro e w3 ⟨rfl, hb3⟩
      have h3 := below_next H1.out hb3
      have H3 := Lib.hid h3
      have CD3 := CD2 w3 h3
      clear h3 hb3 CD CD2
      unfold ecode
      go_wp2_with (go_at_call 7; refine pause ?_)
      unfold Paused
      refine CD3.mono ?_
      intro e w4 hd4
      obtain ⟨v, e8, rfl, hb4⟩ := dec_some hd4
      have H4 := Lib.hid (below_next H3.out hb4)
      clear hd4 hb4 CD3
      go_wp2
      go_ret
      exact ⟨rfl, H4.out⟩
    | ok l =>
      rw [hdc] at CD
      simp only [List.length_nil] at CD
      have HDC : Hid (Pk.decode (its.map Pk.It.item) xs = .ok l) := Lib.hid (Pk.decode_more _ hdc)
      have HGD : Hid (l.length ≤ 64) := Lib.hid (Pk.decode_good hdc).2.2
      clear hdc
      go_wp2_with (go_at_call 7; refine pause ?_)
      unfold Paused
      refine CD.mono ?_
      rintro e w3 ⟨v3, out3, ho3, rfl, hl3, hb3⟩
      have h3 := below_next H1.out hb3
      have H3 := Lib.hid h3
      have HL3 := Lib.hid hl3
      have HO3 := Lib.hid ho3
      have CD3 := CD2 w3 h3
      unfold DecL at CD3
      rw [HDC.out] at CD3
      simp only at CD3
      clear h3 hb3 CD CD2 hl3 ho3
      go_wp2_with (go_at_call 7; refine pause ?_)
      unfold Paused
      refine CD3.mono ?_
      rintro e w4 ⟨v4, out4, ho4, rfl, hl4, hb4⟩
      have H4 := Lib.hid (below_next H3.out hb4)
      have CS := psameLists_yes v3 v4 _ _ (l.map (·.1)) w4 (by rw [← items_texts HO3.out]; exact (HL3.out.below hb4).ll) (by rw [← items_texts ho4]; exact hl4.ll) (by rw [List.length_map]; have := HGD.out; omega)
      clear hl4 ho4 hb4 CD3
      go_wp2_with (go_at_call 8; refine CS.mono ?_; rintro e w5 ⟨rfl, m, rfl⟩)
      go_ret
      exact ⟨rfl, below_drewN H4.out m⟩
  · clear LG1 hβ
    go_wp2
    go_ret
    exact ⟨rfl, H1.out⟩
end Go.Proofs.YtcnedkgadfegbaaDoor
