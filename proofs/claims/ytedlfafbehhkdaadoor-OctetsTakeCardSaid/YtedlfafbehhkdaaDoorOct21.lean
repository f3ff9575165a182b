/- The function that Rest hands to Take. -/
import Derived.Test.YtedlfafbehhkdaaDoorOct20
namespace Go.Proofs.YtedlfafbehhkdaaDoor
open Go Go.RowKit
/-- What Rest's function leaves: the fields, and in block q what is left. -/
def RR (l : List (Nat × List Nat)) (ys : List Nat) (q : Nat) (r : Nat) (u : Value) (w : World) : Prop :=
  ∃ fs A c, fs.map Oc.says = l.map Oc.lays ∧ Fin' w (fun b => b = r ∨ b = q) u fs ∧ w.cell? ⟨q, 0, none⟩ = some (.slice A ys.length c) ∧ FR (fun b => b = r ∨ b = q) w ⟨0, A, ys.length, c, ys⟩ ∧ q ≠ r
theorem RR.step {l : List (Nat × List Nat)} {ys : List Nat} {q : Nat} (r : Nat) (u : Value) (a b : World) (h : RR l ys q r u a) (k : a.grownBy b (some r)) : RR l ys q r u b := by
  obtain ⟨fs, A, c, h1, h2, h3, h4, h5⟩ := h
  have hk : Kpt (fun b => b = r ∨ b = q) a b := Kpt.of_grown k (Or.inl rfl)
  exact ⟨fs, A, c, h1, h2.step hk, k.cell h3 (fun e => h5 (by injection e)), h4.step hk, h5⟩
section
variable (s : ByteArray) (xs : List Nat) (a : Nat → Addr) (sh q : Nat) (w0 w : World)
theorem rest_ok (hs : s.size ≤ 1000) (hb : Oc.bytes xs) (hl : xs.length ≤ 1099511627776) (hS : OSents w0 a) (hsh : w.cell? ⟨sh, 0, none⟩ = some (.string s)) (hq : Blk w q 24 #[.slice none 0 0]) (hq0 : w0.heap.size ≤ q) (hk : Oc.known s.data.toList = true) (l : List (Nat × List Nat)) (p : Nat) (h : Oc.reads (shN s) xs = .ok l p) :
    ReadsTo 32 #[.pointer (some ⟨sh, 0, none⟩), .pointer (some ⟨q, 0, none⟩)] (fun b => b = q) w0 w xs [] (RR l (xs.drop p) q) := by
  intro w2 i r hr hri hi hbel
  change Calls Tryd.prog 32 #[.pointer (some ⟨i, 0, none⟩), .pointer (some ⟨sh, 0, none⟩), .pointer (some ⟨q, 0, none⟩)] w2 _
  have p1 : w2.cell? ⟨sh, 0, none⟩ = some (.string s) := (hbel.cell (block_lt_of_cell hsh)).trans hsh
  have CF := fields_any s i r xs a w0 w2 hi hs hb hS
  have H := Lib.hid (And.intro hk h)
  have HQ := Lib.hid (hq.below hbel hq.lt)
  have HQR : Hid (q ≠ r ∧ q < w2.heap.size ∧ r < w2.heap.size) := Lib.hid ⟨by have := hq.lt; omega, (hq.below hbel hq.lt).lt, hi.lt⟩
  have HQI : Hid (i ≠ q) := Lib.hid (by have := hq.lt; omega)
  have HLL : Hid ((xs.drop p).length ≤ 1099511627776) := Lib.hid (by rw [List.length_drop]; omega)
  clear hk h hi hb hS hsh hq
  obtain ⟨ys, hys⟩ : ∃ ys, ys = xs.drop p := ⟨_, rfl⟩
  rw [← hys] at HLL ⊢
  have HYS := Lib.hid hys
  have HT : Hid (ys.take ys.length = ys ∧ ys.drop ys.length = []) := Lib.hid ⟨List.take_length, List.drop_length⟩
  clear hys
  go_enter Tryd.func32, Tryd.ntmps32
  go_wp2_with (first
    | (go_at_call 31; refine CF.mono ?_; rintro e w3 ⟨_, _, hf⟩; obtain ⟨v, fs, rfl, hsy, hx⟩ := hf H.out.1 _ _ H.out.2; rw [← HYS.out] at hx; have HX := Lib.hid hx; have HSY := Lib.hid hsy; have CL := left_any i r ys w0 w3 hx.at_; have CN := next_ok i r ys.length ys w0 w3 hx.at_ (Nat.le_refl _); rw [HT.out.1, HT.out.2] at CN; clear hx hsy hf CF)
    | (go_at_call 35; refine CL.mono ?_; rintro e w' ⟨rfl, rfl⟩; clear CL)
    | (go_at_call 34; refine CN.mono ?_; rintro e w4 ⟨v4, rfl, hv, hi, hg⟩; have HI := Lib.hid hi; have HG := Lib.hid hg; have CC := clone_any v4 ys w4 (hv.below hi.bel.1 (Nat.le_refl _)) HLL.out; clear hg hi hv CN)
    | (go_at_call 33; refine CC.mono ?_; rintro e w5 ⟨A, c, rfl, hrd, hn, hbl⟩; have HR5 := Lib.hid hrd; have HN5 := Lib.hid hn; have HB5 := Lib.hid hbl; have HQ5 : Hid (Blk w5 q 24 #[.slice none 0 0]) := Lib.hid (((HQ.out.grown HX.out.grw (fun e => HQR.out.1 (by injection e))).grown HG.out (fun e => HQR.out.1 (by injection e))).below hbl (Nat.lt_of_lt_of_le (Nat.lt_of_lt_of_le HQR.out.2.1 HX.out.grw.size) HG.out.size)); have p5 : w5.cell? ⟨q, 0, none⟩ = some (.slice none 0 0) := HQ5.out.cell 0; have z5 := HQ5.out.frozen 0; clear hrd hn hbl CC))
  go_ret
  have k3 : Kpt (fun b => b = r ∨ b = q) w2 w3 := Kpt.of_grown HX.out.grw (Or.inl rfl)
  have k4 : Kpt (fun b => b = r ∨ b = q) w3 w4 := Kpt.of_grown HG.out (Or.inl rfl)
  have k5 : Kpt (fun b => b = r ∨ b = q) w4 w5 := Kpt.of_below HB5.out
  have hg6 : w5.grownBy (w5.setCell ⟨q, 0, none⟩ (.slice A ys.length c)) (some q) := only_setCell (p := ⟨q, 0, none⟩) (World.grownBy.refl w5 (some q)) (Or.inl rfl) _
  have k6 : Kpt (fun b => b = r ∨ b = q) w5 (w5.setCell ⟨q, 0, none⟩ (.slice A ys.length c)) := Kpt.of_grown hg6 (Or.inr rfl)
  have hsz : fs.length = s.size := by rw [says_len HSY.out, Oc.reads_len H.out.2, shN_len]
  have hf3 := HX.out.fin hsz (S := fun b => b = r ∨ b = q) (fun b e => by rcases e with e | e; rw [e]; exact HQR.out.2.2; rw [e]; exact HQR.out.2.1)
  refine ⟨v, rfl, ?_, (k3.trans (k4.trans (k5.trans k6))), fs, A, c, HSY.out, ((hf3.step k4).step k5).step k6, ?_, ?_, HQR.out.1⟩
  · obtain ⟨v', k, hr', hw, h1, h2⟩ := HI.out.below HB5.out
    have hqi := HQI.out
    exact ⟨v', ⟨k.i_.far hqi _, k.r_.far (fun e => HQR.out.1 e.symm) _, k.ne⟩, hr', below_of_only hw hg6 hq0, h1, h2⟩
  · exact (HQ5.out.set_ 0 _).cell 0
  · refine FR.step ⟨HR5.out, rfl, fun h0 => ?_⟩ k6
    obtain ⟨g, cs, e1, e2, e3⟩ := HN5.out h0
    have z1 := HX.out.grw.size
    have z2 := HG.out.size
    have z3 := HQR.out
    exact ⟨g, e1, fun e => by rcases e with e | e <;> omega, e3.lt⟩
end
end Go.Proofs.YtedlfafbehhkdaaDoor
