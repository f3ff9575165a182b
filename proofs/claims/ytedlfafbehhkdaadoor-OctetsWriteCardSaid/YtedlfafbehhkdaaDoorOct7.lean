/- Fields as the document's fields (cartagelaw02.of). -/
import Derived.Test.YtedlfafbehhkdaaDoorOct6
namespace Go.Proofs.YtedlfafbehhkdaaDoor
open Go Go.RowKit
def cellsF (fs : List Fld) : List Value := fs.flatMap fun f => [.int .i64 f.n, .slice f.A f.l f.c]
theorem cellsF_len (fs : List Fld) : (cellsF fs).length = fs.length * 2 := by
  induction fs with
  | nil => rfl
  | cons f fs ih => rw [cellsF, List.flatMap_cons, List.length_append, ← cellsF, ih]; simp; omega
theorem cellsF_take {fs : List Fld} {k : Nat} (h : k < fs.length) : cellsF (fs.take (k + 1)) = cellsF (fs.take k) ++ [.int .i64 fs[k].n, .slice fs[k].A fs[k].l fs[k].c] := by
  rw [List.take_succ_eq_append_getElem h, cellsF, List.flatMap_append]
  simp [cellsF]
theorem cellsF_get : ∀ {fs : List Fld} {i : Nat} (h : i < fs.length), (cellsF fs)[2 * i]? = some (.int .i64 fs[i].n) ∧ (cellsF fs)[2 * i + 1]? = some (.slice fs[i].A fs[i].l fs[i].c)
  | f :: fs, 0, _ => by simp [cellsF]
  | f :: fs, i + 1, h => by
    have := cellsF_get (fs := fs) (i := i) (by simpa using h)
    rw [show 2 * (i + 1) = 2 * i + 1 + 1 by omega]
    simpa [cellsF] using this
theorem fld_info : (Tryd.prog.info? 48).map (fun i => (i.zero, i.size, i.bytes)) = some (some (.agg #[.int .i64 0, .slice none 0 0]), 2, 32) := by kernel_rfl
/-- The call's own row of fields. -/
structure OwnF (w0 w : World) (v : Value) (k : Nat) (cs : List Value) : Prop where
  own : w.ownsRow w0.heap.size 48 2 v k cs
  bel : Below w0.heap.size w0 w
  some_ : ∃ g c, v = .slice (some ⟨g, 0, none⟩) k c
theorem OwnF.lit (w : World) : OwnF w (w.alloc (.cells #[] 48)) (.slice (some ⟨w.heap.size, 0, none⟩) 0 0) 0 [] :=
  ⟨World.ownsRow_lit w #[] 0 (Nat.le_refl _) (by decide) rfl, (Below.refl _ _).alloc (Nat.le_refl _) _, _, _, rfl⟩
theorem OwnF.row {w0 w : World} {v : Value} {fs : List Fld} (h : OwnF w0 w v fs.length (cellsF fs)) (hr : ∀ f ∈ fs, Rd w0 (.slice f.A f.l f.c) f.bs ∧ f.bs.length = f.l) : ∃ g c, v = .slice (some ⟨g, 0, none⟩) fs.length c ∧ FRow w g 0 fs := by
  obtain ⟨g, c, rfl⟩ := h.some_
  have hc := fun j hj => h.own.cellAt j hj
  refine ⟨g, c, rfl, fun i hi => ?_, fun i hi => ?_, fun f hf => ⟨(hr f hf).1.below h.bel (Nat.le_refl _), (hr f hf).2⟩, (h.own.lt g rfl).2⟩
  · rw [Nat.zero_add, hc _ (by omega)]; exact (cellsF_get hi).1
  · rw [Nat.zero_add, hc _ (by omega)]; exact (cellsF_get hi).2
set_option maxRecDepth 100000 in
theorem of_any (A : Option Addr) (b o cap : Nat) (fs : List Fld) (w : World) (hA : 0 < fs.length → A = some ⟨b, o, none⟩) (hF : FRow w b o fs) (hl : fs.length ≤ 1000) :
    Calls Tryd.prog 7 #[.slice A fs.length cap] w fun e w' => ∃ g c, e = .returned (.slice (some ⟨g, 0, none⟩) fs.length c) ∧ FRow w' g 0 fs ∧ Below w.heap.size w w' := by
  obtain ⟨i0, hi0, hiz, his, hib⟩ := info_parts fld_info
  have HF := Lib.hid hF
  clear hF
  go_enter Tryd.func7, Tryd.ntmps7
  go_wp2
  go_loopw [3, 9] (fun v i wr => ∃ k : Nat, k ≤ fs.length ∧ i = .int .i64 k ∧ Hid (OwnF w wr v k (cellsF (fs.take k)))) (fun _ i _ => fs.length - (intOf i).toNat)
  case atStart => exact ⟨0, Nat.zero_le _, rfl, Lib.hid (OwnF.lit w)⟩
  case round =>
    obtain ⟨k, hk, rfl, HO⟩ := hrel
    by_cases hlt : k < fs.length
    · obtain rfl := hA (by omega)
      have HFr := Lib.hid (HF.out.below HO.out.bel (Nat.le_refl _))
      have hg : wr.rangeAt b (o + k * 2) [.int .i64 fs[k].n, .slice fs[k].A fs[k].l fs[k].c] := fun j v hj => by
        have p1 := HFr.out.n k hlt
        have p2 := HFr.out.s k hlt
        rcases j with _ | _ | j
        · rw [show o + k * 2 + 0 = o + 2 * k by omega, p1]; exact hj
        · rw [show o + k * 2 + (0 + 1) = o + 2 * k + 1 by omega, p2]; exact hj
        · simp at hj
      have ht := cellsF_take hlt
      generalize fs[k] = f at hg ht
      obtain ⟨n, Af, lf, cf, bs⟩ := f
      dsimp only at hg ht
      have HG := Lib.hid hg
      have HT := Lib.hid ht
      clear hg ht
      have i1 : ((k : Nat) : Int) < fs.length := by omega
      have i2 : (0 : Int) ≤ ((k : Nat) : Int) := by omega
      have HW : Hid (((wr.alloc (.cells #[.int .i64 n, .slice Af lf cf] 26)).alloc (.cells #[.int .i64 n, .slice Af lf cf] 48)).ownsRow w.heap.size 48 2 u3 k (cellsF (fs.take k))) := Lib.hid ((HO.out.own.alloc _).alloc _)
      have HB1 : Hid (Below w.heap.size w ((wr.alloc (.cells #[.int .i64 n, .slice Af lf cf] 26)).alloc (.cells #[.int .i64 n, .slice Af lf cf] 48))) := Lib.hid ((HO.out.bel.alloc HO.out.bel.size _).alloc (HO.out.bel.alloc HO.out.bel.size _).size _)
      have HY : Hid (Blk ((wr.alloc (.cells #[.int .i64 n, .slice Af lf cf] 26)).alloc (.cells #[.int .i64 n, .slice Af lf cf] 48)) (wr.heap.size + 1) 48 #[.int .i64 n, .slice Af lf cf]) := Lib.hid (by
        have h := Blk.new (wr.alloc (.cells #[.int .i64 n, .slice Af lf cf] 26)) 48 #[.int .i64 n, .slice Af lf cf]
        rwa [show (wr.alloc (.cells #[.int .i64 n, .slice Af lf cf] 26)).heap.size = wr.heap.size + 1 by simp] at h)
      go_wp2_with (first
        | (refine wpList_load_mid rfl 26 (.tmp 11) rfl b (o + k * 2) rfl _ _ HG.out Tryd.underlying26 rfl (by kernel_rfl) ?_)
        | (refine wpList_append_own _ rfl (.tmp 13) (.tmp 19) 27 rfl w.heap.size 48 i0 _ 2 32 Tryd.underlying27 hi0 hiz his hib rfl (by decide) _ k _ rfl HW.out ⟨wr.heap.size + 1, 0, none⟩ 1 1 [.int .i64 n, .slice Af lf cf] rfl rfl (fun j u hj => by rw [Addr.add_mid, Nat.zero_add, HY.out.cell j]; simpa using hj) (fun u hu => by simp at hu; rcases hu with rfl | rfl <;> rfl) (by unfold maxLen; omega) (by omega) HB1.out.size ?_
           intro v' w1 hown hgrow _
           have HN : Hid (OwnF w w1 v' (k + 1) (cellsF (fs.take (k + 1)))) := Lib.hid ⟨by rw [HT.out]; exact hown, below_own HB1.out HW.out (Nat.le_refl _) hgrow, by
             rcases hown.2 with ⟨_, h0⟩ | ⟨g, cp, cur, hv, _⟩
             · omega
             · exact ⟨g, cp, hv⟩⟩
           clear hown hgrow))
      go_roundw
      case rel => exact ⟨k + 1, by omega, by go_num, HN⟩
      case measure => simp [intOf]; omega
    · obtain rfl : k = fs.length := by omega
      obtain ⟨g, c, rfl, hrow⟩ := OwnF.row (by have h := HO.out; rwa [List.take_of_length_le (Nat.le_refl _)] at h) HF.out.r
      have H := Lib.hid (And.intro hrow HO.out.bel)
      clear hrow
      go_wp2
      go_ret
      exact ⟨g, c, rfl, H.out⟩
end Go.Proofs.YtedlfafbehhkdaaDoor
