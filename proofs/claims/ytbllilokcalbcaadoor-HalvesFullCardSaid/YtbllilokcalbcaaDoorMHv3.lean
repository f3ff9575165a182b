/- Layer 5: a half's sectors: read, written, synced; a deed that isn't done leaves the call. -/
import Derived.Test.YtbllilokcalbcaaDoorMHv1
import Derived.Test.YtbllilokcalbcaaDoorMDisk12
namespace Go.Proofs.YtbllilokcalbcaaDoor
open Go Go.RowKit
/-- how a call ends whose deeds were done, or were not -/
def outc (b : Bool) (v : Value) (aD : Addr) : Ending := if b then .returned v else .panicked [{ v := ev aD, recovered := false }]
theorem er_true (aD : Addr) : er true aD = .nilIface := rfl
theorem er_false (aD : Addr) : er false aD = ev aD := rfl
def unitV : Value := .tuple #[]
/-- a half as a value -/
def halfV (d f z : Nat) : Value := .agg #[.pointer (some ⟨d, 0, none⟩), .int .i64 (f : Int), .int .i64 (z : Int)]
abbrev halfBox (w : World) (d f z : Nat) : World := w.alloc (.cells #[.pointer (some ⟨d, 0, none⟩), .int .i64 (f : Int), .int .i64 (z : Int)] 60)
theorem below_halfBox (w : World) (d f z : Nat) : Below w.heap.size w (halfBox w d f z) := (Below.refl _ _).alloc (Nat.le_refl _) _
section
variable {B : Nat} {d ms ml k : Nat} {S : Dk.D} {v : Value}
theorem add_num (f i : Nat) (h : f + i ≤ 1000000) : wrap64 ((f : Int) + (i : Int)) = ((f + i : Nat) : Int) := by rw [IntWalk.wrap64_in _ (by omega)]; omega
theorem hread_any (f z i : Nat) (w : World) (h : DkAt B w d S ms ml v k) (ho : S.off = false) (hi : f + i < S.size) :
    Calls Tryd.prog 54 #[halfV d f z, .int .i64 (i : Int)] w fun e w' => ∃ g, e = .returned (.slice (some ⟨g, 0, none⟩) 32 32) ∧ Blk w' g 70 (u8s (Dk.seen S (f + i))) ∧ w.heap.size ≤ g ∧ Below w.heap.size w w' := by
  have hsz := h.ok.size
  have H1 := Lib.hid (h.below (below_halfBox w d f z))
  have CR := dk_read (f + i) (halfBox w d f z) H1.out ho hi
  have e1 : ((f + i : Nat) : Int) = (f : Int) + (i : Int) := by omega
  rw [e1] at CR
  have i1 : (f : Int) + (i : Int) < 10000 := by omega
  clear h
  unfold halfV
  go_enter Tryd.func54, Tryd.ntmps54
  go_wp2_with (first
    | (go_at_call 67; refine CR.mono ?_; rintro e w1 ⟨g, rfl, hk, hg, hb⟩; have HK := Lib.hid hk; have HG := Lib.hid hg; have HB := Lib.hid hb; clear hk hg hb)
    | (go_at_call 47; refine (must_nil w1).mono ?_; rintro e w2 ⟨rfl, rfl⟩))
  go_ret
  exact ⟨g, rfl, HK.out, by have := HG.out; simp at this; omega, (below_halfBox w d f z).trans (HB.out.mono (below_halfBox w d f z).size)⟩
theorem fr_box {w w' : World} {f z : Nat} (hf : Fr (halfBox w d f z) w' d ms ml v) : Fr w w' d ms ml v :=
  (Fr.of (only_of_below (below_halfBox w d f z) none) (fun g e => by cases e)).trans hf
theorem hwrite_any (f z i : Nat) (A : Option Addr) (n c : Nat) (bs : List Nat) (aD : Addr) (w : World) (h : DkAt B w d S ms ml v k) (hi : f + i < S.size) (hn : n ≤ 32) (hv : RdB w d (.slice A n c) bs) (hb : Sha.Byte bs) (hk : k < 1000000)
    (hD : w.cell? ⟨2, 0, none⟩ = some (ev aD)) (hne : d ≠ 2) :
    Calls Tryd.prog 46 #[halfV d f z, .int .i64 (i : Int), .slice A n c] w fun e w' => e = outc (Dk.done S) unitV aD ∧ (∃ v', DkAt B w' d (Dk.wrote S (f + i) bs) ms ml v' (k + 1)) ∧ Fr w w' d ms ml v := by
  have hsz := h.ok.size
  have bb := below_halfBox w d f z
  have CW := dk_write (f + i) A n c bs aD (halfBox w d f z) (h.below bb) hi hn (hv.only (only_of_below bb _)) hb hk ((bb.cell (block_lt_of_cell hD)).trans hD) hne
  have e1 : ((f + i : Nat) : Int) = (f : Int) + (i : Int) := by omega
  rw [e1] at CW
  have i1 : (f : Int) + (i : Int) < 10000 := by omega
  clear h hv hD bb
  unfold halfV
  cases hd : Dk.done S
  · rw [hd] at CW
    go_enter Tryd.func46, Tryd.ntmps46
    go_wp2_with (first
      | (go_at_call 63; refine CW.mono ?_; rintro e w1 ⟨rfl, h1, h2⟩; rw [er_false]; have H1 := Lib.hid h1; have H2 := Lib.hid h2; clear h1 h2)
      | (go_at_call 47; refine (must_ev aD w1).mono ?_; rintro e w2 ⟨rfl, rfl⟩))
    exact ⟨rfl, rfl, H1.out, fr_box H2.out⟩
  · rw [hd] at CW
    go_enter Tryd.func46, Tryd.ntmps46
    go_wp2_with (first
      | (go_at_call 63; refine CW.mono ?_; rintro e w1 ⟨rfl, h1, h2⟩; rw [er_true]; have H1 := Lib.hid h1; have H2 := Lib.hid h2; clear h1 h2)
      | (go_at_call 47; refine (must_nil w1).mono ?_; rintro e w2 ⟨rfl, rfl⟩))
    go_end0
    exact ⟨rfl, H1.out, fr_box H2.out⟩
theorem hsync_any (f z : Nat) (aD : Addr) (w : World) (h : DkAt B w d S ms ml v k) (hk : k < 1000000) (hD : w.cell? ⟨2, 0, none⟩ = some (ev aD)) (hne : d ≠ 2) :
    Calls Tryd.prog 30 #[halfV d f z] w fun e w' => e = outc (Dk.done S) unitV aD ∧ (∃ v', DkAt B w' d (Dk.syncs S) ms ml v' (k + 1)) ∧ ∀ u, Fr w w' d ms ml u := by
  have bb := below_halfBox w d f z
  have CW := dk_sync aD (halfBox w d f z) (h.below bb) hk ((bb.cell (block_lt_of_cell hD)).trans hD) hne
  clear h hD bb
  unfold halfV
  cases hd : Dk.done S
  · rw [hd] at CW
    go_enter Tryd.func30, Tryd.ntmps30
    go_wp2_with (first
      | (go_at_call 48; refine CW.mono ?_; rintro e w1 ⟨rfl, h1, h2⟩; rw [er_false]; have H1 := Lib.hid h1; have H2 := Lib.hid h2; clear h1 h2)
      | (go_at_call 47; refine (must_ev aD w1).mono ?_; rintro e w2 ⟨rfl, rfl⟩))
    exact ⟨rfl, rfl, H1.out, fun u => fr_box (H2.out u)⟩
  · rw [hd] at CW
    go_enter Tryd.func30, Tryd.ntmps30
    go_wp2_with (first
      | (go_at_call 48; refine CW.mono ?_; rintro e w1 ⟨rfl, h1, h2⟩; rw [er_true]; have H1 := Lib.hid h1; have H2 := Lib.hid h2; clear h1 h2)
      | (go_at_call 47; refine (must_nil w1).mono ?_; rintro e w2 ⟨rfl, rfl⟩))
    go_end0
    exact ⟨rfl, H1.out, fun u => fr_box (H2.out u)⟩
end
end Go.Proofs.YtbllilokcalbcaaDoor
