/- All is made safe ((*Disk).Sync); what the writes are, free and armed. -/
import Derived.Test.YtbllilokcalbcaaDoorMDisk8
namespace Go.Proofs.YtbllilokcalbcaaDoor
open Go Go.RowKit
section
variable {B : Nat} {d ms ml c1 c2 : Nat} {S : Dk.D} {v : Value} {fS : Int → Option Value}
theorem sync_off (aD : Addr) (w : World) (h : DiskAt B w d S ms ml v c1 c2 fS) (ho : S.off = true) (hD : w.cell? ⟨2, 0, none⟩ = some (ev aD)) :
    Calls Tryd.prog 48 #[.pointer (some ⟨d, 0, none⟩)] w fun e w' => e = .returned (ev aD) ∧ w = w' := by
  have p4 : w.cell? ⟨d, 4, none⟩ = some (.bool true) := by have := h.blk.cell 4; rw [ho] at this; exact this
  clear h ho
  go_enter Tryd.func48, Tryd.ntmps48
  go_wp2
  go_ret
  exact ⟨rfl, rfl⟩
theorem sync_dead (aD : Addr) (w : World) (h : DiskAt B w d S ms ml v c1 c2 fS) (ho : S.off = false) (ha : S.armed = true) (hl : S.left = 0) (hD : w.cell? ⟨2, 0, none⟩ = some (ev aD)) (hne : d ≠ 2) :
    Calls Tryd.prog 48 #[.pointer (some ⟨d, 0, none⟩)] w fun e w' => e = .returned (ev aD) ∧ DiskAt B w' d { S with off := true } ms ml v c1 c2 fS ∧ w.grownBy w' (some d) := by
  have p4 : w.cell? ⟨d, 4, none⟩ = some (.bool false) := by have := h.blk.cell 4; rw [ho] at this; exact this
  have CD := deed_fail aD w h ha hl hD hne
  have q0 := run_neq_ev aD
  clear h ho
  go_enter Tryd.func48, Tryd.ntmps48
  go_wp2_with (go_at_call 64; refine CD.mono ?_; rintro e w' ⟨rfl, h1, h2⟩; have H1 := Lib.hid h1; have H2 := Lib.hid h2; clear h1 h2)
  go_ret
  exact ⟨rfl, H1.out, H2.out⟩
/-- the disk when all that pends is safe -/
def Dk.synced (S : Dk.D) : Dk.D := { Dk.puts S S.pend with pend := [] }
theorem sync_ok0 (w : World) (S1 : Dk.D) (h : DiskAt B w d S ms ml v c1 c2 fS) (ho : S.off = false) (hc : c1 + S1.pend.length < 1000000000)
    (CD : Calls Tryd.prog 64 #[.pointer (some ⟨d, 0, none⟩)] w fun e w' => e = .returned .nilIface ∧ DiskAt B w' d S1 ms ml v c1 c2 fS ∧ w.grownBy w' (some d)) :
    Calls Tryd.prog 48 #[.pointer (some ⟨d, 0, none⟩)] w fun e w' => e = .returned .nilIface ∧ (∃ fS', DiskAt B w' d (Dk.synced S1) ms ml (.slice none 0 0) (c1 + S1.pend.length) c2 fS') ∧ ∀ u, Fr w w' d ms ml u := by
  have p4 : w.cell? ⟨d, 4, none⟩ = some (.bool false) := by have := h.blk.cell 4; rw [ho] at this; exact this
  clear h ho
  go_enter Tryd.func48, Tryd.ntmps48
  go_wp2_with (go_at_call 64; refine CD.mono ?_; rintro e w1 ⟨rfl, h1, h2⟩; obtain ⟨A0, c0, ev0⟩ := row_slice h1.row; have p2 : w1.cell? ⟨d, 2, none⟩ = some (.slice A0 S1.pend.length c0) := (by rw [← ev0]; exact h1.blk.cell 2); have H1 := Lib.hid h1; have H2 := Lib.hid h2; have HEV := Lib.hid ev0; clear h1 h2 ev0)
  have hfew := H1.out.ok.few
  have CS := settle_any A0 S1.pend.length c0 S1.pend w1 H1.out rfl H1.out.ok.plen (row_rd (by have := H1.out.row; rwa [HEV.out] at this) (fun p hp => (H1.out.ok.plen p hp).2.1) (by have := H1.out.rowNe.2.1; rwa [HEV.out] at this)) hc hfew
  refine CS.mono ?_
  rintro e w2 ⟨rfl, ⟨fS2, h1⟩, h2⟩
  have HE1 := Lib.hid h1
  have HE2 := Lib.hid h2
  clear h1 h2
  dsimp only
  go_wp2
  go_ret
  exact ⟨rfl, ⟨fS2, HE1.out⟩, fun u => (Fr.of H2.out (fun g e => Or.inl (by injection e with e; exact e.symm))).trans (HE2.out u)⟩
theorem write_free (i : Nat) (A : Option Addr) (n c : Nat) (bs : List Nat) (w : World) (h : DiskAt B w d S ms ml v c1 c2 fS) (ho : S.off = false) (ha : S.armed = false) (hi : i < S.size) (hn : n ≤ 32) (hv : RdB w d (.slice A n c) bs) (hb : Sha.Byte bs) (hfew : S.pend.length < 1000000) (hd : S.deeds < 1000000) (hc2' : c2 < 1000000000) :
    Calls Tryd.prog 63 #[.pointer (some ⟨d, 0, none⟩), .int .i64 (i : Int), .slice A n c] w fun e w' => e = .returned .nilIface ∧ ∃ v', DiskAt B w' d (Dk.wr { S with deeds := S.deeds + 1 } i bs) ms ml v' c1 (c2 + 1) fS ∧ Fr w w' d ms ml v :=
  write_ok0 i A n c bs w { S with deeds := S.deeds + 1 } h ho hi hn hv hi hb hfew hc2' (deed_free w h ha (by omega))
theorem write_armed (i : Nat) (A : Option Addr) (n c : Nat) (bs : List Nat) (w : World) (h : DiskAt B w d S ms ml v c1 c2 fS) (ho : S.off = false) (ha : S.armed = true) (hl : 0 < S.left) (hi : i < S.size) (hn : n ≤ 32) (hv : RdB w d (.slice A n c) bs) (hb : Sha.Byte bs) (hfew : S.pend.length < 1000000) (hd : S.deeds < 1000000) (hc2' : c2 < 1000000000) :
    Calls Tryd.prog 63 #[.pointer (some ⟨d, 0, none⟩), .int .i64 (i : Int), .slice A n c] w fun e w' => e = .returned .nilIface ∧ ∃ v', DiskAt B w' d (Dk.wr { S with left := S.left - 1, deeds := S.deeds + 1 } i bs) ms ml v' c1 (c2 + 1) fS ∧ Fr w w' d ms ml v :=
  write_ok0 i A n c bs w { S with left := S.left - 1, deeds := S.deeds + 1 } h ho hi hn hv hi hb hfew hc2' (deed_armed w h ha hl (by omega))
end
end Go.Proofs.YtbllilokcalbcaaDoor
