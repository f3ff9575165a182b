/- The chapter's example (alive). -/
import Derived.Test.YtedlfafbehhkdaaDoorOct22
import Derived.Lib.ConvBytes
namespace Go.Proofs.YtedlfafbehhkdaaDoor
open Go Go.RowKit
theorem onum_any (n : Int) (w : World) : Calls Tryd.prog 19 #[.int .i64 n] w fun e w' => e = .returned (.agg #[.int .i64 n, .slice none 0 0]) ∧ Below w.heap.size w w' := by
  have HB : Hid (Below w.heap.size w (w.alloc (.cells #[.int .i64 n, .slice none 0 0] 26))) := Lib.hid ((Below.refl _ _).alloc (Nat.le_refl _) _)
  have HK : Hid (Blk (w.alloc (.cells #[.int .i64 n, .slice none 0 0] 26)) w.heap.size 26 #[.int .i64 n, .slice none 0 0]) := Lib.hid (Blk.new w _ _)
  go_enter Tryd.func19, Tryd.ntmps19
  go_wp2
  exact bodyPost_ret (v := .agg #[.int .i64 n, .slice none 0 0]) (results_cell_row rfl _ _ w.heap.size 26 _ (0, 0) _ rfl HK.out Tryd.underlying26 rfl (by kernel_rfl)) rfl ⟨rfl, HB.out⟩
theorem below_bytesWorld (w : World) (e : TypeId) (s : ByteArray) : Below w.heap.size w (Lib.bytesWorld w e s) :=
  ⟨rfl, rfl, rfl, by rw [Lib.bytesWorld_size]; omega, fun i hi => Lib.bytesWorld_at_old w e s i hi⟩
theorem ab_conv (w : World) : ∃ c w2, (convert 9 24 (.string ⟨#[97, 98]⟩)).run Tryd.prog w = .ok (.slice (some ⟨w.heap.size, 0, none⟩) 2 c) w2 ∧ Rd w2 (.slice (some ⟨w.heap.size, 0, none⟩) 2 c) [97, 98] ∧ Below w.heap.size w w2 := by
  refine ⟨_, _, Lib.run_convert_string_bytes w 9 24 5 ⟨#[97, 98]⟩ Tryd.underlying9 Tryd.underlying24 Tryd.underlying5, ?_, below_bytesWorld w _ _⟩
  refine ⟨_, _, rfl, ?_, fun _ => ⟨_, _, rfl, by rw [Lib.bytesWorld_size]; omega, fun i hi => ?_⟩⟩
  · exact grownCap_ge w 2 0 5
  · rw [Nat.zero_add, Lib.bytesWorld_cell w _ _ i (by exact hi)]
    have hi2 : i < 2 := hi
    rcases i with _ | _ | i
    · rfl
    · rfl
    · omega
theorem otext_ab (w : World) : Calls Tryd.prog 20 #[.string ⟨#[97, 98]⟩] w fun e w' => ∃ g c, e = .returned (.agg #[.int .i64 0, .slice (some ⟨g, 0, none⟩) 2 c]) ∧ Rd w' (.slice (some ⟨g, 0, none⟩) 2 c) [97, 98] ∧ Below w.heap.size w w' := by
  obtain ⟨c, w2, hcv, hrd, hbl⟩ := ab_conv (w.alloc (.cells #[.int .i64 0, .slice none 0 0] 26))
  have hz : (w.alloc (.cells #[.int .i64 0, .slice none 0 0] 26)).heap.size = w.heap.size + 1 := by simp
  rw [hz] at hcv hrd hbl
  have HB0 : Hid (Below w.heap.size w (w.alloc (.cells #[.int .i64 0, .slice none 0 0] 26))) := Lib.hid ((Below.refl _ _).alloc (Nat.le_refl _) _)
  have HK : Hid (Blk w2 w.heap.size 26 #[.int .i64 0, .slice none 0 0]) := Lib.hid ((Blk.new w _ _).below hbl (by omega))
  have c0 : w2.cell? ⟨w.heap.size, 0, none⟩ = some (.int .i64 0) := HK.out.cell 0
  have c1 : w2.cell? ⟨w.heap.size, 1, none⟩ = some (.slice none 0 0) := HK.out.cell 1
  have z0 := HK.out.frozen 0
  have z1 := HK.out.frozen 1
  have HB : Hid (Below w.heap.size w w2) := Lib.hid (below_then HB0.out (by rw [hz]; exact hbl))
  have HR := Lib.hid hrd
  clear hrd hbl
  go_enter Tryd.func20, Tryd.ntmps20
  go_wp2
  have hw3 : Blk ((w2.setCell ⟨w.heap.size, 0, none⟩ (.int .i64 0)).setCell ⟨w.heap.size, 1, none⟩ (.slice (some ⟨w.heap.size + 1, 0, none⟩) 2 c)) w.heap.size 26 #[.int .i64 0, .slice (some ⟨w.heap.size + 1, 0, none⟩) 2 c] := (HK.out.set_ 0 (.int .i64 0)).set_ 1 (.slice (some ⟨w.heap.size + 1, 0, none⟩) 2 c)
  have hg : w2.grownBy ((w2.setCell ⟨w.heap.size, 0, none⟩ (.int .i64 0)).setCell ⟨w.heap.size, 1, none⟩ (.slice (some ⟨w.heap.size + 1, 0, none⟩) 2 c)) (some w.heap.size) := only_setCell (p := ⟨w.heap.size, 1, none⟩) (only_setCell (p := ⟨w.heap.size, 0, none⟩) (World.grownBy.refl w2 (some w.heap.size)) (Or.inl rfl) _) (Or.inl rfl) _
  exact bodyPost_ret (v := .agg #[.int .i64 0, .slice (some ⟨w.heap.size + 1, 0, none⟩) 2 c]) (results_cell_row rfl _ _ w.heap.size 26 _ (0, 0) _ rfl hw3 Tryd.underlying26 rfl (by kernel_rfl)) rfl ⟨w.heap.size + 1, c, rfl, HR.out.kpt (S := (· = w.heap.size)) (Kpt.of_grown hg rfl) (by omega), below_of_only HB.out hg (Nat.le_refl _)⟩
def exFlds (g c : Nat) : List Fld := [⟨1, none, 0, 0, []⟩, ⟨0, some ⟨g, 0, none⟩, 2, c, [97, 98]⟩]
theorem ex_bytes : Oc.encs [98, 116] (exFlds 0 0) = [1, 0, 2, 97, 98] := by decide +kernel
theorem ex_row {w : World} {g c : Nat} (h : Rd w (.slice (some ⟨g, 0, none⟩) 2 c) [97, 98]) : FRow (w.alloc (.cells #[.int .i64 1, .slice none 0 0, .int .i64 0, .slice (some ⟨g, 0, none⟩) 2 c] 26)) w.heap.size 0 (exFlds g c) := by
  have hb : Blk (w.alloc (.cells #[.int .i64 1, .slice none 0 0, .int .i64 0, .slice (some ⟨g, 0, none⟩) 2 c] 26)) w.heap.size 26 #[.int .i64 1, .slice none 0 0, .int .i64 0, .slice (some ⟨g, 0, none⟩) 2 c] := Blk.new w _ _
  refine ⟨fun i hi => ?_, fun i hi => ?_, fun f hf => ?_, hb.lt⟩
  · have hi2 : i < 2 := hi
    rcases i with _ | _ | i
    · exact hb.cell 0
    · exact hb.cell 2
    · omega
  · have hi2 : i < 2 := hi
    rcases i with _ | _ | i
    · exact hb.cell 1
    · exact hb.cell 3
    · omega
  · have hr := h.below ((Below.refl w.heap.size w).alloc (Nat.le_refl _) (.cells #[.int .i64 1, .slice none 0 0, .int .i64 0, .slice (some ⟨g, 0, none⟩) 2 c] 26)) (Nat.le_refl _)
    rcases List.mem_cons.1 hf with rfl | hf
    · exact ⟨Rd.nil [] rfl, rfl⟩
    · rw [List.mem_singleton.1 hf]; exact ⟨hr, rfl⟩
set_option maxRecDepth 100000 in
theorem alive_any (a : Nat → Addr) (w : World) (hS : OSents w a) : Calls Tryd.prog 6 #[] w fun e w' => e = .returned (.bool true) ∧ Below w.heap.size w w' := by
  have CN := onum_any 1
  have HSE := Lib.hid hS
  clear hS
  go_enter Tryd.func6, Tryd.ntmps6
  go_wp2_with (go_at_call 19; refine (CN _).mono ?_; rintro e w1 ⟨rfl, hb1⟩; have HB1 := Lib.hid hb1; clear hb1)
  go_at_call 20
  refine (otext_ab _).mono ?_
  rintro e w2 ⟨g, c, rfl, hr, hb2⟩
  have HB3 : Hid (Below w.heap.size w (w2.alloc (.cells #[.int .i64 1, .slice none 0 0, .int .i64 0, .slice (some ⟨g, 0, none⟩) 2 c] 26))) := Lib.hid (below_then (below_then HB1.out hb2) ((Below.refl _ _).alloc (Nat.le_refl _) _))
  have hS3 := HSE.out.below HB3.out (Nat.le_refl _)
  have hex : ∀ f ∈ exFlds g c, f.l ≤ 1000 := fun f hf => by
    rcases List.mem_cons.1 hf with rfl | hf
    · exact Nat.zero_le _
    · rw [List.mem_singleton.1 hf]; show 2 ≤ 1000; omega
  have CW : Calls Tryd.prog 8 #[.string ⟨#[98, 116]⟩, .slice (some ⟨w2.heap.size, 0, none⟩) 2 2] _ _ := write_any ⟨#[98, 116]⟩ (some ⟨w2.heap.size, 0, none⟩) w2.heap.size 0 2 (exFlds g c) (a 6) (a 0) (w2.alloc (.cells #[.int .i64 1, .slice none 0 0, .int .i64 0, .slice (some ⟨g, 0, none⟩) 2 c] 26)) (by decide) (fun _ => rfl) (ex_row hr) (show (2 : Nat) ≤ 1000 by omega) hex (hS3 6 (by omega)).var (hS3 0 (by omega)).var
  clear hb2 hr hS3
  have HENC : Hid (Oc.encs [98, 116] (exFlds g c) = [1, 0, 2, 97, 98]) := Lib.hid ex_bytes
  go_wp2_with fail
  refine CW.mono ?_
  rintro e w4 ⟨hb4, _, _, hok⟩
  obtain ⟨v, rfl, hp⟩ := hok (by decide +kernel) rfl (fun i h1 h2 _ => by
    have hi : i < 2 := h1
    rcases i with _ | _ | i
    · exact (show Oc.fits 98 1 0 = true by decide +kernel)
    · rfl
    · omega)
  have HB4 := Lib.hid (below_then HB3.out hb4)
  have hq : (convert 24 9 v).run Tryd.prog w4 = .ok (.string (textOf [1, 0, 2, 97, 98])) w4 := by
    have h := conv_rd hp.rd
    rw [show (⟨#[98, 116]⟩ : ByteArray).data.toList = [98, 116] from rfl, HENC.out] at h
    exact h
  clear hb4 hok hp CW
  go_wp2
  go_ret
  exact ⟨ret_b (show ((textOf [1, 0, 2, 97, 98]).toList == [1, 0, 2, 97, 98]) = true by decide +kernel), HB4.out⟩
end Go.Proofs.YtedlfafbehhkdaaDoor
