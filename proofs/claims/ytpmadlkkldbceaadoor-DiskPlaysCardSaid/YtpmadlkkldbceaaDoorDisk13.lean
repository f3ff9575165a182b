/- The chapter's example (alive); errors' numbers of a deed. -/
import Derived.Test.YtpmadlkkldbceaaDoorDisk12
import Derived.Lib.SlBytesConst
namespace Go.Proofs.YtpmadlkkldbceaaDoor
open Go Go.RowKit
namespace Dk
def al1 : D := wrote (fresh 3) 1 [97]
def al2 : D := { al1 with armed := true, left := 0 }
def al3 : D := syncs al2
def al4 : D := crashed al3 (keptTo al3.pend [] al3.pend.length)
theorem al4_seen : seen al4 1 = List.replicate 32 0 := by decide +kernel
theorem al_kept : (keptTo al3.pend [] al3.pend.length).length = 0 := by decide +kernel
end Dk
theorem er_true (aD : Addr) : er true aD = .nilIface := rfl
theorem er_false (aD : Addr) : er false aD = ev aD := rfl
theorem run_eql_ev (a : Addr) (w : World) : (binOp .eql 26 (ev a) .nilIface).run Tryd.prog w = .ok (.bool false) w := by kernel_rfl
theorem rdB_marked (w : World) (l : List Nat) (t : TypeId) (fr : Nat × Nat) (p c : Nat) (hp : p < w.heap.size) (hc : l.length ≤ c) : RdB (w.alloc (.cells (u8s l) t fr)) p (.slice (some ⟨w.heap.size, 0, none⟩) l.length c) l := by
  have hB : (w.alloc (.cells (u8s l) t fr)).heap[w.heap.size]? = some (.cells (u8s l) t fr) := heap_alloc_new w _
  refine ⟨_, _, rfl, hc, fun _ => ⟨w.heap.size, 0, rfl, by omega, (Array.getElem?_eq_some_iff.1 hB).1, fun i hi => ?_⟩⟩
  rw [Nat.zero_add]
  show (match (w.alloc (.cells (u8s l) t fr)).heap[w.heap.size]? with | some (.cells c _ _) => if (none : Option Nat).isSome then none else c[i]? | _ => none) = _
  rw [hB]
  exact u8s_get _ _ hi
theorem conv_const (w : World) (C : Array Value) (n c : Nat) : (convert 32 32 (.slice (some ⟨w.heap.size, 0, none⟩) n c)).run Tryd.prog (w.alloc (.cells C 5)) = .ok (.slice (some ⟨w.heap.size, 0, none⟩) n c) (w.alloc (.cells C 5 (C.size, C.size + 1))) :=
  Lib.run_convert_bytes_const w 32 5 C n c Tryd.underlying32 Tryd.underlying5
theorem textZ : ∀ (x : List Nat), x = List.replicate 32 0 → textOf x = textOf (List.replicate 32 0) := fun _ h => by rw [h]
set_option maxRecDepth 100000 in
theorem alive_any (a : Nat → Addr) (w : World) (hS : Sents w a) : Calls Tryd.prog 6 #[] w fun e w' => e = .returned (.bool true) ∧ Below w.heap.size w w' := by
  have HSE := Lib.hid hS
  have q0 := run_neq_ev
  have q1 := run_eql_ev
  have q2 := conv_const
  have e1 : er (Dk.done (fresh 3)) (a 15) = .nilIface := rfl
  have e2 : er (Dk.done Dk.al2) (a 15) = ev (a 15) := rfl
  have e3 : ((keptTo Dk.al3.pend [] Dk.al3.pend.length).length : Int) = 0 := by rw [Dk.al_kept]; rfl
  clear hS
  go_enter Tryd.func6, Tryd.ntmps6
  go_wp2_with (first
    | (go_at_call 7; refine (dk_new 3 w (by omega) (by omega)).mono ?_; rintro e w1 ⟨d, ms, ml, rfl, hd, hb⟩
       have HD1 := Lib.hid hd
       have HB1 := Lib.hid hb
       have hdl := (hd.lts d (Or.inl rfl))
       have hne : ∀ k, k < 22 → d ≠ sgs.getD k 0 := fun k hk e => by have := (HSE.out k hk).lt; omega
       have HNE := Lib.hid hne
       have HDL := Lib.hid hdl
       clear hd hb hne hdl)
    | (go_at_call 11
       have hbl : Below w1.heap.size w1 (w1.alloc (.cells (u8s [97]) 5 (1, 2))) := (Below.refl _ _).alloc (Nat.le_refl _) _
       have HB2 : Hid (Below w.heap.size w (w1.alloc (.cells (u8s [97]) 5 (1, 2)))) := Lib.hid (HB1.out.trans (hbl.mono HB1.out.size))
       refine (dk_write 1 (some ⟨w1.heap.size, 0, none⟩) 1 1 [97] (a 15) (w1.alloc (.cells (u8s [97]) 5 (1, 2))) (HD1.out.below hbl) (by decide) (by omega) (rdB_marked w1 [97] 5 (1, 2) d 1 HDL.out.2 (by simp)) (fun i => by cases i <;> simp <;> omega) (by omega) ((HSE.out.below HB2.out (Nat.le_refl _)) 15 (by omega)).var (HNE.out 15 (by omega))).mono ?_
       rintro e w2 ⟨rfl, ⟨v2, hd⟩, hf⟩
       rw [e1]
       have HD2 := Lib.hid hd
       have HB3 := Lib.hid ((HD1.out.below hbl).run (Nat.le_refl _) HB2.out hf)
       clear hd hf hbl)
    | (go_at_call 16; refine (dk_arm 0 w2 HD2.out rfl (by omega)).mono ?_; rintro e w3 ⟨rfl, hd, hf⟩
       have HD3 : Hid (DkAt w.heap.size w3 d Dk.al2 ms ml v2 1) := Lib.hid hd
       have HB4 := Lib.hid (HD2.out.run (Nat.le_refl _) HB3.out (hf _))
       clear hd hf)
    | (go_at_call 14; refine (dk_sync (a 15) w3 HD3.out (by omega) ((HSE.out.below HB4.out (Nat.le_refl _)) 15 (by omega)).var (HNE.out 15 (by omega))).mono ?_; rintro e w4 ⟨rfl, ⟨v4, hd⟩, hf⟩
       rw [e2]
       have HD4 : Hid (DkAt w.heap.size w4 d Dk.al3 ms ml v4 2) := Lib.hid hd
       have HB5 := Lib.hid (HD3.out.run (Nat.le_refl _) HB4.out (hf _))
       clear hd hf)
    | (go_at_call 9; refine (num_any 15 (by omega) a w4 (HSE.out.below HB5.out (Nat.le_refl _))).mono ?_; rintro e w5 ⟨rfl, hb⟩
       have HD5 := Lib.hid (HD4.out.below hb)
       have HB6 := Lib.hid (HB5.out.trans (hb.mono HB5.out.size))
       clear hb)
    | (go_at_call 18; refine (dk_crash none 0 0 [] w5 HD5.out rfl (fun h => absurd h (by simp)) (by omega)).mono ?_; rintro e w6 ⟨rfl, ⟨v6, hd⟩, hf⟩
       rw [e3]
       have HD6 : Hid (DkAt w.heap.size w6 d Dk.al4 ms ml v6 2) := Lib.hid hd
       have HB7 := Lib.hid (HD5.out.run (Nat.le_refl _) HB6.out (hf _))
       clear hd hf)
    | (go_at_call 24; refine (dk_read 1 w6 HD6.out rfl (by decide)).mono ?_; rintro e w7 ⟨g, rfl, hk, hg, hb⟩
       rw [Dk.al4_seen] at hk
       have HK := Lib.hid hk
       have HB8 := Lib.hid (HB7.out.trans (hb.mono HB7.out.size))
       clear hk hg hb))
  have HR7 := Lib.hid (rd_of_sec HK.out (by simp))
  obtain ⟨T0, hT0⟩ : ∃ T, T = textOf (List.replicate 32 0) := ⟨_, rfl⟩
  obtain ⟨Z, hZ⟩ : ∃ Z, Z = u8s (List.replicate 32 0) := ⟨_, rfl⟩
  have hbz : Below w7.heap.size w7 (w7.alloc (.cells Z 5)).drew := below_drewN ((Below.refl _ w7).alloc (Nat.le_refl _) (.cells Z 5)) 1
  have HBZ := Lib.hid (HB8.out.trans (hbz.mono HB8.out.size))
  have c1 : (convert 32 9 (.slice (some ⟨g, 0, none⟩) 32 32)).run Tryd.prog w7.drew = .ok (.string T0) w7.drew := by rw [hT0]; exact conv_rd (HR7.out.below (B := w7.heap.size) (below_drewN (Below.refl _ _) 1) (Nat.le_refl _))
  have c2 : (convert 32 9 (.slice (some ⟨g, 0, none⟩) 32 32)).run Tryd.prog (w7.alloc (.cells Z 5)).drew = .ok (.string T0) (w7.alloc (.cells Z 5)).drew := by rw [hT0]; exact conv_rd (HR7.out.below hbz (Nat.le_refl _))
  have c3 : (convert 32 9 (.slice (some ⟨w7.heap.size, 0, none⟩) 32 32)).run Tryd.prog (w7.alloc (.cells Z 5)).drew = .ok (.string T0) (w7.alloc (.cells Z 5)).drew := by
    rw [hT0, hZ]
    have h : Rd (w7.drew.alloc (.cells (u8s (List.replicate 32 0)) 5)) (.slice (some ⟨w7.heap.size, 0, none⟩) 32 32) (List.replicate 32 0) := rd_of_lit w7.drew (List.replicate 32 0) 5 (by simp)
    exact conv_rd h
  have c4 : ∀ ww, (Instr.makeSlice 32 (.int .i64 32) (.int .i64 32)).run Tryd.prog ww = .ok (.slice (some ⟨ww.heap.size, 0, none⟩) 32 32) (ww.alloc (.cells Z 5)) := fun ww => by rw [hZ]; exact run_makeOne Tryd.underlying32 byte_info rfl 32 (by omega) (by omega) rfl ww
  clear hZ hT0 hbz
  go_region
  all_goals go_wp2
  all_goals go_ret
  all_goals exact ⟨rfl, HBZ.out⟩
end Go.Proofs.YtpmadlkkldbceaaDoor
