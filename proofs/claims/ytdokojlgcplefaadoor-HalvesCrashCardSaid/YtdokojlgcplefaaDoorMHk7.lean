/- Layer 5: Append's work, whichever half is in use and wherever the power fails. -/
import Derived.Test.YtdokojlgcplefaaDoorMHk16s
namespace Go.Proofs.YtdokojlgcplefaaDoor
open Go Go.RowKit
theorem half_range {w : World} {l d z U n next : Nat} {v : Value} {dead : Bool} (hU : U = 0 ∨ U = 1) (h : Blk w l 59 (logCells d z U n v next dead)) : w.rangeAt l (3 * U) [.pointer (some ⟨d, 0, none⟩), .int .i64 (Hv.fst z U : Nat), .int .i64 (z : Int)] := by
 rcases hU with rfl | rfl
 ·exact half_range0 h
 ·exact half_range1 h
def ApP (B : Nat) (a : Nat → Addr) (w : World) (l d z U n m k : Nat) (row : Option Nat) (ls : List (List Nat)) (M : Bool × Dk.D) (e : Ending) (w' : World) : Prop :=
 (M.1 = true ∧ e = .returned (.tuple #[]) ∧ (∃ v, LogAt B w' l d z U n v m false ∧ ∃ us, Recs B w' v us ls) ∧ DkX B w' d M.2 k ∧ AFr B l row w w') ∨
 (M.1 = false ∧ e = .panicked [{ v := ev (a 15), recovered := false }] ∧ DkX B w' d M.2 k ∧ TFr B w w')
set_option maxRecDepth 100000 in
set_option maxHeartbeats 1000000 in
theorem apwork_any {B l d z k U : Nat} {S : Dk.D} (a : Nat → Addr) (w0 w : World) (n m : Nat) (AV : Option Addr) (cV : Nat) (us : List Value) (ls : List (List Nat)) (hU : U = 0 ∨ U = 1) (hL : LogAt B w l d z U n (.slice AV ls.length cV) m false) (hR : Recs B w (.slice AV ls.length cV) us ls) (hD : DkX B w d S k) (hz : 2 ≤ z) (hi : z + z ≤ S.size) (hk : k + 100000 < 1000000) (hE : Env B a w0 w) (hn : n ≤ Hv.top) (hlen : ls.length ≤ 90000)
  (q2 q3 q5 : Nat) (A : Option Addr) (nb c nd : Nat) (bs : List Nat) (hbl : bs.length = nb) (hb1 : 1 ≤ nb) (hb2 : nb ≤ 3000) (hr : ∀ w', TFr B w w' → Rd w' (.slice A nb c) bs) (hby : Sha.Byte bs) (hnd : nd = Hv.need (nb : Int)) (hm : m + nd ≤ z) (b2 : Blk w q2 30 #[.pointer (some ⟨l, 0, none⟩)]) (b3 : Blk w q3 39 #[.slice A nb c]) (b5 : Blk w q5 3 #[.int .i64 (nd : Int)]) (hq : some q3 ≠ (Value.slice AV ls.length cV).ownBlock) :
  Calls Tryd.prog 24 #[.pointer (some ⟨q2, 0, none⟩), .pointer (some ⟨q3, 0, none⟩), .pointer (some ⟨q5, 0, none⟩)] w (ApP B a w l d z U n (m + nd) (k + nd + 1) (Value.slice AV ls.length cV).ownBlock (ls ++ [bs]) (Hv.appM (Hv.fst z U) m n ls.length bs S)) := by
 have HSZ : Hid (S.size ≤ 4096) := Lib.hid hD.ok.size
 have HLB : Hid (B ≤ l) := Lib.hid hL.low
 have HFZ : Hid (Hv.fst z U + z ≤ z + z) := Lib.hid (by unfold Hv.fst; split <;> omega)
 obtain ⟨M, hM⟩ : ∃ M, M = Hv.appM (Hv.fst z U) m n ls.length bs S := ⟨_, rfl⟩
 rw [← hM]
 have HM := Lib.hid hM
 have HUU := Lib.hid hU
 have hU2 : (U : Int) < 2 := by omega
 have HL := Lib.hid hL
 have HR := Lib.hid hR
 have HD := Lib.hid hD
 have HE := Lib.hid hE
 have HB := Lib.hid (⟨b2, b3, b5⟩ : Blk w q2 30 #[.pointer (some ⟨l, 0, none⟩)] ∧ Blk w q3 39 #[.slice A nb c] ∧ Blk w q5 3 #[.int .i64 (nd : Int)])
 have HRB := Lib.hid hr
 have HBY := Lib.hid hby
 have HBL := Lib.hid hbl
 have HND := Lib.hid hnd
 have HQ := Lib.hid hq
 obtain ⟨f, hf⟩ : ∃ f, f = Hv.fst z U := ⟨_, rfl⟩
 have HFF := Lib.hid hf
 have HFR : Hid (∀ (w' : World) (v : Value) (x : Bool), Blk w' l 59 (logCells d z U n v m x) → w'.rangeAt l (3 * U) [.pointer (some ⟨d, 0, none⟩), .int .i64 (f : Nat), .int .i64 (z : Int)]) := Lib.hid (fun w' v x h => by rw [hf]; exact half_range hU h)
 clear hL hR hD hE b2 b3 b5 hr hby hbl hnd hq hM hU hf
 go_enter Tryd.func24, Tryd.ntmps24
 go_wp2_with fail
 have HT0 : Hid (TFr B w w) := Lib.hid TFr.refl
 have HL0 := HL
 have HD0 := HD
 have HE0 := HE
 have HR0 := HR
 have HBX0 := HB
 clear HL HD HE HR HB
 obtain ⟨w1, hw1⟩ : ∃ w1, w1 = w.drew := ⟨_, rfl⟩
 have HB1 : Hid (Below w.heap.size w w1) := Lib.hid (by rw [hw1]; exact below_drewN (Below.refl _ _) 1)
 have HL1 := Lib.hid (HL0.out.below HB1.out)
 have HD1 := Lib.hid (HD0.out.below HB1.out)
 have HE1 := Lib.hid (HE0.out.below HB1.out)
 have HR1 := Lib.hid (HR0.out.below HB1.out)
 have HBX1 : Hid (Blk w1 q2 30 #[.pointer (some ⟨l, 0, none⟩)] ∧ Blk w1 q3 39 #[.slice A nb c] ∧ Blk w1 q5 3 #[.int .i64 (nd : Int)]) := Lib.hid ⟨HBX0.out.1.below HB1.out HBX0.out.1.lt, HBX0.out.2.1.below HB1.out HBX0.out.2.1.lt, HBX0.out.2.2.below HB1.out HBX0.out.2.2.lt⟩
 have HT1 := Lib.hid (HT0.out.trans (TFr.below HB1.out))
 refine wp_region_held (S := (fun w' => (Blk w' q2 30 #[.pointer (some ⟨l, 0, none⟩)] ∧ Blk w' q3 39 #[.slice A nb c] ∧ Blk w' q5 3 #[.int .i64 (nd : Int)]) ∧ Blk w' l 59 (logCells d z U n (.slice AV ls.length cV) m false))) (by kernel_rfl) ?_
 change wpAnyH _ _ _ _ _ _ _ _ w.drew
 rw [← hw1]
 clear hw1
 refine wpAnyH_take (i := 0) (v := ?_) rfl (by kernel_rfl) (by kernel_rfl) (by kernel_rfl) (fun _ _ _ h => h) (Or.inl ⟨by rfl, ?_⟩) (⟨HBX1.out, HL1.out.blk⟩) ?_
 rotate_left
 ·intro w' hS; have q0 : w'.cell? ⟨q2, 0, none⟩ = some (.pointer (some ⟨l, 0, none⟩)) := hS.1.1.cell 0; go_simp; with_reducible rfl
 try simp only [Act.put, List.getElem_toArray, List.getElem_cons_zero, List.setIfInBounds_toArray, List.set_cons_zero, List.set_cons_succ]
 refine wpAnyH_take (i := 1) (v := ?_) rfl (by kernel_rfl) (by kernel_rfl) (by kernel_rfl) (fun _ _ _ h => h) (Or.inl ⟨by rfl, ?_⟩) (⟨HBX1.out, HL1.out.blk⟩) ?_
 rotate_left
 ·intro w' hS; have q0 : w'.cell? ⟨q2, 0, none⟩ = some (.pointer (some ⟨l, 0, none⟩)) := hS.1.1.cell 0; go_simp; with_reducible rfl
 try simp only [Act.put, List.getElem_toArray, List.getElem_cons_zero, List.getElem_cons_succ, List.setIfInBounds_toArray, List.set_cons_zero, List.set_cons_succ]
 refine wpAnyH_take (i := 2) (v := ?_) rfl (by kernel_rfl) (by kernel_rfl) (by kernel_rfl) (fun _ _ _ h => h) (Or.inl ⟨by rfl, ?_⟩) (⟨HBX1.out, HL1.out.blk⟩) ?_
 rotate_left
 ·intro w _; go_simp; with_reducible rfl
 try simp only [Act.put, List.getElem_toArray, List.getElem_cons_zero, List.getElem_cons_succ, List.setIfInBounds_toArray, List.set_cons_zero, List.set_cons_succ]
 refine wpAnyH_take (i := 3) (v := ?_) rfl (by kernel_rfl) (by kernel_rfl) (by kernel_rfl) (fun _ _ _ h => h) (Or.inl ⟨by rfl, ?_⟩) (⟨HBX1.out, HL1.out.blk⟩) ?_
 rotate_left
 ·intro w _; go_simp; with_reducible rfl
 try simp only [Act.put, List.getElem_toArray, List.getElem_cons_zero, List.getElem_cons_succ, List.setIfInBounds_toArray, List.set_cons_zero, List.set_cons_succ]
 refine wpAnyH_take (i := 4) (v := ?_) rfl (by kernel_rfl) (by kernel_rfl) (by kernel_rfl) (fun _ _ _ h => h) (Or.inl ⟨by rfl, ?_⟩) (⟨HBX1.out, HL1.out.blk⟩) ?_
 rotate_left
 ·intro w' hS; have q0 : w'.cell? ⟨l, 6, none⟩ = some (.int .i64 (U : Nat)) := hS.2.cell 6; go_simp; with_reducible rfl
 try simp only [Act.put, List.getElem_toArray, List.getElem_cons_zero, List.getElem_cons_succ, List.setIfInBounds_toArray, List.set_cons_zero, List.set_cons_succ]
 refine wpAnyH_take (i := 5) (v := ?_) rfl (by kernel_rfl) (by kernel_rfl) (by kernel_rfl) (fun _ _ _ h => h) (Or.inl ⟨by rfl, ?_⟩) (⟨HBX1.out, HL1.out.blk⟩) ?_
 rotate_left
 ·intro w _; go_simp; with_reducible rfl
 try simp only [Act.put, List.getElem_toArray, List.getElem_cons_zero, List.getElem_cons_succ, List.setIfInBounds_toArray, List.set_cons_zero, List.set_cons_succ]
 refine wpAnyH_take (i := 6) (v := ?_) rfl (by kernel_rfl) (by kernel_rfl) (by kernel_rfl) (fun _ _ _ h => h) (Or.inl ⟨by rfl, ?_⟩) (⟨HBX1.out, HL1.out.blk⟩) ?_
 rotate_left
 ·intro w _; go_simp; with_reducible rfl
 try simp only [Act.put, List.getElem_toArray, List.getElem_cons_zero, List.getElem_cons_succ, List.setIfInBounds_toArray, List.set_cons_zero, List.set_cons_succ]
 refine wpAnyH_take (i := 7) (v := .pointer (some ⟨l, 3 * U, none⟩)) rfl (by kernel_rfl) (by kernel_rfl) (by kernel_rfl) (fun _ _ _ h => h) (Or.inl ⟨by rfl, ?_⟩) (⟨HBX1.out, HL1.out.blk⟩) ?_
 ·intro w' _; rcases HUU.out with rfl | rfl <;> (go_simp; try with_reducible rfl)
 try simp only [Act.put, List.getElem_toArray, List.getElem_cons_zero, List.getElem_cons_succ, List.setIfInBounds_toArray, List.set_cons_zero, List.set_cons_succ]
 refine wpAnyH_take (i := 8) rfl (by kernel_rfl) (by kernel_rfl) (by kernel_rfl) (fun _ _ _ h => h) (yieldsIf_load_mid (by rfl) 56 (.tmp 11) rfl l (3 * U) rfl [.pointer (some ⟨d, 0, none⟩), .int .i64 (f : Nat), .int .i64 (z : Int)] _ (fun w' hS => HFR.out w' _ _ hS.2) Tryd.underlying56 rfl (by kernel_rfl)) (⟨HBX1.out, HL1.out.blk⟩) ?_
 try simp only [Act.put, List.getElem_toArray, List.getElem_cons_zero, List.getElem_cons_succ, List.setIfInBounds_toArray, List.set_cons_zero, List.set_cons_succ]
 refine all_one (i := 9) (by kernel_rfl) rfl (by rfl) (fun K hK => ?_)
 go_simp
 refine hK _ _ ⟨⟨HBX1.out.1.alloc _, HBX1.out.2.1.alloc _, HBX1.out.2.2.alloc _⟩, HL1.out.blk.alloc _⟩ ?_; clear hK K
 try simp only [Act.put, List.getElem_toArray, List.getElem_cons_zero, List.getElem_cons_succ, List.setIfInBounds_toArray, List.set_cons_zero, List.set_cons_succ]
 obtain ⟨w2, hw2⟩ : ∃ w2, w2 = (w1.alloc (.cells #[.pointer none, .int .i64 0, .int .i64 0] 56)).setRow w1.heap.size #[.pointer (some ⟨d, 0, none⟩), .int .i64 (f : Nat), .int .i64 (z : Int)] := ⟨_, rfl⟩
 have HB2 : Hid (Below w1.heap.size w1 w2) := Lib.hid (by rw [hw2]; exact below_row (below_al w1 _) (Nat.le_refl _) _)
 have HL2 := Lib.hid (HL1.out.below HB2.out)
 have HD2 := Lib.hid (HD1.out.below HB2.out)
 have HE2 := Lib.hid (HE1.out.below HB2.out)
 have HR2 := Lib.hid (HR1.out.below HB2.out)
 have HBX2 : Hid (Blk w2 q2 30 #[.pointer (some ⟨l, 0, none⟩)] ∧ Blk w2 q3 39 #[.slice A nb c] ∧ Blk w2 q5 3 #[.int .i64 (nd : Int)]) := Lib.hid ⟨HBX1.out.1.below HB2.out HBX1.out.1.lt, HBX1.out.2.1.below HB2.out HBX1.out.2.1.lt, HBX1.out.2.2.below HB2.out HBX1.out.2.2.lt⟩
 have HT2 := Lib.hid (HT1.out.trans (TFr.below HB2.out))
 have HK2 : Hid (Blk w2 w1.heap.size 56 #[.pointer (some ⟨d, 0, none⟩), .int .i64 (f : Nat), .int .i64 (z : Int)]) := Lib.hid (by rw [hw2]; exact (Blk.new w1 _ _).row _)
 refine all_one (i := 10) (by kernel_rfl) rfl (by rfl) (fun K hK => ?_)
 refine wp_store_row 56 (.tmp 3) (.tmp 12) rfl w1.heap.size #[.pointer (some ⟨d, 0, none⟩), .int .i64 (f : Nat), .int .i64 (z : Int)] rfl rfl 56 #[.pointer none, .int .i64 0, .int .i64 0] (Blk.new w1 _ _) (by kernel_rfl) rfl (by simp [Value.oneCell']) ?_
 rw [← hw2]
 refine hK _ _ ⟨HBX2.out, HL2.out.blk⟩ ?_; clear hK K
 try simp only [Act.put, List.getElem_toArray, List.getElem_cons_zero, List.getElem_cons_succ]
 refine wpAnyH_done (by kernel_rfl) ?_ _
 obtain ⟨g5, hg5⟩ : ∃ g5, g5 = w1.heap.size := ⟨_, rfl⟩
 rw [← hg5] at HK2 ⊢
 clear hw2 hg5
 go_wp2_with fail
 obtain ⟨w3, hw3⟩ : ∃ w3, w3 = w2.drew := ⟨_, rfl⟩
 have HB3 : Hid (Below w2.heap.size w2 w3) := Lib.hid (by rw [hw3]; exact below_drewN (Below.refl _ _) 1)
 have HL3 := Lib.hid (HL2.out.below HB3.out)
 have HD3 := Lib.hid (HD2.out.below HB3.out)
 have HE3 := Lib.hid (HE2.out.below HB3.out)
 have HR3 := Lib.hid (HR2.out.below HB3.out)
 have HBX3 : Hid (Blk w3 q2 30 #[.pointer (some ⟨l, 0, none⟩)] ∧ Blk w3 q3 39 #[.slice A nb c] ∧ Blk w3 q5 3 #[.int .i64 (nd : Int)]) := Lib.hid ⟨HBX2.out.1.below HB3.out HBX2.out.1.lt, HBX2.out.2.1.below HB3.out HBX2.out.2.1.lt, HBX2.out.2.2.below HB3.out HBX2.out.2.2.lt⟩
 have HT3 := Lib.hid (HT2.out.trans (TFr.below HB3.out))
 have HK3 : Hid (Blk w3 g5 56 #[.pointer (some ⟨d, 0, none⟩), .int .i64 (f : Nat), .int .i64 (z : Int)]) := Lib.hid (HK2.out.below HB3.out HK2.out.lt)
 refine wp_region_held (S := (fun w' => (Blk w' q2 30 #[.pointer (some ⟨l, 0, none⟩)] ∧ Blk w' q3 39 #[.slice A nb c] ∧ Blk w' q5 3 #[.int .i64 (nd : Int)]) ∧ Blk w' l 59 (logCells d z U n (.slice AV ls.length cV) m false) ∧ Blk w' g5 56 #[.pointer (some ⟨d, 0, none⟩), .int .i64 (f : Nat), .int .i64 (z : Int)])) (by kernel_rfl) ?_
 change wpAnyH _ _ _ _ _ _ _ _ w2.drew
 rw [← hw3]
 clear hw3
 refine wpAnyH_take (i := 0) rfl (by kernel_rfl) (by kernel_rfl) (by kernel_rfl) (fun _ _ _ h => h) (takes_row 56 (.tmp 3) rfl (by rfl) (g5) rfl 56 (#[.pointer (some ⟨d, 0, none⟩), .int .i64 (f : Nat), .int .i64 (z : Int)]) _ (fun w' h => h.2.2) Tryd.underlying56 rfl (by kernel_rfl)) (⟨HBX3.out, HL3.out.blk, HK3.out⟩) ?_
 try simp only [Act.put, List.getElem_toArray, List.getElem_cons_zero, List.setIfInBounds_toArray, List.set_cons_zero, List.set_cons_succ]
 refine wpAnyH_take (i := 1) (v := ?_) rfl (by kernel_rfl) (by kernel_rfl) (by kernel_rfl) (fun _ _ _ h => h) (Or.inl ⟨by rfl, ?_⟩) (⟨HBX3.out, HL3.out.blk, HK3.out⟩) ?_
 rotate_left
 ·intro w' hS; have q0 : w'.cell? ⟨q2, 0, none⟩ = some (.pointer (some ⟨l, 0, none⟩)) := hS.1.1.cell 0; go_simp; with_reducible rfl
 try simp only [Act.put, List.getElem_toArray, List.getElem_cons_zero, List.getElem_cons_succ, List.setIfInBounds_toArray, List.set_cons_zero, List.set_cons_succ]
 refine wpAnyH_take (i := 2) (v := ?_) rfl (by kernel_rfl) (by kernel_rfl) (by kernel_rfl) (fun _ _ _ h => h) (Or.inl ⟨by rfl, ?_⟩) (⟨HBX3.out, HL3.out.blk, HK3.out⟩) ?_
 rotate_left
 ·intro w _; go_simp; with_reducible rfl
 try simp only [Act.put, List.getElem_toArray, List.getElem_cons_zero, List.getElem_cons_succ, List.setIfInBounds_toArray, List.set_cons_zero, List.set_cons_succ]
 refine wpAnyH_take (i := 3) (v := ?_) rfl (by kernel_rfl) (by kernel_rfl) (by kernel_rfl) (fun _ _ _ h => h) (Or.inl ⟨by rfl, ?_⟩) (⟨HBX3.out, HL3.out.blk, HK3.out⟩) ?_
 rotate_left
 ·intro w _; go_simp; with_reducible rfl
 try simp only [Act.put, List.getElem_toArray, List.getElem_cons_zero, List.getElem_cons_succ, List.setIfInBounds_toArray, List.set_cons_zero, List.set_cons_succ]
 refine wpAnyH_take (i := 4) (v := ?_) rfl (by kernel_rfl) (by kernel_rfl) (by kernel_rfl) (fun _ _ _ h => h) (Or.inl ⟨by rfl, ?_⟩) (⟨HBX3.out, HL3.out.blk, HK3.out⟩) ?_
 rotate_left
 ·intro w' hS; have q0 : w'.cell? ⟨l, 9, none⟩ = some (.int .i64 (m : Nat)) := hS.2.1.cell 9; go_simp; with_reducible rfl
 try simp only [Act.put, List.getElem_toArray, List.getElem_cons_zero, List.getElem_cons_succ, List.setIfInBounds_toArray, List.set_cons_zero, List.set_cons_succ]
 refine wpAnyH_take (i := 5) (v := ?_) rfl (by kernel_rfl) (by kernel_rfl) (by kernel_rfl) (fun _ _ _ h => h) (Or.inl ⟨by rfl, ?_⟩) (⟨HBX3.out, HL3.out.blk, HK3.out⟩) ?_
 rotate_left
 ·intro w' hS; have q0 : w'.cell? ⟨q2, 0, none⟩ = some (.pointer (some ⟨l, 0, none⟩)) := hS.1.1.cell 0; go_simp; with_reducible rfl
 try simp only [Act.put, List.getElem_toArray, List.getElem_cons_zero, List.getElem_cons_succ, List.setIfInBounds_toArray, List.set_cons_zero, List.set_cons_succ]
 refine wpAnyH_take (i := 6) (v := ?_) rfl (by kernel_rfl) (by kernel_rfl) (by kernel_rfl) (fun _ _ _ h => h) (Or.inl ⟨by rfl, ?_⟩) (⟨HBX3.out, HL3.out.blk, HK3.out⟩) ?_
 rotate_left
 ·intro w _; go_simp; with_reducible rfl
 try simp only [Act.put, List.getElem_toArray, List.getElem_cons_zero, List.getElem_cons_succ, List.setIfInBounds_toArray, List.set_cons_zero, List.set_cons_succ]
 refine wpAnyH_take (i := 7) (v := ?_) rfl (by kernel_rfl) (by kernel_rfl) (by kernel_rfl) (fun _ _ _ h => h) (Or.inl ⟨by rfl, ?_⟩) (⟨HBX3.out, HL3.out.blk, HK3.out⟩) ?_
 rotate_left
 ·intro w _; go_simp; with_reducible rfl
 try simp only [Act.put, List.getElem_toArray, List.getElem_cons_zero, List.getElem_cons_succ, List.setIfInBounds_toArray, List.set_cons_zero, List.set_cons_succ]
 refine wpAnyH_take (i := 8) (v := ?_) rfl (by kernel_rfl) (by kernel_rfl) (by kernel_rfl) (fun _ _ _ h => h) (Or.inl ⟨by rfl, ?_⟩) (⟨HBX3.out, HL3.out.blk, HK3.out⟩) ?_
 rotate_left
 ·intro w' hS; have q0 : w'.cell? ⟨l, 7, none⟩ = some (.int .i64 (n : Nat)) := hS.2.1.cell 7; go_simp; with_reducible rfl
 try simp only [Act.put, List.getElem_toArray, List.getElem_cons_zero, List.getElem_cons_succ, List.setIfInBounds_toArray, List.set_cons_zero, List.set_cons_succ]
 refine wpAnyH_take (i := 9) (v := ?_) rfl (by kernel_rfl) (by kernel_rfl) (by kernel_rfl) (fun _ _ _ h => h) (Or.inl ⟨by rfl, ?_⟩) (⟨HBX3.out, HL3.out.blk, HK3.out⟩) ?_
 rotate_left
 ·intro w' hS; have q0 : w'.cell? ⟨q2, 0, none⟩ = some (.pointer (some ⟨l, 0, none⟩)) := hS.1.1.cell 0; go_simp; with_reducible rfl
 try simp only [Act.put, List.getElem_toArray, List.getElem_cons_zero, List.getElem_cons_succ, List.setIfInBounds_toArray, List.set_cons_zero, List.set_cons_succ]
 refine wpAnyH_take (i := 10) (v := ?_) rfl (by kernel_rfl) (by kernel_rfl) (by kernel_rfl) (fun _ _ _ h => h) (Or.inl ⟨by rfl, ?_⟩) (⟨HBX3.out, HL3.out.blk, HK3.out⟩) ?_
 rotate_left
 ·intro w _; go_simp; with_reducible rfl
 try simp only [Act.put, List.getElem_toArray, List.getElem_cons_zero, List.getElem_cons_succ, List.setIfInBounds_toArray, List.set_cons_zero, List.set_cons_succ]
 refine wpAnyH_take (i := 11) (v := ?_) rfl (by kernel_rfl) (by kernel_rfl) (by kernel_rfl) (fun _ _ _ h => h) (Or.inl ⟨by rfl, ?_⟩) (⟨HBX3.out, HL3.out.blk, HK3.out⟩) ?_
 rotate_left
 ·intro w _; go_simp; with_reducible rfl
 try simp only [Act.put, List.getElem_toArray, List.getElem_cons_zero, List.getElem_cons_succ, List.setIfInBounds_toArray, List.set_cons_zero, List.set_cons_succ]
 refine wpAnyH_take (i := 12) (v := ?_) rfl (by kernel_rfl) (by kernel_rfl) (by kernel_rfl) (fun _ _ _ h => h) (Or.inl ⟨by rfl, ?_⟩) (⟨HBX3.out, HL3.out.blk, HK3.out⟩) ?_
 rotate_left
 ·intro w' hS; have q0 : w'.cell? ⟨l, 8, none⟩ = some (.slice AV ls.length cV) := hS.2.1.cell 8; go_simp; with_reducible rfl
 try simp only [Act.put, List.getElem_toArray, List.getElem_cons_zero, List.getElem_cons_succ, List.setIfInBounds_toArray, List.set_cons_zero, List.set_cons_succ]
 refine wpAnyH_take (i := 13) (v := ?_) rfl (by kernel_rfl) (by kernel_rfl) (by kernel_rfl) (fun _ _ _ h => h) (Or.inl ⟨by rfl, ?_⟩) (⟨HBX3.out, HL3.out.blk, HK3.out⟩) ?_
 rotate_left
 ·intro w _; go_simp; with_reducible rfl
 try simp only [Act.put, List.getElem_toArray, List.getElem_cons_zero, List.getElem_cons_succ, List.setIfInBounds_toArray, List.set_cons_zero, List.set_cons_succ]
 refine wpAnyH_take (i := 14) (v := ?_) rfl (by kernel_rfl) (by kernel_rfl) (by kernel_rfl) (fun _ _ _ h => h) (Or.inl ⟨by rfl, ?_⟩) (⟨HBX3.out, HL3.out.blk, HK3.out⟩) ?_
 rotate_left
 ·intro w' hS; have q0 : w'.cell? ⟨q3, 0, none⟩ = some (.slice A nb c) := hS.1.2.1.cell 0; go_simp; with_reducible rfl
 try simp only [Act.put, List.getElem_toArray, List.getElem_cons_zero, List.getElem_cons_succ, List.setIfInBounds_toArray, List.set_cons_zero, List.set_cons_succ]
 have CP := hput_any f z m n ls.length A nb c bs a w0 w3 HD3.out HBL.out hb1 hb2 (HRB.out _ HT3.out) HBY.out (by rw [← HND.out]; have := HFZ.out; have := HFF.out; omega) (by rw [← HND.out]; have := HSZ.out; omega) hn (by omega) HE3.out
 rw [← HND.out] at CP
 refine all_one (i := 15) (by kernel_rfl) rfl (by rfl) (fun K hK => ?_)
 go_simp
 obtain ⟨p1, hp1⟩ : ∃ p1, p1 = (Hv.putM f m n ls.length bs S).1 := ⟨_, rfl⟩
 rw [← hp1] at CP
 have HP1 := Lib.hid hp1
 clear hp1
 refine CP.mono ?_
 rintro e w4 ⟨rfl, hd4, ht4⟩
 rcases hp : p1 with _ | _
 ·have HFIN : Hid (M = (false, (Hv.putM f m n ls.length bs S).2)) := Lib.hid (by rw [HM.out, ← HFF.out]; exact Hv.andM_no (by rw [← HP1.out, hp]))
  refine ⟨rfl, ?_⟩
  rw [HFIN.out]
  exact Or.inr ⟨rfl, rfl, hd4.mono (by omega), HT3.out.trans ht4⟩
 subst hp
 have HL4 := Lib.hid (HL3.out.tfr ht4)
 have HT4 := Lib.hid (HT3.out.trans ht4)
 have HE4 := Lib.hid (HE3.out.tfr ht4)
 have HR4 := Lib.hid (HR3.out.tfr ht4)
 have HBX4 : Hid (Blk w4 q2 30 #[.pointer (some ⟨l, 0, none⟩)] ∧ Blk w4 q3 39 #[.slice A nb c] ∧ Blk w4 q5 3 #[.int .i64 (nd : Int)]) := Lib.hid ⟨ht4.typed _ _ _ HBX3.out.1 (by decide) (by decide), ht4.typed _ _ _ HBX3.out.2.1 (by decide) (by decide), ht4.typed _ _ _ HBX3.out.2.2 (by decide) (by decide)⟩
 have HK4 : Hid (Blk w4 g5 56 #[.pointer (some ⟨d, 0, none⟩), .int .i64 (f : Nat), .int .i64 (z : Int)]) := Lib.hid (ht4.typed _ _ _ HK3.out (by decide) (by decide))
 have HD4 := Lib.hid hd4
 unfold outc
 rw [if_pos rfl]
 dsimp only
 refine hK _ _ ⟨HBX4.out, HL4.out.blk, HK4.out⟩ ?_; clear hK K CP hd4 ht4
 try simp only [Act.put, List.getElem_toArray, List.getElem_cons_zero, List.getElem_cons_succ, List.setIfInBounds_toArray, List.set_cons_zero, List.set_cons_succ]
 refine wpAnyH_done (by kernel_rfl) ?_ _
 have CS := xsync_any f z (a 15) w4 HD4.out (by have := HSZ.out; omega) HE4.out.down (HE4.out.ne HD4.out)
 obtain ⟨dn, hdn⟩ : ∃ dn, dn = Dk.done (Hv.putM f m n ls.length bs S).2 := ⟨_, rfl⟩
 rw [← hdn] at CS
 have HDN := Lib.hid hdn
 clear hdn
 go_wp2_with (refine wpList_load_row rfl 56 (.tmp 3) rfl g5 rfl 56 _ (0,0) _ HK4.out Tryd.underlying56 rfl (by kernel_rfl) ?_)
 go_at_call 26
 refine CS.mono ?_
 rintro e w5 ⟨rfl, hd5, ht5⟩
 have HM2 : Hid (M = (dn, Dk.syncs (Hv.putM f m n ls.length bs S).2)) := Lib.hid (by rw [HM.out, ← HFF.out, HDN.out]; exact Hv.andM_yes HP1.out.symm)
 rcases hp : dn with _ | _
 ·refine ⟨rfl, ?_⟩
  rw [HM2.out, hp]
  exact Or.inr ⟨rfl, rfl, hd5, HT4.out.trans ht5⟩
 subst hp
 have HL5 := Lib.hid (HL4.out.tfr ht5)
 have HT5 := Lib.hid (HT4.out.trans ht5)
 have HE5 := Lib.hid (HE4.out.tfr ht5)
 have HR5 := Lib.hid (HR4.out.tfr ht5)
 have HBX5 : Hid (Blk w5 q2 30 #[.pointer (some ⟨l, 0, none⟩)] ∧ Blk w5 q3 39 #[.slice A nb c] ∧ Blk w5 q5 3 #[.int .i64 (nd : Int)]) := Lib.hid ⟨ht5.typed _ _ _ HBX4.out.1 (by decide) (by decide), ht5.typed _ _ _ HBX4.out.2.1 (by decide) (by decide), ht5.typed _ _ _ HBX4.out.2.2 (by decide) (by decide)⟩
 have HK5 : Hid (Blk w5 g5 56 #[.pointer (some ⟨d, 0, none⟩), .int .i64 (f : Nat), .int .i64 (z : Int)]) := Lib.hid (ht5.typed _ _ _ HK4.out (by decide) (by decide))
 have HD5 := Lib.hid hd5
 unfold outc
 rw [if_pos rfl]
 clear hd5 ht5 CS
 go_wp2_with fail
 obtain ⟨w6, hw6⟩ : ∃ w6, w6 = w5.drew := ⟨_, rfl⟩
 have HB6 : Hid (Below w5.heap.size w5 w6) := Lib.hid (by rw [hw6]; exact below_drewN (Below.refl _ _) 1)
 have HL6 := Lib.hid (HL5.out.below HB6.out)
 have HD6 := Lib.hid (HD5.out.below HB6.out)
 have HE6 := Lib.hid (HE5.out.below HB6.out)
 have HR6 := Lib.hid (HR5.out.below HB6.out)
 have HBX6 : Hid (Blk w6 q2 30 #[.pointer (some ⟨l, 0, none⟩)] ∧ Blk w6 q3 39 #[.slice A nb c] ∧ Blk w6 q5 3 #[.int .i64 (nd : Int)]) := Lib.hid ⟨HBX5.out.1.below HB6.out HBX5.out.1.lt, HBX5.out.2.1.below HB6.out HBX5.out.2.1.lt, HBX5.out.2.2.below HB6.out HBX5.out.2.2.lt⟩
 have HT6 := Lib.hid (HT5.out.trans (TFr.below HB6.out))
 refine wp_region_upto (S := (fun w' => (Blk w' q2 30 #[.pointer (some ⟨l, 0, none⟩)] ∧ Blk w' q3 39 #[.slice A nb c] ∧ Blk w' q5 3 #[.int .i64 (nd : Int)]) ∧ Blk w' l 59 (logCells d z U n (.slice AV ls.length cV) m false))) (b := 18) (by kernel_rfl) ?_
 change Upto _ _ _ _ _ _ _ _ _ w5.drew
 rw [← hw6]
 clear hw6
 have W1 : IntKind.i64.wrap ((m : Int) + (nd : Int)) = ((m + nd : Nat) : Int) := by have := HSZ.out; rw [IntWalk.i64_in _ (by omega)]; omega
 refine Upto.take (i := 0) (v := ?_) rfl (by kernel_rfl) (by kernel_rfl) (by kernel_rfl) (by kernel_rfl) (fun _ _ _ h => h) (Or.inl ⟨by rfl, ?_⟩) (⟨HBX6.out, HL6.out.blk⟩) ?_
 rotate_left
 ·intro w' hS; have q0 : w'.cell? ⟨q2, 0, none⟩ = some (.pointer (some ⟨l, 0, none⟩)) := hS.1.1.cell 0; go_simp; with_reducible rfl
 try simp only [Act.put, List.getElem_toArray, List.getElem_cons_zero, List.setIfInBounds_toArray, List.set_cons_zero, List.set_cons_succ]
 refine Upto.take (i := 1) (v := ?_) rfl (by kernel_rfl) (by kernel_rfl) (by kernel_rfl) (by kernel_rfl) (fun _ _ _ h => h) (Or.inl ⟨by rfl, ?_⟩) (⟨HBX6.out, HL6.out.blk⟩) ?_
 rotate_left
 ·intro w' hS; have q0 : w'.cell? ⟨q2, 0, none⟩ = some (.pointer (some ⟨l, 0, none⟩)) := hS.1.1.cell 0; go_simp; with_reducible rfl
 try simp only [Act.put, List.getElem_toArray, List.getElem_cons_zero, List.getElem_cons_succ, List.setIfInBounds_toArray, List.set_cons_zero, List.set_cons_succ]
 refine Upto.take (i := 2) (v := ?_) rfl (by kernel_rfl) (by kernel_rfl) (by kernel_rfl) (by kernel_rfl) (fun _ _ _ h => h) (Or.inl ⟨by rfl, ?_⟩) (⟨HBX6.out, HL6.out.blk⟩) ?_
 rotate_left
 ·intro w' hS; have q0 : w'.cell? ⟨q2, 0, none⟩ = some (.pointer (some ⟨l, 0, none⟩)) := hS.1.1.cell 0; go_simp; with_reducible rfl
 try simp only [Act.put, List.getElem_toArray, List.getElem_cons_zero, List.getElem_cons_succ, List.setIfInBounds_toArray, List.set_cons_zero, List.set_cons_succ]
 refine Upto.take (i := 3) (v := ?_) rfl (by kernel_rfl) (by kernel_rfl) (by kernel_rfl) (by kernel_rfl) (fun _ _ _ h => h) (Or.inl ⟨by rfl, ?_⟩) (⟨HBX6.out, HL6.out.blk⟩) ?_
 rotate_left
 ·intro w _; go_simp; with_reducible rfl
 try simp only [Act.put, List.getElem_toArray, List.getElem_cons_zero, List.getElem_cons_succ, List.setIfInBounds_toArray, List.set_cons_zero, List.set_cons_succ]
 refine Upto.take (i := 4) (v := ?_) rfl (by kernel_rfl) (by kernel_rfl) (by kernel_rfl) (by kernel_rfl) (fun _ _ _ h => h) (Or.inl ⟨by rfl, ?_⟩) (⟨HBX6.out, HL6.out.blk⟩) ?_
 rotate_left
 ·intro w _; go_simp; with_reducible rfl
 try simp only [Act.put, List.getElem_toArray, List.getElem_cons_zero, List.getElem_cons_succ, List.setIfInBounds_toArray, List.set_cons_zero, List.set_cons_succ]
 refine Upto.take (i := 5) (v := ?_) rfl (by kernel_rfl) (by kernel_rfl) (by kernel_rfl) (by kernel_rfl) (fun _ _ _ h => h) (Or.inl ⟨by rfl, ?_⟩) (⟨HBX6.out, HL6.out.blk⟩) ?_
 rotate_left
 ·intro w' hS; have q0 : w'.cell? ⟨l, 8, none⟩ = some (.slice AV ls.length cV) := hS.2.cell 8; go_simp; with_reducible rfl
 try simp only [Act.put, List.getElem_toArray, List.getElem_cons_zero, List.getElem_cons_succ, List.setIfInBounds_toArray, List.set_cons_zero, List.set_cons_succ]
 refine Upto.take (i := 6) (v := ?_) rfl (by kernel_rfl) (by kernel_rfl) (by kernel_rfl) (by kernel_rfl) (fun _ _ _ h => h) (Or.inl ⟨by rfl, ?_⟩) (⟨HBX6.out, HL6.out.blk⟩) ?_
 rotate_left
 ·intro w' hS; have q0 : w'.cell? ⟨q3, 0, none⟩ = some (.slice A nb c) := hS.1.2.1.cell 0; go_simp; with_reducible rfl
 try simp only [Act.put, List.getElem_toArray, List.getElem_cons_zero, List.getElem_cons_succ, List.setIfInBounds_toArray, List.set_cons_zero, List.set_cons_succ]
 refine Upto.take (i := 10) (v := ?_) rfl (by kernel_rfl) (by kernel_rfl) (by kernel_rfl) (by kernel_rfl) (fun _ _ _ h => h) (Or.inl ⟨by rfl, ?_⟩) (⟨HBX6.out, HL6.out.blk⟩) ?_
 rotate_left
 ·intro w' hS; have q0 : w'.cell? ⟨q2, 0, none⟩ = some (.pointer (some ⟨l, 0, none⟩)) := hS.1.1.cell 0; go_simp; with_reducible rfl
 try simp only [Act.put, List.getElem_toArray, List.getElem_cons_zero, List.getElem_cons_succ, List.setIfInBounds_toArray, List.set_cons_zero, List.set_cons_succ]
 refine Upto.takeY (i := 11) (v := ?_) rfl (by kernel_rfl) (by kernel_rfl) (by kernel_rfl) (by kernel_rfl) (fun _ _ _ h => h) (Or.inl ⟨by rfl, ?_⟩) (fun _ => ⟨HBX6.out, HL6.out.blk⟩) ?_
 rotate_left
 ·intro w _; go_simp; with_reducible rfl
 try simp only [Act.put, List.getElem_toArray, List.getElem_cons_zero, List.getElem_cons_succ, List.setIfInBounds_toArray, List.set_cons_zero, List.set_cons_succ]
 refine Upto.takeY (i := 12) (v := ?_) rfl (by kernel_rfl) (by kernel_rfl) (by kernel_rfl) (by kernel_rfl) (fun _ _ _ h => h) (Or.inl ⟨by rfl, ?_⟩) (fun _ => ⟨HBX6.out, HL6.out.blk⟩) ?_
 rotate_left
 ·intro w _; go_simp; with_reducible rfl
 try simp only [Act.put, List.getElem_toArray, List.getElem_cons_zero, List.getElem_cons_succ, List.setIfInBounds_toArray, List.set_cons_zero, List.set_cons_succ]
 refine Upto.take (i := 13) (v := ?_) rfl (by kernel_rfl) (by kernel_rfl) (by kernel_rfl) (by kernel_rfl) (fun _ _ _ h => h) (Or.inl ⟨by rfl, ?_⟩) (⟨HBX6.out, HL6.out.blk⟩) ?_
 rotate_left
 ·intro w' hS; have q0 : w'.cell? ⟨l, 9, none⟩ = some (.int .i64 (m : Nat)) := hS.2.cell 9; go_simp; with_reducible rfl
 try simp only [Act.put, List.getElem_toArray, List.getElem_cons_zero, List.getElem_cons_succ, List.setIfInBounds_toArray, List.set_cons_zero, List.set_cons_succ]
 refine Upto.take (i := 14) (v := ?_) rfl (by kernel_rfl) (by kernel_rfl) (by kernel_rfl) (by kernel_rfl) (fun _ _ _ h => h) (Or.inl ⟨by rfl, ?_⟩) (⟨HBX6.out, HL6.out.blk⟩) ?_
 rotate_left
 ·intro w' hS; have q0 : w'.cell? ⟨q5, 0, none⟩ = some (.int .i64 (nd : Nat)) := hS.1.2.2.cell 0; go_simp; with_reducible rfl
 try simp only [Act.put, List.getElem_toArray, List.getElem_cons_zero, List.getElem_cons_succ, List.setIfInBounds_toArray, List.set_cons_zero, List.set_cons_succ]
 refine Upto.takeY (i := 15) (v := .int .i64 ((m + nd : Nat) : Int)) rfl (by kernel_rfl) (by kernel_rfl) (by kernel_rfl) (by kernel_rfl) (fun _ _ _ h => h) (Or.inl ⟨by rfl, ?_⟩) (fun _ => ⟨HBX6.out, HL6.out.blk⟩) ?_
 ·intro w' hS; go_simp
 try simp only [Act.put, List.getElem_toArray, List.getElem_cons_zero, List.getElem_cons_succ, List.setIfInBounds_toArray, List.set_cons_zero, List.set_cons_succ]
 refine Upto.one (i := 7) (by kernel_rfl) rfl (by rfl) (fun K hK => ?_)
 go_simp
 have CC := cloneU_any _ bs w6 (HRB.out _ HT6.out) (by rw [HBL.out]; omega)
 rw [HBL.out] at CC
 refine CC.mono ?_
 rintro e w7 ⟨A7, c7, rfl, hr7, hb7⟩
 have HL7 := Lib.hid (HL6.out.below hb7)
 have HD7 := Lib.hid (HD6.out.below hb7)
 have HE7 := Lib.hid (HE6.out.below hb7)
 have HR7 := Lib.hid (HR6.out.below hb7)
 have HBX7 : Hid (Blk w7 q2 30 #[.pointer (some ⟨l, 0, none⟩)] ∧ Blk w7 q3 39 #[.slice A nb c] ∧ Blk w7 q5 3 #[.int .i64 (nd : Int)]) := Lib.hid ⟨HBX6.out.1.below hb7 HBX6.out.1.lt, HBX6.out.2.1.below hb7 HBX6.out.2.1.lt, HBX6.out.2.2.below hb7 HBX6.out.2.2.lt⟩
 have HT7 := Lib.hid (HT6.out.trans (TFr.below hb7))
 have HRN7 : Hid (RdU B w7 (.slice A7 nb c7) bs) := Lib.hid (hr7.mono (by have := HD6.out.lt; omega))
 dsimp only
 refine hK _ _ (fun _ _ => ⟨HBX7.out, HL7.out.blk⟩) ?_; clear hK K CC hr7 hb7
 try simp only [Act.put, List.getElem_toArray, List.getElem_cons_zero, List.getElem_cons_succ, List.setIfInBounds_toArray, List.set_cons_zero, List.set_cons_succ]
 refine Upto.one (i := 8) (by kernel_rfl) rfl (by rfl) (fun K hK => ?_)
 go_simp
 obtain ⟨w8, hw8⟩ : ∃ w8, w8 = w7.alloc (.cells #[.slice A7 nb c7] 39) := ⟨_, rfl⟩
 have HB8 : Hid (Below w7.heap.size w7 w8) := Lib.hid (by rw [hw8]; exact below_al w7 _)
 have HL8 := Lib.hid (HL7.out.below HB8.out)
 have HD8 := Lib.hid (HD7.out.below HB8.out)
 have HE8 := Lib.hid (HE7.out.below HB8.out)
 have HR8 := Lib.hid (HR7.out.below HB8.out)
 have HBX8 : Hid (Blk w8 q2 30 #[.pointer (some ⟨l, 0, none⟩)] ∧ Blk w8 q3 39 #[.slice A nb c] ∧ Blk w8 q5 3 #[.int .i64 (nd : Int)]) := Lib.hid ⟨HBX7.out.1.below HB8.out HBX7.out.1.lt, HBX7.out.2.1.below HB8.out HBX7.out.2.1.lt, HBX7.out.2.2.below HB8.out HBX7.out.2.2.lt⟩
 have HT8 := Lib.hid (HT7.out.trans (TFr.below HB8.out))
 have HRN8 := Lib.hid (HRN7.out.below HB8.out)
 have HN8 : Hid (Blk w8 w7.heap.size 39 #[.slice A7 nb c7]) := Lib.hid (by rw [hw8]; exact Blk.new _ _ _)
 rw [← hw8]
 refine hK _ _ (fun _ _ => ⟨HBX8.out, HL8.out.blk⟩) ?_; clear hK K
 try simp only [Act.put, List.getElem_toArray, List.getElem_cons_zero, List.getElem_cons_succ, List.setIfInBounds_toArray, List.set_cons_zero, List.set_cons_succ]
 have HC8 : Hid (∀ j u, ([.slice A7 nb c7] : List Value)[j]? = some u → w8.cell? ((⟨w7.heap.size, 0, none⟩ : Addr).add j) = some u) := Lib.hid (fun j u hj => by
  rcases j with _ | j
  ·rw [Addr.add_mid, Nat.zero_add]
   exact (HN8.out.cell 0).trans (by simpa using hj)
  ·simp at hj)
 obtain ⟨i0, hi0, hiz, his, hib⟩ := info_parts bsl_info5
 have HF : Hid (ls.length + 1 ≤ maxLen ∧ (ls.length + 1) * 24 ≤ 140737488355328) := Lib.hid ⟨by unfold maxLen; omega, by omega⟩
 have HBB : Hid (B ≤ w8.heap.size) := Lib.hid (by have := HD8.out.lt; omega)
 clear hw8
 refine Upto.one (i := 9) (by kernel_rfl) rfl (by rfl) (fun K hK => ?_)
 refine wp_append_own (w := w8) (.tmp 36) (.tmp 39) 33 rfl B 39 i0 _ 1 24 Tryd.underlying33 hi0 hiz his hib rfl (by decide) (.slice AV ls.length cV) ls.length us rfl HR8.out.row ⟨w7.heap.size, 0, none⟩ 1 1 [.slice A7 nb c7] rfl rfl HC8.out (by simp [Value.oneCell']) HF.out.1 HF.out.2 HBB.out ?_
 intro v' w9 ho hg _
 obtain ⟨A9, c9, rfl⟩ := row_slice ho
 have HALL : Hid (∀ b t cs, Blk w8 b t cs → t ≠ 39 → Blk w9 b t cs) := Lib.hid (fun b t cs hb ht => hb.ofGrown HR8.out.row hg ht)
 have HOR : Hid (∀ g, (Value.slice AV ls.length cV).ownBlock = some g → B ≤ g ∧ ∃ cs, Blk w8 g 39 cs) := Lib.hid (fun g h => own_blk HR8.out.row h)
 have HL9 : Hid (LogAt B w9 l d z U n (.slice AV ls.length cV) m false) := Lib.hid ⟨HALL.out _ _ _ HL8.out.blk (by decide), HLB.out⟩
 have HD9 : Hid (DkX B w9 d _ _) := Lib.hid (HD8.out.kept hg fun g h => by obtain ⟨_, cs, hc⟩ := HOR.out g h; exact ⟨cs, _, hc, by decide, by decide⟩)
 have HA9 : Hid (AFr B l (Value.slice AV ls.length cV).ownBlock w w9) := Lib.hid ((AFr.of HT8.out).trans (AFr.grown hg fun g h => (HOR.out g h).1))
 have HBX9 : Hid (Blk w9 q2 30 #[.pointer (some ⟨l, 0, none⟩)] ∧ Blk w9 q3 39 #[.slice A nb c] ∧ Blk w9 q5 3 #[.int .i64 (nd : Int)]) := Lib.hid ⟨HALL.out _ _ _ HBX8.out.1 (by decide), HBX8.out.2.1.stands (hg.block q3 HBX8.out.2.1.lt HQ.out), HALL.out _ _ _ HBX8.out.2.2 (by decide)⟩
 have HR9 : Hid (Recs B w9 (.slice A9 (ls.length + 1) c9) (us ++ [.slice A7 nb c7]) (ls ++ [bs])) := Lib.hid (by
  refine ⟨by rw [List.length_append]; exact ho, fun i u hi => ?_⟩
  have hul : us.length = ls.length := HR8.out.ulen
  rcases Nat.lt_or_ge i us.length with h4 | h4
  ·rw [List.getElem?_append_left h4] at hi
   have := HR8.out.each i u hi
   rw [show (ls ++ [bs]).getD i [] = ls.getD i [] by simp only [List.getD, List.getElem?_append_left (show i < ls.length by omega)]]
   exact this.of fun b cs h => HALL.out _ _ _ h (by decide)
  ·rw [List.getElem?_append_right h4] at hi
   have h5 : i - us.length < 1 := (List.getElem?_eq_some_iff.1 hi).1
   have h6 : i = ls.length := by omega
   rw [show i - us.length = 0 by omega] at hi
   obtain rfl := Option.some.inj hi
   subst h6
   rw [show (ls ++ [bs]).getD ls.length [] = bs by simp [List.getD]]
   exact HRN8.out.of fun b cs h => HALL.out _ _ _ h (by decide))
 refine hK _ _ (fun _ _ => ⟨HBX9.out, HL9.out.blk⟩) ?_; clear hK K ho hg
 try simp only [Act.put, List.getElem_toArray, List.getElem_cons_zero, List.getElem_cons_succ, List.setIfInBounds_toArray, List.set_cons_zero, List.set_cons_succ]
 refine Upto.takeY (i := 16) (v := ?_) rfl (by kernel_rfl) (by kernel_rfl) (by kernel_rfl) (by kernel_rfl) (fun _ _ _ h => h) (Or.inl ⟨by rfl, ?_⟩) (fun _ => ⟨HBX9.out, HL9.out.blk⟩) ?_
 rotate_left
 ·intro w _; go_simp; with_reducible rfl
 try simp only [Act.put, List.getElem_toArray, List.getElem_cons_zero, List.getElem_cons_succ, List.setIfInBounds_toArray, List.set_cons_zero, List.set_cons_succ]
 refine Upto.takeY (i := 17) (v := ?_) rfl (by kernel_rfl) (by kernel_rfl) (by kernel_rfl) (by kernel_rfl) (fun _ _ _ h => h) (Or.inl ⟨by rfl, ?_⟩) (fun _ => ⟨HBX9.out, HL9.out.blk⟩) ?_
 rotate_left
 ·intro w _; go_simp; with_reducible rfl
 try simp only [Act.put, List.getElem_toArray, List.getElem_cons_zero, List.getElem_cons_succ, List.setIfInBounds_toArray, List.set_cons_zero, List.set_cons_succ]
 have q8 : w9.cell? ⟨l, 8, none⟩ = some (.slice AV ls.length cV) := HL9.out.blk.cell 8
 have z8 : w9.frozen? ⟨l, 8, none⟩ = false := HL9.out.blk.frozen 8
 have k8 := HL9.out.blk.set_ 8 (.slice A9 (ls.length + 1) c9)
 have q9 : (w9.setCell ⟨l, 8, none⟩ (.slice A9 (ls.length + 1) c9)).cell? ⟨l, 9, none⟩ = some (.int .i64 (m : Int)) := k8.cell 9
 have z9 : (w9.setCell ⟨l, 8, none⟩ (.slice A9 (ls.length + 1) c9)).frozen? ⟨l, 9, none⟩ = false := k8.frozen 9
 obtain ⟨w10, hw10⟩ : ∃ w10, w10 = (w9.setCell ⟨l, 8, none⟩ (.slice A9 (ls.length + 1) c9)).setCell ⟨l, 9, none⟩ (.int .i64 ((m : Int) + (nd : Int))) := ⟨_, rfl⟩
 have HL10 : Hid (LogAt B w10 l d z U n (.slice A9 (ls.length + 1) c9) (m + nd) false) := Lib.hid (by rw [hw10]; exact ⟨k8.set_ 9 (.int .i64 ((m : Int) + (nd : Int))), HLB.out⟩)
 have HD10 : Hid (DkX B w10 d _ _) := Lib.hid (by rw [hw10]; exact dk_set2 HD9.out HL9.out.blk _ _ _ _)
 have HA10 : Hid (AFr B l (Value.slice AV ls.length cV).ownBlock w w10) := Lib.hid (by rw [hw10]; exact (HA9.out.trans (AFr.set HLB.out _ _)).trans (AFr.set HLB.out _ _))
 have HR10 : Hid (Recs B w10 (.slice A9 (ls.length + 1) c9) (us ++ [.slice A7 nb c7]) (ls ++ [bs])) := Lib.hid (by rw [hw10]; exact (HR9.out.far HL9.out.blk 8 _).far k8 9 _)
 clear k8
 refine Upto.one (i := 18) (by kernel_rfl) rfl (by rfl) (fun K hK => ?_)
 go_simp
 refine hK _ _ (fun h _ => absurd rfl h) ?_; clear hK K
 try simp only [Act.put, List.getElem_toArray, List.getElem_cons_zero, List.getElem_cons_succ, List.setIfInBounds_toArray, List.set_cons_zero, List.set_cons_succ]
 refine Upto.takeY (i := 19) (v := ?_) rfl (by kernel_rfl) (by kernel_rfl) (by kernel_rfl) (by kernel_rfl) (fun _ _ _ h => h) (Or.inl ⟨by rfl, ?_⟩) (fun h => by simp at h) ?_
 rotate_left
 ·intro w _; go_simp; with_reducible rfl
 try simp only [Act.put, List.getElem_toArray, List.getElem_cons_zero, List.getElem_cons_succ, List.setIfInBounds_toArray, List.set_cons_zero, List.set_cons_succ]
 refine Upto.takeY (i := 20) (v := ?_) rfl (by kernel_rfl) (by kernel_rfl) (by kernel_rfl) (by kernel_rfl) (fun _ _ _ h => h) (Or.inl ⟨by rfl, ?_⟩) (fun h => by simp at h) ?_
 rotate_left
 ·intro w _; go_simp; with_reducible rfl
 try simp only [Act.put, List.getElem_toArray, List.getElem_cons_zero, List.getElem_cons_succ, List.setIfInBounds_toArray, List.set_cons_zero, List.set_cons_succ]
 refine Upto.one (i := 21) (by kernel_rfl) rfl (by rfl) (fun K hK => ?_)
 go_simp
 rw [← hw10]
 refine hK _ _ (fun _ h => by simp at h) ?_; clear hK K
 try simp only [Act.put, List.getElem_toArray, List.getElem_cons_zero, List.getElem_cons_succ, List.setIfInBounds_toArray, List.set_cons_zero, List.set_cons_succ]
 refine Upto.done (by kernel_rfl) ?_ _
 clear hw10 q8 z8 q9 z9
 go_wp2_with fail
 go_end0
 rw [HM2.out]
 exact Or.inl ⟨rfl, rfl, ⟨_, HL10.out, _, HR10.out⟩, HD10.out, HA10.out⟩
end Go.Proofs.YtdokojlgcplefaaDoor
