/- The kept writes are made safe, and none is pending ((*Disk).settle). -/
import Derived.Test.YtdokojlgcplefaaDoorMDisk6s
namespace Go.Proofs.YtdokojlgcplefaaDoor
open Go Go.RowKit
def Dk.puts (S : Dk.D) (ks : List (Nat × List Nat)) : Dk.D := ks.foldl (fun S p => Dk.put S p.1 p.2) S
theorem Dk.puts_keeps (S : Dk.D) : ∀ ks, (Dk.puts S ks).pend = S.pend ∧ (Dk.puts S ks).size = S.size ∧ (Dk.puts S ks).off = S.off ∧ (Dk.puts S ks).armed = S.armed ∧ (Dk.puts S ks).left = S.left ∧ (Dk.puts S ks).deeds = S.deeds := by
 intro ks
 induction ks generalizing S with
 | nil => exact ⟨rfl, rfl, rfl, rfl, rfl, rfl⟩
 | cons p ks ih => exact ih (Dk.put S p.1 p.2)
theorem Dk.puts_take (S : Dk.D) (ks : List (Nat × List Nat)) (k : Nat) (p : Nat × List Nat) (hk : ks[k]? = some p) : Dk.puts S (ks.take (k + 1)) = Dk.put (Dk.puts S (ks.take k)) p.1 p.2 := by
 rw [List.take_add_one, hk]
 simp [Dk.puts, List.foldl_append]
def RdK (w : World) (ms : Nat) (A : Option Addr) (ks : List (Nat × List Nat)) : Prop :=
 0 < ks.length → ∃ g, A = some ⟨g, 0, none⟩ ∧ g < w.heap.size ∧ g ≠ ms ∧ ∀ k p, ks[k]? = some p → w.rangeAt g (k * 33) (wcells p.1 p.2)
theorem rangeAt_block {w w' : World} {g o : Nat} {cs : List Value} (h : w.rangeAt g o cs) (e : w'.heap[g]? = w.heap[g]?) : w'.rangeAt g o cs := fun j u hj => by
 rw [World.cell?_of_block (a := ⟨g, o + j, none⟩) e]
 exact h j u hj
def lastF (ps : List (Nat × List Nat)) (k : Nat) : Int → Option Value := fun j => if j ∈ (ps.take k).map (fun p => (p.1 : Int)) then none else (Dk.last ps j).map fun (m : Nat) => Value.int .i64 (m : Int)
theorem lastF_zero (ps : List (Nat × List Nat)) : lastF ps 0 = fun j => (Dk.last ps j).map fun (m : Nat) => Value.int .i64 (m : Int) := by
 funext j; simp [lastF]
theorem lastF_step {ps : List (Nat × List Nat)} {k : Nat} {p : Nat × List Nat} (hk : ps[k]? = some p) : upd (lastF ps k) (p.1 : Int) none = lastF ps (k + 1) := by
 funext j
 unfold upd lastF
 rw [List.take_add_one, hk, Option.toList_some, List.map_append, List.map_singleton]
 by_cases h : j = (p.1 : Int)
 ·subst h; simp
 ·rw [if_neg h]
  simp only [List.mem_append, List.mem_singleton, h, or_false]
theorem lastF_all (ps : List (Nat × List Nat)) : lastF ps ps.length = fun _ => none := by
 funext j
 unfold lastF
 rw [List.take_length]
 split
 ·rfl
 ·rename_i h
  cases hl : Dk.last ps j with
  | none => rfl
  | some m =>
   obtain ⟨p, hp, e⟩ := Dk.last_some hl
   exact absurd (List.mem_map.2 ⟨p, List.mem_of_getElem? hp, e⟩) h
theorem row_rd {w : World} {B0 m n c : Nat} {A : Option Addr} {ps : List (Nat × List Nat)} (h : w.ownsRow B0 68 33 (.slice A n c) ps.length (cellsW ps)) (hl : ∀ p ∈ ps, p.2.length = 32) (hne : some m ≠ (Value.slice A n c).ownBlock) : RdK w m A ps := fun h0 => by
 have hrow := h
 rcases h.2 with ⟨_, h1⟩ | ⟨g, cap, cur, hv, _, hh, _⟩
 ·omega
 ·injection hv with e1 e2 e3
  subst e1
  refine ⟨g, rfl, (Array.getElem?_eq_some_iff.1 hh).1, fun e => hne (by rw [e]; rfl), fun k p hp j u hj => ?_⟩
  have hpl := hl p (List.mem_of_getElem? hp)
  have hjl : j < 33 := by have := (List.getElem?_eq_some_iff.1 hj).1; rwa [wcells_len _ hpl] at this
  have hkl : k < ps.length := (List.getElem?_eq_some_iff.1 hp).1
  subst e2
  subst e3
  rw [show k * 33 + j = 33 * k + j by omega, hrow.cellAt _ (by omega), cellsW_get hl hp j hjl]
  exact hj
section
variable {B : Nat} {d ms ml c1 c2 : Nat} {S : Dk.D} {v : Value} {fS : Int → Option Value}
def KInv (B : Nat) (w wr : World) (d : Nat) (S : Dk.D) (ms ml : Nat) (v : Value) (c1 c2 : Nat) (ks : List (Nat × List Nat)) (k : Nat) : Prop :=
 (∃ fS', DiskAt B wr d (Dk.puts S (ks.take k)) ms ml v (c1 + k) c2 fS') ∧ w.grownBy wr (some ms)
theorem KInv.step {w wr w' : World} {ks : List (Nat × List Nat)} {k : Nat} {p : Nat × List Nat} {fS' : Int → Option Value} (h : w.grownBy wr (some ms)) (hk : ks[k]? = some p)
  (h1 : DiskAt B w' d (Dk.put (Dk.puts S (ks.take k)) p.1 p.2) ms ml v (c1 + k + 1) c2 fS') (h2 : wr.grownBy w' (some ms)) : KInv B w w' d S ms ml v c1 c2 ks (k + 1) :=
 ⟨⟨fS', by rw [Dk.puts_take S ks k p hk]; exact h1⟩, only_trans h h2⟩
structure LastD (B : Nat) (w : World) (d : Nat) (S : Dk.D) (ms ml : Nat) (v : Value) (c1 c2 : Nat) (fS : Int → Option Value) (k : Nat) : Prop where
 blk : Blk w d 53 #[.int .i64 (S.size : Int), .map (some ms), v, .map (some ml), .bool S.off, .bool S.armed, .int .i64 (S.left : Int), .int .i64 (S.deeds : Int)]
 safe : MapF w ms c1 fS
 safeAt : ∀ i : Nat, i < S.size → (fS i).getD (.agg (u8s (List.replicate 32 0))) = .agg (u8s (S.safe i))
 last : MapF w ml c2 (lastF S.pend k)
 ok : Dk.Ok S
 bd : B ≤ d ∧ B ≤ ms ∧ B ≤ ml
 ne : ms ≠ ml ∧ d ≠ ms ∧ d ≠ ml
 c1 : c1 ≤ 1000000000
 c2 : c2 ≤ 1000000000
theorem DiskAt.lastD {w : World} (h : DiskAt B w d S ms ml v c1 c2 fS) : LastD B w d S ms ml v c1 c2 fS 0 :=
 ⟨h.blk, h.safe, h.safeAt, by rw [lastF_zero]; exact h.last, h.ok, h.bd, h.ne, h.c1, h.c2⟩
theorem LastD.kept {w w' : World} {k : Nat} (h : LastD B w d S ms ml v c1 c2 fS k) (hb : Below w.heap.size w w') : LastD B w' d S ms ml v c1 c2 fS k :=
 ⟨h.blk.grown (only_of_below hb none) (by simp), h.safe.below hb, h.safeAt, h.last.below hb, h.ok, h.bd, h.ne, h.c1, h.c2⟩
theorem LastD.step {w w' : World} {k : Nat} {p : Nat × List Nat} (h : LastD B w d S ms ml v c1 c2 fS k) (hk : S.pend[k]? = some p) (hm : MapF w' ml c2 (upd (lastF S.pend k) (p.1 : Int) none)) (hg : w.grownBy w' (some ml)) : LastD B w' d S ms ml v c1 c2 fS (k + 1) :=
 ⟨h.blk.grown hg (fun e => h.ne.2.2 (by injection e with e)), h.safe.kept hg (fun e => h.ne.1 (by injection e with e)), h.safeAt, by rw [← lastF_step hk]; exact hm, h.ok, h.bd, h.ne, h.c1, h.c2⟩
theorem LastD.done {w : World} (h : LastD B w d S ms ml v c1 c2 fS S.pend.length) : DiskAt B (w.setCell ⟨d, 2, none⟩ (.slice none 0 0)) d { S with pend := [] } ms ml (.slice none 0 0) c1 c2 fS := by
 have hg : w.grownBy (w.setCell ⟨d, 2, none⟩ (.slice none 0 0)) (some d) := set_own 2 _
 have hl := h.last
 rw [lastF_all] at hl
 exact ⟨h.blk.set_ 2 _, h.safe.kept hg (fun e => h.ne.2.1 (by injection e with e; exact e.symm)), h.safeAt, hl.kept hg (fun e => h.ne.2.2 (by injection e with e; exact e.symm)), ⟨by simp [cellsW], Or.inl ⟨rfl, rfl⟩⟩,
  ⟨h.ok.size, h.ok.len, h.ok.byte, fun p hp => (by cases hp), Nat.zero_le _, h.ok.left, h.ok.deeds⟩, h.bd, h.ne, h.c1, h.c2⟩
set_option maxRecDepth 100000 in
theorem settle_any (A : Option Addr) (n c : Nat) (ks : List (Nat × List Nat)) (w : World) (h : DiskAt B w d S ms ml v c1 c2 fS) (hn : ks.length = n) (hks : ∀ p ∈ ks, p.1 < S.size ∧ p.2.length = 32 ∧ Sha.Byte p.2) (hr : RdK w ms A ks) (hc : c1 + ks.length < 1000000000) (hn6 : n ≤ 1000000) :
  Calls Tryd.prog 31 #[.pointer (some ⟨d, 0, none⟩), .slice A n c] w fun e w' => e = .returned (.tuple #[]) ∧ (∃ fS', DiskAt B w' d { Dk.puts S ks with pend := [] } ms ml (.slice none 0 0) (c1 + ks.length) c2 fS') ∧ ∀ u, Fr w w' d ms ml u := by
 have H0 : Hid (KInv B w w d S ms ml v c1 c2 ks 0) := Lib.hid ⟨⟨fS, h⟩, World.grownBy.refl w _⟩
 have HK := Lib.hid hks
 have HR := Lib.hid hr
 have HN := Lib.hid hn
 clear h hks hr hn
 go_enter Tryd.func31, Tryd.ntmps31
 go_wp2
 go_loopw [10] (fun i wr => ∃ k : Nat, k ≤ n ∧ i = .int .i64 k ∧ Hid (KInv B w wr d S ms ml v c1 c2 ks k)) (fun i _ => n - (intOf i).toNat)
 case atStart => exact ⟨0, Nat.zero_le _, rfl, H0⟩
 case round =>
  obtain ⟨k, hk, rfl, HI⟩ := hrel
  by_cases hlt : k < n
  ·obtain ⟨g, rfl, hgl, hgm, hgr⟩ := HR.out (by rw [HN.out]; omega)
   obtain ⟨p, hp⟩ : ∃ p, ks[k]? = some p := ⟨ks[k]'(by rw [HN.out]; exact hlt), List.getElem?_eq_getElem _⟩
   obtain ⟨⟨fS', hD⟩, hG⟩ := HI.out
   have hpk := HK.out p (List.mem_of_getElem? hp)
   have HGK : Hid (wr.rangeAt g (k * 33) (wcells p.1 p.2)) := Lib.hid (rangeAt_block (hgr k p hp) (hG.block g hgl (fun e => hgm (by injection e with e))))
   have HL : Hid ((wcells p.1 p.2).length = 33) := Lib.hid (wcells_len _ hpk.2.1)
   have HB1 : Hid (Blk (wr.alloc (.cells (wcells 0 (List.replicate 32 0)).toArray 68)) wr.heap.size 68 (wcells 0 (List.replicate 32 0)).toArray) := Lib.hid (Blk.new wr _ _)
   have HB2 : Hid (Blk ((wr.alloc (.cells (wcells 0 (List.replicate 32 0)).toArray 68)).setRow wr.heap.size (wcells p.1 p.2).toArray) wr.heap.size 68 (wcells p.1 p.2).toArray) := Lib.hid (HB1.out.row _)
   have HBW : Hid (Below wr.heap.size wr ((wr.alloc (.cells (wcells 0 (List.replicate 32 0)).toArray 68)).setRow wr.heap.size (wcells p.1 p.2).toArray)) := Lib.hid (below_row ((Below.refl _ _).alloc (Nat.le_refl _) _) (Nat.le_refl _) _)
   have CK := keep_any p.1 p.2 _ (hD.below HBW.out) (by rw [(Dk.puts_keeps S _).2.1]; exact hpk.1) hpk.2.1 hpk.2.2 (by rw [HN.out] at hc; omega)
   have HGG := Lib.hid hG
   have i0 : ((k : Nat) : Int) < n := by omega
   have i1 : (0 : Int) ≤ ((k : Nat) : Int) := by omega
   have HP := Lib.hid hp
   clear hgl hgm hgr hD hG hpk hp
   go_wp2_with (first | (refine wpList_load_mid rfl 68 (.tmp 12) rfl g (k * 33) rfl (wcells p.1 p.2) _ HGK.out Tryd.underlying68 rfl (by rw [HL.out]; exact write_size) ?_) | (refine wpList_store_row rfl 68 (.tmp 5) (.tmp 13) rfl wr.heap.size (wcells p.1 p.2).toArray rfl rfl 68 _ HB1.out (by rw [List.size_toArray, HL.out]; exact write_size) (by rw [List.size_toArray, List.size_toArray, HL.out]; rfl) (by simpa using wcells_one p.1 p.2) ?_) | (refine wpList_load_mid rfl 68 (.tmp 5) rfl wr.heap.size 0 rfl (wcells p.1 p.2) _ (row_of_blk HB2.out) Tryd.underlying68 rfl (by rw [HL.out]; exact write_size) ?_) | (go_at_call 44; refine CK.mono ?_; rintro e w2 ⟨rfl, fS2, h1, h2⟩; have HS := Lib.hid (KInv.step HGG.out HP.out h1 (only_trans (only_of_below HBW.out _) h2)); clear h1 h2))
   exact ⟨⟨k + 1, by omega, by simp, HS⟩, by simp [intOf]; omega⟩
  ·have hkn : k = n := by omega
   subst hkn
   obtain ⟨⟨fS', hD⟩, hG⟩ := HI.out
   have HD := Lib.hid hD
   have HG := Lib.hid hG
   have p2 : wr.cell? ⟨d, 2, none⟩ = some v := hD.blk.cell 2
   obtain ⟨A0, c0, ev0⟩ := row_slice hD.row
   have HEV := Lib.hid ev0
   rw [ev0] at p2
   clear ev0 hD hG
   have i0 : ¬ ((k : Nat) : Int) < k := by omega
   have HR2 : Hid (RdK wr ml A0 S.pend) := Lib.hid (by
    have hrow := HD.out.row
    rw [HEV.out, (Dk.puts_keeps S _).1] at hrow
    exact row_rd hrow (fun p hp => (HD.out.ok.plen p (by rw [(Dk.puts_keeps S _).1]; exact hp)).2.1) (by have := HD.out.rowNe.2.2; rw [HEV.out, (Dk.puts_keeps S _).1] at this; exact this))
   have HE2 : Hid ((Dk.puts S (ks.take k)).pend = S.pend) := Lib.hid (Dk.puts_keeps S _).1
   have hfew : S.pend.length ≤ 1000000 := by have := HD.out.ok.few; rwa [HE2.out] at this
   rw [HE2.out] at p2
   have HL0 : Hid (LastD B wr d (Dk.puts S (ks.take k)) ms ml v (c1 + k) c2 fS' 0) := Lib.hid HD.out.lastD
   have HS1 : Hid (Dk.puts S (ks.take k) = Dk.puts S ks) := Lib.hid (by rw [← HN.out, List.take_length])
   generalize Dk.puts S (ks.take k) = S1 at *
   obtain ⟨wp, hwp⟩ : ∃ wp, wp = wr := ⟨wr, rfl⟩
   subst hwp
   go_wp2
   go_loopw [23] (fun i wq => ∃ m : Nat, m ≤ S.pend.length ∧ i = .int .i64 m ∧ Hid (LastD B wq d S1 ms ml v (c1 + k) c2 fS' m) ∧ Hid (wp.grownBy wq (some ml))) (fun i _ => S.pend.length - (intOf i).toNat)
   case atStart => exact ⟨0, Nat.zero_le _, rfl, HL0, Lib.hid (World.grownBy.refl wp _)⟩
   case round =>
    obtain ⟨m, hm, rfl, HJ, HQ⟩ := hrel
    by_cases hlt : m < S.pend.length
    ·obtain ⟨g, rfl, hgl, hgm, hgr⟩ := HR2.out (by omega)
     obtain ⟨p, hp⟩ : ∃ p, S.pend[m]? = some p := ⟨S.pend[m]'hlt, List.getElem?_eq_getElem _⟩
     have hpk := HJ.out.ok.plen p (by rw [HE2.out]; exact List.mem_of_getElem? hp)
     have HGK : Hid (wr.rangeAt g (m * 33) (wcells p.1 p.2)) := Lib.hid (rangeAt_block (hgr m p hp) (HQ.out.block g hgl (fun e => hgm (by injection e with e))))
     have HL : Hid ((wcells p.1 p.2).length = 33) := Lib.hid (wcells_len _ hpk.2.1)
     have HB1 : Hid (Blk (wr.alloc (.cells (wcells 0 (List.replicate 32 0)).toArray 68)) wr.heap.size 68 (wcells 0 (List.replicate 32 0)).toArray) := Lib.hid (Blk.new wr _ _)
     have HB2 : Hid (Blk ((wr.alloc (.cells (wcells 0 (List.replicate 32 0)).toArray 68)).setRow wr.heap.size (wcells p.1 p.2).toArray) wr.heap.size 68 (wcells p.1 p.2).toArray) := Lib.hid (HB1.out.row _)
     have HBW : Hid (Below wr.heap.size wr ((wr.alloc (.cells (wcells 0 (List.replicate 32 0)).toArray 68)).setRow wr.heap.size (wcells p.1 p.2).toArray)) := Lib.hid (below_row ((Below.refl _ _).alloc (Nat.le_refl _) _) (Nat.le_refl _) _)
     have HJ2 := Lib.hid (HJ.out.kept HBW.out)
     have i3 : ((m : Nat) : Int) < S.pend.length := by omega
     have i1 : (0 : Int) ≤ ((m : Nat) : Int) := by omega
     have HP := Lib.hid hp
     have hw : (Lit.int .i64 (p.1 : Int)).wf = true := int_wf (by omega) (by have := HJ.out.ok.size; omega)
     clear hgl hgm hgr hpk hp
     go_wp2_with (first | (refine wpList_load_mid rfl 68 (.tmp 25) rfl g (m * 33) rfl (wcells p.1 p.2) _ HGK.out Tryd.underlying68 rfl (by rw [HL.out]; exact write_size) ?_) | (refine wpList_store_row rfl 68 (.tmp 7) (.tmp 26) rfl wr.heap.size (wcells p.1 p.2).toArray rfl rfl 68 _ HB1.out (by rw [List.size_toArray, HL.out]; exact write_size) (by rw [List.size_toArray, List.size_toArray, HL.out]; rfl) (by simpa using wcells_one p.1 p.2) ?_))
     have pz : ((wr.alloc (.cells (wcells 0 (List.replicate 32 0)).toArray 68)).setRow wr.heap.size (wcells p.1 p.2).toArray).cell? ⟨d, 3, none⟩ = some (.map (some ml)) := HJ2.out.blk.cell 3
     have pb : ((wr.alloc (.cells (wcells 0 (List.replicate 32 0)).toArray 68)).setRow wr.heap.size (wcells p.1 p.2).toArray).cell? ⟨wr.heap.size, 0, none⟩ = some (.int .i64 (p.1 : Int)) := HB2.out.cell 0
     clear HB2 HB1
     refine wp_region_still_tail 6 (by kernel_rfl) (by kernel_rfl) ?_
     change wpStill _ _ ((wr.alloc (.cells (wcells 0 (List.replicate 32 0)).toArray 68)).setRow wr.heap.size (wcells p.1 p.2).toArray).drew (fun a' => wpList _ _ _ _ a' ((wr.alloc (.cells (wcells 0 (List.replicate 32 0)).toArray 68)).setRow wr.heap.size (wcells p.1 p.2).toArray).drew) _ _
     generalize ((wr.alloc (.cells (wcells 0 (List.replicate 32 0)).toArray 68)).setRow wr.heap.size (wcells p.1 p.2).toArray) = wz at *
     dsimp only [List.take, List.drop]
     repeat still_step
     refine wpStill_nil ?_
     change wpList _ _ _ _ _ wz.drew
     obtain ⟨w4, hrun, hm4, hg4⟩ := (HJ2.out.last.block (w' := wz.drew) rfl).drop Tryd.underlying50 (i := (p.1 : Int)) hw 0
     replace hg4 := only_trans (only_drew (World.grownBy.refl wz (some ml))) hg4
     have HS := Lib.hid (HJ2.out.step (by rw [HE2.out]; exact HP.out) hm4 hg4)
     have HG4 := Lib.hid (only_trans HQ.out (only_trans (only_of_below HBW.out _) hg4))
     clear hm4 hg4
     go_wp2
     exact ⟨⟨m + 1, by omega, by simp, HS, HG4⟩, by simp [intOf]; omega⟩
    ·have hmn : m = S.pend.length := by omega
     subst hmn
     have i3 : ¬ ((S.pend.length : Nat) : Int) < S.pend.length := by omega
     have z2 := HJ.out.blk.frozen 2
     have p2q : wr.cell? ⟨d, 2, none⟩ = some (.slice A0 S.pend.length c0) := by rw [← HE2.out, ← HEV.out]; exact HJ.out.blk.cell 2
     go_wp2
     go_end0
     have HJ3 := HJ.out
     rw [← HE2.out] at HJ3
     have HD3 := HJ3.done
     rw [HS1.out, ← HN.out] at HD3
     exact ⟨rfl, ⟨_, HD3⟩, fun u => ((Fr.of HG.out (fun g e => Or.inr (Or.inl (by injection e with e; exact e.symm)))).trans (Fr.of HQ.out (fun g e => Or.inr (Or.inr (Or.inl (by injection e with e; exact e.symm)))))).trans (Fr.of (set_own 2 _) (fun g e => Or.inl (by injection e with e; exact e.symm)))⟩
end
end Go.Proofs.YtdokojlgcplefaaDoor
/- All is made safe ((*Disk).Sync); what the writes are, free and armed. -/
namespace Go.Proofs.YtdokojlgcplefaaDoor
open Go Go.RowKit
section
variable {B : Nat} {d ms ml c1 c2 : Nat} {S : Dk.D} {v : Value} {fS : Int → Option Value}
theorem sync_off (aD : Addr) (w : World) (h : DiskAt B w d S ms ml v c1 c2 fS) (ho : S.off = true) (hD : w.cell? ⟨2, 0, none⟩ = some (ev aD)) :
  Calls Tryd.prog 43 #[.pointer (some ⟨d, 0, none⟩)] w fun e w' => e = .returned (ev aD) ∧ w = w' := by
 have p4 : w.cell? ⟨d, 4, none⟩ = some (.bool true) := by have := h.blk.cell 4; rw [ho] at this; exact this
 clear h ho
 go_enter Tryd.func43, Tryd.ntmps43
 go_wp2
 go_ret
 exact ⟨rfl, rfl⟩
theorem sync_dead (aD : Addr) (w : World) (h : DiskAt B w d S ms ml v c1 c2 fS) (ho : S.off = false) (ha : S.armed = true) (hl : S.left = 0) (hD : w.cell? ⟨2, 0, none⟩ = some (ev aD)) (hne : d ≠ 2) :
  Calls Tryd.prog 43 #[.pointer (some ⟨d, 0, none⟩)] w fun e w' => e = .returned (ev aD) ∧ DiskAt B w' d { S with off := true } ms ml v c1 c2 fS ∧ w.grownBy w' (some d) := by
 have p4 : w.cell? ⟨d, 4, none⟩ = some (.bool false) := by have := h.blk.cell 4; rw [ho] at this; exact this
 have CD := deed_fail aD w h ha hl hD hne
 have q0 := run_neq_ev aD
 clear h ho
 go_enter Tryd.func43, Tryd.ntmps43
 go_wp2_with (go_at_call 57; refine CD.mono ?_; rintro e w' ⟨rfl, h1, h2⟩; have H1 := Lib.hid h1; have H2 := Lib.hid h2; clear h1 h2)
 go_ret
 exact ⟨rfl, H1.out, H2.out⟩
def Dk.synced (S : Dk.D) : Dk.D := { Dk.puts S S.pend with pend := [] }
theorem sync_ok0 (w : World) (S1 : Dk.D) (h : DiskAt B w d S ms ml v c1 c2 fS) (ho : S.off = false) (hc : c1 + S1.pend.length < 1000000000)
  (CD : Calls Tryd.prog 57 #[.pointer (some ⟨d, 0, none⟩)] w fun e w' => e = .returned .nilIface ∧ DiskAt B w' d S1 ms ml v c1 c2 fS ∧ w.grownBy w' (some d)) :
  Calls Tryd.prog 43 #[.pointer (some ⟨d, 0, none⟩)] w fun e w' => e = .returned .nilIface ∧ (∃ fS', DiskAt B w' d (Dk.synced S1) ms ml (.slice none 0 0) (c1 + S1.pend.length) c2 fS') ∧ ∀ u, Fr w w' d ms ml u := by
 have p4 : w.cell? ⟨d, 4, none⟩ = some (.bool false) := by have := h.blk.cell 4; rw [ho] at this; exact this
 clear h ho
 go_enter Tryd.func43, Tryd.ntmps43
 go_wp2_with (go_at_call 57; refine CD.mono ?_; rintro e w1 ⟨rfl, h1, h2⟩; obtain ⟨A0, c0, ev0⟩ := row_slice h1.row; have p2 : w1.cell? ⟨d, 2, none⟩ = some (.slice A0 S1.pend.length c0) := (by rw [← ev0]; exact h1.blk.cell 2); have H1 := Lib.hid h1; have H2 := Lib.hid h2; have HEV := Lib.hid ev0; clear h1 h2 ev0)
 have hfew := H1.out.ok.few
 have CS := settle_any A0 S1.pend.length c0 S1.pend w1 H1.out rfl H1.out.ok.plen (row_rd (by have := H1.out.row; rwa [HEV.out] at this) (fun p hp => (H1.out.ok.plen p hp).2.1) (by have := H1.out.rowNe.2.1; rwa [HEV.out] at this)) hc hfew
 refine CS.mono ?_
 rintro e w2 ⟨rfl, ⟨fS2, h1⟩, h2⟩
 have HE1 := Lib.hid h1
 have HE2 := Lib.hid h2
 clear h1 h2
 dsimp only
 go_wp2
 go_ret
 exact ⟨rfl, ⟨fS2, HE1.out⟩, fun u => (Fr.of H2.out (fun g e => Or.inl (by injection e with e; exact e.symm))).trans (HE2.out u)⟩
end
end Go.Proofs.YtdokojlgcplefaaDoor
