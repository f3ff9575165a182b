/- An object that is there already is not admitted; what adm answers, whatever it is asked; hold. -/
import Derived.Test.YtolfphfdeccleaaGreatDoorMPk5s
import Derived.Test.YtolfphfdeccleaaGreatDoorMOct14s
import Derived.Test.YtolfphfdeccleaaGreatDoorMOb23s
import Derived.StillTail
import Derived.StillTactics
namespace Go.Proofs.YtolfphfdeccleaaGreatDoor
open Go Go.RowKit
set_option maxRecDepth 100000 in
set_option maxHeartbeats 2000000 in
theorem admit_dup (mb nm n c : Nat) (A : Option Addr) (xs : List Nat) (out : List Pk.It) (aD : Addr) (w : World) (hv : Rd w (.slice A n c) xs) (hb : Sha.Byte xs) (hz : xs.length ≤ 300) (ht : Tabs w) (hP : ParseOk A n c w) (hM : MapO w mb nm (fun id => (Pk.fnd out id).map Pk.It.v)) (ho : ∀ p ∈ out, p.val.oneCell' = true) (p : Pk.It) (hf : Pk.fnd out (Sha.sum xs) = some p) (hD : w.cell? ⟨19, 0, none⟩ = some (ev aD)) :
    Calls Tryz.prog 47 #[.map (some mb), .slice A n c] w fun e w' => e = .returned (.tuple #[zItem, ev aD]) ∧ Below w.heap.size w w' := by
  obtain ⟨w1, hw1⟩ : ∃ w1, w1 = w.alloc (.cells (itemC zid nilV 0).toArray 51) := ⟨_, rfl⟩
  have HB1 : Hid (Below w.heap.size w w1) := Lib.hid (hw1 ▸ (Below.refl _ _).alloc (Nat.le_refl _) _)
  have HZ1 : Hid (Blk w1 w.heap.size 51 (itemC zid nilV 0).toArray) := Lib.hid (hw1 ▸ Blk.new w _ _)
  have CP := hP w1 HB1.out
  have e1 := hw1.symm
  have CID := fun w' (hw : Below w.heap.size w w') => oid_any xs (.slice A n c) w' (hv.below hw (Nat.le_refl _)) hb (ht.below hw (Nat.le_refl _)) (by omega)
  have HF := Lib.hid hf
  have HM := Lib.hid hM
  have HS := Lib.hid (sum_id xs)
  have HV := Lib.hid (ho p (Pk.fnd_mem hf).1)
  have HQ := Lib.hid (sum_id p.text)
  have hm : Tryz.prog.follows .mixedOrders = true := by kernel_rfl
  have HD : Hid (w.cell? ⟨19, 0, none⟩ = some (ev aD)) := Lib.hid hD
  have LK : ∀ w', Below w.heap.size w w' → (Instr.lookup 72 (.map (some mb)) (.agg (u8s (Sha.sum xs))) true).run Tryz.prog w' = .ok (.tuple #[.agg (itemC (Sha.sum p.text) p.val p.depth).toArray, .bool true]) w' := fun w' hw => by
    have h := (hM.below' hw).look_ok Tryz.underlying72 (zeroItem w') (sum_id xs)
    rw [show (Pk.fnd out (Sha.sum xs)).map Pk.It.v = some p.v by rw [hf]; rfl] at h
    exact h
  obtain ⟨su, hsu⟩ : ∃ su, su = Sha.sum xs := ⟨_, rfl⟩
  rw [← hsu] at CID LK HS
  obtain ⟨cp, hcp⟩ : ∃ cp, cp = (itemC (Sha.sum p.text) p.val p.depth).toArray := ⟨_, rfl⟩
  rw [← hcp] at LK
  have HC4 : Hid (cp.size = 34) := Lib.hid (by rw [hcp, List.size_toArray, itemC_len HQ.out])
  have HC5 : Hid (cp.all (·.oneCell') = true) := Lib.hid (by rw [hcp]; exact itemC_one HV.out _)
  clear hP hw1 hv hb hz ht hM ho hf hsu HF hD hcp
  go_enter Tryz.func47, Tryz.ntmps47
  go_wp2_with (go_at_call 70; refine pause ?_)
  unfold Paused
  change Calls _ _ _ (w.alloc (.cells (itemC zid nilV 0).toArray 51)) _
  rw [e1]
  refine CP.mono ?_
  rintro e w2 ⟨cs, rfl, h36, hc1, hb2⟩
  have HC := Lib.hid h36
  have H1 := Lib.hid hc1
  have HB2 := Lib.hid (below_next HB1.out hb2)
  have HZ2 := Lib.hid (HZ1.out.below hb2 HZ1.out.lt)
  clear hb2 CP h36 hc1
  go_wp2_with (with_reducible (show wpList _ _ _ (Oper.mk _ (Op.store 145 _ _) _ _ _ _ :: _) _ _); refine pause ?_)
  unfold Paused
  change wpList _ _ _ _ _ (w2.alloc (.cells zOc 145))
  refine wpList_store_row (by rfl) 145 (.tmp 6) (.tmp 14) (by rfl) w2.heap.size cs (by rfl) (by rfl) 145 zOc (Blk.new w2 _ _) (obj36 HC.out) (by rw [HC.out]; rfl) H1.out ?_
  have b3 : Below w2.heap.size w2 ((w2.alloc (.cells zOc 145)).setRow w2.heap.size cs) := below_row ((Below.refl _ _).alloc (Nat.le_refl _) _) (Nat.le_refl _) _
  have HB3 := Lib.hid (below_next HB2.out b3)
  have HZ3 := Lib.hid (HZ2.out.below b3 HZ2.out.lt)
  clear b3
  generalize (w2.alloc (.cells zOc 145)).setRow w2.heap.size cs = w3 at HB3 HZ3 ⊢
  simp only [Act.put]
  go_wp2_with (go_at_call 58; refine pause ?_)
  unfold Paused
  refine (CID _ HB3.out).mono ?_
  rintro e w5 ⟨rfl, hb5⟩
  have HB5 := Lib.hid (below_next HB3.out hb5)
  have HZ5 := Lib.hid (HZ3.out.below hb5 HZ3.out.lt)
  clear hb5 CID
  go_wp2_with (with_reducible (show wpList _ _ _ (Oper.mk _ (Op.store 49 _ _) _ _ _ _ :: _) _ _); refine pause ?_)
  unfold Paused
  change wpList _ _ _ _ _ (w5.alloc (.cells (u8s (List.replicate 32 0)) 49))
  refine wpList_store_row (by rfl) 49 (.tmp 8) (.tmp 21) (by rfl) w5.heap.size (u8s su) (by rfl) (by rfl) 49 (u8s (List.replicate 32 0)) (Blk.new w5 _ _) (by rw [u8s_size, HS.out.1]; exact oid_load) (by rw [u8s_size, u8s_size, HS.out.1]; rfl) (u8s_one _) ?_
  have b6 : Below w5.heap.size w5 ((w5.alloc (.cells (u8s (List.replicate 32 0)) 49)).setRow w5.heap.size (u8s su)) := below_row ((Below.refl _ _).alloc (Nat.le_refl _) _) (Nat.le_refl _) _
  have HB6 := Lib.hid (below_next HB5.out b6)
  have HZ6 := Lib.hid (HZ5.out.below b6 HZ5.out.lt)
  have HI6 : Hid (Blk ((w5.alloc (.cells (u8s (List.replicate 32 0)) 49)).setRow w5.heap.size (u8s su)) w5.heap.size 49 (u8s su)) := Lib.hid ((Blk.new w5 _ _).row _)
  clear b6
  generalize (w5.alloc (.cells (u8s (List.replicate 32 0)) 49)).setRow w5.heap.size (u8s su) = w6 at HB6 HZ6 HI6 ⊢
  generalize w5.heap.size = g8 at HI6 ⊢
  simp only [Act.put]
  have q6 := LK w6 HB6.out
  go_wp2_with (with_reducible (show wpList _ _ _ (Oper.mk _ (Op.load 49 _) _ _ _ _ :: _) _ _); refine pause ?_)
  unfold Paused
  refine wpList_row_w (by rfl) 49 (.tmp 8) (by rfl) g8 (by rfl) 49 (u8s su) _ HI6.out Tryz.underlying49 (by rfl) (by rw [u8s_size, HS.out.1]; exact oid_load) ?_
  go_wp2_with (with_reducible (show wpList _ _ _ (Oper.mk _ (Op.store 51 _ _) _ _ _ _ :: _) _ _); refine pause ?_)
  unfold Paused
  change wpList _ _ _ _ _ (w6.alloc (.cells (itemC zid nilV 0).toArray 51))
  refine wpList_store_row (by rfl) 51 (.tmp 9) (.tmp 26) (by rfl) w6.heap.size cp (by rfl) (by rfl) 51 (itemC zid nilV 0).toArray (Blk.new w6 _ _) (by rw [HC4.out]; exact item_size) (by rw [HC4.out]; rfl) HC5.out ?_
  have b7 : Below w6.heap.size w6 ((w6.alloc (.cells (itemC zid nilV 0).toArray 51)).setRow w6.heap.size cp) := below_row ((Below.refl _ _).alloc (Nat.le_refl _) _) (Nat.le_refl _) _
  have HB7 := Lib.hid (below_next HB6.out b7)
  have HZ7 := Lib.hid (HZ6.out.below b7 HZ6.out.lt)
  clear b7 q6 LK
  generalize (w6.alloc (.cells (itemC zid nilV 0).toArray 51)).setRow w6.heap.size cp = w7 at HB7 HZ7 ⊢
  generalize w6.heap.size = g9
  simp only [Act.put]
  have pD : w7.cell? ⟨19, 0, none⟩ = some (ev aD) := (HB7.out.cell (block_lt_of_cell HD.out)).trans HD.out
  go_wp2
  refine wp_region_held (S := fun w' => w' = w7.drew) hm ?_
  change wpAnyH _ _ _ _ _ _ _ _ w7.drew
  refine wpAnyH_take (i := 1) (v := ?_) rfl (by kernel_rfl) (by kernel_rfl) (by kernel_rfl) (fun _ _ _ h => h) (Or.inl ⟨by rfl, ?_⟩) rfl ?_
  rotate_left
  · rintro w' rfl; go_simp; with_reducible rfl
  try simp only [Act.put, List.getElem_toArray, List.getElem_cons_zero, List.getElem_cons_succ, List.setIfInBounds_toArray, List.set_cons_zero, List.set_cons_succ]
  refine all_one (i := 0) (by kernel_rfl) rfl (by rfl) (fun K hK => ?_)
  refine wp_buildK 51 _ (by rfl) [] (by simp) (itemC zid nilV 0).toArray item_empty ?_
  refine hK _ _ rfl ?_
  try simp only [Act.put, List.getElem_toArray, List.getElem_cons_zero, List.setIfInBounds_toArray, List.set_cons_zero, List.set_cons_succ]
  refine all_one (i := 2) (by kernel_rfl) rfl (by rfl) (fun K hK => ?_)
  refine wp_store_row 51 (.tmp 4) (.tmp 29) (by rfl) w.heap.size (itemC zid nilV 0).toArray (by rfl) (by rfl) 51 (itemC zid nilV 0).toArray HZ7.out.drew (by rw [zItem_size]; exact item_size) (by rfl) (itemC_one rfl 0) ?_
  rw [setRow_self w7.drew w.heap.size (itemC zid nilV 0).toArray 51 (0, 0) HZ7.out.drew]
  refine hK _ _ rfl ?_
  try simp only [Act.put, List.getElem_toArray, List.getElem_cons_zero, List.getElem_cons_succ]
  refine all_one (i := 3) (by kernel_rfl) rfl (by rfl) (fun K hK => ?_)
  go_simp
  refine hK _ _ rfl ?_
  try simp only [Act.put, List.getElem_toArray, List.getElem_cons_zero, List.getElem_cons_succ, List.setIfInBounds_toArray, List.set_cons_zero, List.set_cons_succ]
  refine wpAnyH_done (by kernel_rfl) ?_ _
  clear pD
  go_wp2
  exact bodyPost_ret (v := .tuple #[zItem, ev aD]) (resultsP2 (t := 4) (s := 5) rfl (by rfl) HZ7.out.drew zItem_size) rfl ⟨rfl, below_drewN HB7.out 1⟩
/-- the error of a number -/
def ecode (a : Nat → Addr) (c : Nat) : Value := ev (a (c - 1))
theorem admit_any (mb nm n c : Nat) (A : Option Addr) (xs : List Nat) (out : List Pk.It) (a : Nat → Addr) (w : World) (hv : Rd w (.slice A n c) xs) (hb : Sha.Byte xs) (hz : xs.length ≤ 100000) (ht : Tabs w) (hS : KSents w a) (hM : MapO w mb nm (fun id => (Pk.fnd out id).map Pk.It.v)) (ho : ∀ p ∈ out, p.val.oneCell' = true) :
    Calls Tryz.prog 47 #[.map (some mb), .slice A n c] w fun e w' =>
      (if Pk.adm (out.map Pk.It.item) xs = 0 then e = .returned (.tuple #[.agg (itemC (Sha.sum xs) (.slice A n c) 0).toArray, .nilIface]) else e = .returned (.tuple #[zItem, ecode a (Pk.adm (out.map Pk.It.item) xs)])) ∧ Below w.heap.size w w' := by
  by_cases h1 : 300 < xs.length
  · have e1 : Pk.adm (out.map Pk.It.item) xs = 13 := by unfold Pk.adm; rw [if_pos h1]
    rw [e1]
    exact (admit_err mb n c A (a 12) w fun w' hw => oparse_large (a 12) xs _ w' (hv.below hw (Nat.le_refl _)) h1 ((hS.below hw (Nat.le_refl _)) 12 (by omega)).var).mono fun e w' h => ⟨by rw [if_neg (by omega)]; exact h.1, h.2⟩
  · cases hp : Ob.parse xs with
    | bad k =>
      have e1 : Pk.adm (out.map Pk.It.item) xs = k := by unfold Pk.adm; rw [if_neg h1, hp]
      have hk := Pk.parse_bad_pos hp
      rw [e1]
      exact (admit_err mb n c A (a (k - 1)) w fun w' hw => oparse_bad k xs a _ w' (hv.below hw (Nat.le_refl _)) (oc_bytes hb) (by omega) (hS.below hw (Nat.le_refl _)).p hp).mono fun e w' h => ⟨by rw [if_neg (by omega)]; exact h.1, h.2⟩
    | ok o =>
      have hP := parseOk_of hv hb (by omega) hS hp
      cases hf : Pk.fnd out (Sha.sum xs) with
      | none =>
        have e1 : Pk.adm (out.map Pk.It.item) xs = 0 := by
          unfold Pk.adm
          rw [if_neg h1, hp]
          simp only
          rw [← Pk.fnd_item, hf]
          rfl
        rw [e1]
        exact (admit_in mb nm n c A xs out (a 19) w hv hb (by omega) ht hP hM ho hf).mono fun e w' h => ⟨by rw [if_pos rfl]; exact h.1, h.2⟩
      | some p =>
        have e1 : Pk.adm (out.map Pk.It.item) xs = 20 := by
          unfold Pk.adm
          rw [if_neg h1, hp]
          simp only
          rw [← Pk.fnd_item, hf]
          rfl
        rw [e1]
        exact (admit_dup mb nm n c A xs out (a 19) w hv hb (by omega) ht hP hM ho p hf (hS 19 (by omega)).var).mono fun e w' h => ⟨by rw [if_neg (by omega)]; exact h.1, h.2⟩
end Go.Proofs.YtolfphfdeccleaaGreatDoor
/- What stands while a pack is read; an item's base. -/
namespace Go.Proofs.YtolfphfdeccleaaGreatDoor
open Go Go.RowKit
/-- no byte lies in a block -/
def NoU (w : World) (x : Nat) : Prop := ∀ o n, w.cell? ⟨x, o, none⟩ ≠ some (.int .u8 n)
theorem rd_kpt {S : Nat → Prop} {w w' : World} {v : Value} {xs : List Nat} (h : Rd w v xs) (k : Kpt S w w') (hS : ∀ x, S x → NoU w x) : Rd w' v xs := by
  obtain ⟨A, c, hv, hc, hA⟩ := h
  refine ⟨A, c, hv, hc, fun h0 => ?_⟩
  obtain ⟨b, o, ha, hl, hx⟩ := hA h0
  exact ⟨b, o, ha, Nat.lt_of_lt_of_le hl k.size, fun i hi => k.cell (hx i hi) (fun hs => hS b hs _ _ (hx i hi))⟩
theorem noU_blk {w : World} {x t : Nat} {cs : Array Value} (h : Blk w x t cs) (hc : ∀ v ∈ cs.toList, ∀ n, v ≠ .int .u8 n) : NoU w x := fun o n e => by
  rw [h.cell o] at e
  refine hc _ ?_ n rfl
  obtain ⟨ho, he⟩ := Array.getElem?_eq_some_iff.1 e
  rw [← he]
  simp
theorem noU_in {w0 w : World} {i r : Nat} {xs : List Nat} (h : InAt w0 w i r xs) : NoU w r := by
  obtain ⟨v, hr, ⟨A, c, rfl, _⟩, _⟩ := h
  refine noU_blk hr.r_ ?_
  intro v hv n e
  subst e
  simp at hv
theorem noU_map {w : World} {x n : Nat} {f : List Nat → Option Value} (h : MapO w x n f) : NoU w x := fun o k e => by
  obtain ⟨es, ck, hm⟩ := h.is
  unfold World.cell? at e
  rw [show w.heap[x]? = _ from hm] at e
  cases e
theorem noU_by {w : World} {bB : Nat} {kn : List Pk.It} (h : ByS w bB kn) : NoU w bB := by
  rcases h with h | ⟨m, n, h, _⟩
  all_goals
    refine noU_blk h ?_
    intro v hv n e
    subst e
    simp at hv
/-- What stands while a pack is read, but for where it has come to: the reader, what is ahead, what is known. -/
structure RdS (w0 w : World) (i r g mb bB bK : Nat) (out kn : List Pk.It) : Prop where
  g_ : Blk w g 83 #[.pointer (some ⟨i, 0, none⟩), .map (some mb), .func (.func 57) #[] #[.pointer (some ⟨bB, 0, none⟩), .pointer (some ⟨bK, 0, none⟩)]]
  map : MapO w mb out.length (fun id => (Pk.fnd out id).map Pk.It.v)
  outs : ∀ p ∈ out, Rd w p.val p.text ∧ Sha.Byte p.text
  by_ : ByS w bB kn
  kn_ : KnS w0 w bK kn
  ord : r < mb ∧ i < mb ∧ mb < bK ∧ bK < bB ∧ bB < g
  few : out.length ≤ 64
section
variable {w0 w w' : World} {i r g mb bB bK : Nat} {out kn : List Pk.It} {xs : List Nat}
theorem RdS.below (h : RdS w0 w i r g mb bB bK out kn) (hb : Below w.heap.size w w') : RdS w0 w' i r g mb bB bK out kn :=
  ⟨h.g_.below hb h.g_.lt, h.map.below hb, fun p hp => ⟨(h.outs p hp).1.below hb (Nat.le_refl _), (h.outs p hp).2⟩, h.by_.kpt (Kpt.of_below (S := fun _ => False) hb) (fun _ _ h => h), h.kn_.kpt (Kpt.of_below (S := fun _ => False) hb) (fun h => h), h.ord, h.few⟩
theorem RdS.read (h : RdS w0 w i r g mb bB bK out kn) (hi : InAt w0 w i r xs) (hg : w.grownBy w' (some r)) : RdS w0 w' i r g mb bB bK out kn := by
  have ho := h.ord
  have hk : Kpt (fun x => x = r) w w' := Kpt.of_grown hg rfl
  exact ⟨h.g_.grown hg (fun e => by injection e with e; omega), h.map.kept hg (fun e => by injection e with e; omega), fun p hp => ⟨rd_kpt (h.outs p hp).1 hk (fun x hx => by subst hx; exact noU_in hi), (h.outs p hp).2⟩, h.by_.kpt hk (fun x hx e => by omega), h.kn_.kpt hk (by omega), h.ord, h.few⟩
theorem RdS.found (h : RdS w0 w i r g mb bB bK out kn) (hy : ByS w' bB kn) (hk : Kpt (fun x => x = bB) w w') : RdS w0 w' i r g mb bB bK out kn := by
  have ho := h.ord
  exact ⟨hk.blk h.g_ (by omega), h.map.block (hk.block mb h.map.lt (by omega)), fun p hp => ⟨rd_kpt (h.outs p hp).1 hk (fun x hx => by subst hx; exact noU_by h.by_), (h.outs p hp).2⟩, hy, h.kn_.kpt hk (by omega), h.ord, h.few⟩
theorem RdS.vals (h : RdS w0 w i r g mb bB bK out kn) : ∀ p ∈ out, p.val.oneCell' = true := fun p hp => by
  obtain ⟨⟨A, c, hv, _⟩, _⟩ := h.outs p hp
  rw [hv]; rfl
theorem KnS.vals {kn : List Pk.It} (h : KnS w0 w bK kn) : ∀ p ∈ kn, p.val.oneCell' = true := fun p hp => by
  obtain ⟨⟨A, c, hv, _⟩, _⟩ := h.rd p hp
  rw [hv]; rfl
theorem InAt.kpt (h : InAt w0 w i r xs) {S : Nat → Prop} (k : Kpt S w w') (hr : ¬ S r) (hi : ¬ S i) (h0 : ∀ x, S x → w0.heap.size ≤ x) : InAt w0 w' i r xs := by
  obtain ⟨v, hr', hv, hb, h1, h2⟩ := h
  exact ⟨v, ⟨k.blk hr'.i_ hi, k.blk hr'.r_ hr, hr'.ne⟩, hv, low_kpt hb k h0, h1, h2⟩
end
/-- how a call ends that can't go on, wherever it stands -/
def Ends (w : World) (r bB : Nat) (er : Value) (e : Ending) (w' : World) : Prop := e = .panicked [{ v := stopV r, recovered := false }] ∧ Dead w' r er ∧ Kpt (fun x => x = r ∨ x = bB) w w'
theorem Ends.of {w w1 w' : World} {r bB : Nat} {er : Value} {e : Ending} (h : Fails w1 r er e w') (k : Kpt (fun x => x = r ∨ x = bB) w w1) : Ends w r bB er e w' :=
  ⟨h.1, h.2.1, k.trans (Kpt.of_grown h.2.2 (Or.inl rfl))⟩
theorem Ends.from_ {w w1 w' : World} {r bB : Nat} {er : Value} {e : Ending} (h : Ends w1 r bB er e w') (k : Kpt (fun x => x = r ∨ x = bB) w w1) : Ends w r bB er e w' := ⟨h.1, h.2.1, k.trans h.2.2⟩
theorem kpt_r {w w' : World} {r bB : Nat} (h : w.grownBy w' (some r)) : Kpt (fun x => x = r ∨ x = bB) w w' := Kpt.of_grown h (Or.inl rfl)
theorem kpt_b {w w' : World} {r bB : Nat} (h : Kpt (fun x => x = bB) w w') : Kpt (fun x => x = r ∨ x = bB) w w' := ⟨h.os, h.tape, h.output, h.size, fun b hb hn => h.block b hb (fun e => hn (Or.inr e))⟩
namespace Pk
noncomputable def bse (out kn : List It) (id : List Nat) : Option It := match fnd out id with | some p => some p | none => fnd kn id
theorem bse_item (out kn : List It) (id : List Nat) : (bse out kn id).map It.item = base (out.map It.item) (kn.map It.item) id := by
  unfold bse base
  rw [← fnd_item]
  cases fnd out id with
  | some p => rfl
  | none => exact fnd_item kn id
end Pk
/-- a slice's bytes lie from block B on -/
def NewAt (B : Nat) (A : Option Addr) (n : Nat) : Prop := 0 < n → ∀ b o, A = some ⟨b, o, none⟩ → B ≤ b
theorem NewAt.mono {B B' n : Nat} {A : Option Addr} (h : NewAt B A n) (hB : B' ≤ B) : NewAt B' A n := fun h0 b o e => Nat.le_trans hB (h h0 b o e)
theorem newAt_own {B size n m c : Nat} {w : World} {A : Option Addr} {e : TypeId} {cs : List Value} (h : w.ownsRow B e size (.slice A m c) n cs) : NewAt B A m := fun h0 b o ea => by
  rcases h.2 with ⟨hv, hn⟩ | ⟨g, cap, cur, hv, hb, _⟩
  · injection hv with e1 e2 e3
    omega
  · injection hv with e1 e2 e3
    rw [e1] at ea
    injection ea with ea
    injection ea with ea
    omega
theorem hold_nil (g : Nat) (w : World) : Calls Tryz.prog 63 #[.pointer (some ⟨g, 0, none⟩), .nilIface] w fun e w' => e = .returned (.tuple #[]) ∧ w' = w := by
  go_enter Tryz.func63, Tryz.ntmps63
  go_wp2
  go_end0
  exact ⟨rfl, rfl⟩
theorem hold_err {w0 w : World} {i r g mb bB bK : Nat} {out kn : List Pk.It} {xs : List Nat} (ae : Addr) (h : RdS w0 w i r g mb bB bK out kn) (hi : InAt w0 w i r xs) :
    Calls Tryz.prog 63 #[.pointer (some ⟨g, 0, none⟩), ev ae] w (Fails w r (ev ae)) := by
  have p0 : w.cell? ⟨g, 0, none⟩ = some (.pointer (some ⟨i, 0, none⟩)) := h.g_.cell 0
  obtain ⟨v, hr, _⟩ := hi
  have CF := fail_any i r v ae w hr
  clear h hr
  go_enter Tryz.func63, Tryz.ntmps63
  go_wp2_with (go_at_call 35; refine CF.mono ?_; rintro e w' ⟨rfl, hd, hg⟩)
  exact ⟨rfl, rfl, hd, hg⟩
theorem itext_any {w0 w : World} {i r : Nat} {ys : List Nat} (a : Nat → Addr) (hi : InAt w0 w i r ys) (hb : Sha.Byte ys) (hS : w0.cell? ⟨1, 0, none⟩ = some (ev (a 1))) :
    Calls Tryz.prog 81 #[.pointer (some ⟨i, 0, none⟩)] w fun e w' => match Pk.text ys with
      | none => Fails w r (ev (a 1)) e w'
      | some q => ∃ A c, e = .returned (.slice A q.1.length c) ∧ (Rd w' (.slice A q.1.length c) q.1 ∧ NewAt w.heap.size A q.1.length) ∧ InAt w0 w' i r q.2 ∧ w.grownBy w' (some r) := by
  have hSw : w.cell? ⟨1, 0, none⟩ = some (ev (a 1)) := (hi.bel.1.cell (block_lt_of_cell hS)).trans hS
  have hob := oc_bytes hb
  unfold Pk.text
  by_cases h1 : ys.length < 2
  · rw [if_pos h1]
    exact text_short i r (a 1) ys w0 w hi h1 hSw
  · rw [if_neg h1]
    by_cases h2 : ys.length < 2 + Oc.val (ys.take 2)
    · rw [if_pos h2]
      exact text_short2 i r (a 1) ys w0 w hi (by omega) h2 hob (fun e => by have := hi.bel.2; have := block_lt_of_cell hS; simp only at this; omega) hSw
    · rw [if_neg h2]
      refine (text_ok i r ys w0 w hi (by omega) (by omega) hob hi.lt).mono fun e w' ⟨A, c, he, ho, hi', hg⟩ => ?_
      have hl : ((ys.drop 2).take (Oc.val (ys.take 2))).length = Oc.val (ys.take 2) := ho.2.1
      exact ⟨A, c, by rw [he]; simp only; rw [hl], ⟨by simp only; rw [hl]; exact ho.1, fun h0 b o ea => by
        simp only at h0
        rw [hl] at h0
        obtain ⟨g', cs, e1, e2, _⟩ := ho.2.2 h0
        rw [e1] at ea
        injection ea with ea
        injection ea with ea
        omega⟩, hi', hg⟩
set_option maxRecDepth 100000 in
set_option maxHeartbeats 2000000 in
theorem base_has {w0 w : World} {i r g mb bB bK : Nat} {out kn : List Pk.It} (id : List Nat) (p : Pk.It) (h : RdS w0 w i r g mb bB bK out kn) (hid : Id32 id) (hf : Pk.fnd out id = some p) :
    Calls Tryz.prog 83 #[.pointer (some ⟨g, 0, none⟩), .agg (u8s id)] w fun e w' => e = .returned p.v ∧ Below w.heap.size w w' := by
  have hpo := h.vals p (Pk.fnd_mem hf).1
  obtain ⟨cp, hcp⟩ : ∃ cp, cp = (itemC (Sha.sum p.text) p.val p.depth).toArray := ⟨_, rfl⟩
  have hpv : p.v = .agg cp := by rw [hcp]; rfl
  have HC4 : Hid (cp.size = 34) := Lib.hid (by rw [hcp, List.size_toArray, itemC_len (sum_id _)])
  have HC5 : Hid (cp.all (·.oneCell') = true) := Lib.hid (by rw [hcp]; exact itemC_one hpo _)
  rw [hpv]
  obtain ⟨w2, hw2⟩ : ∃ w2, w2 = (w.alloc (.cells (u8s id) 49)).alloc (.cells (itemC zid nilV 0).toArray 51) := ⟨_, rfl⟩
  have b2 : Below w.heap.size w w2 := hw2 ▸ ((Below.refl _ _).alloc (Nat.le_refl _) _).alloc (by simp) _
  have HI : Hid (Blk w2 w.heap.size 49 (u8s id)) := Lib.hid (hw2 ▸ (Blk.new w _ _).alloc _)
  have HZ : Hid (Blk w2 (w.heap.size + 1) 51 (itemC zid nilV 0).toArray) := Lib.hid (by rw [hw2]; have h := Blk.new (w.alloc (.cells (u8s id) 49)) 51 (itemC zid nilV 0).toArray; rwa [World.size_alloc] at h)
  have hm : Tryz.prog.follows .mixedOrders = true := by kernel_rfl
  have hR2 := h.below b2
  have p1 : ∀ w', Below w2.heap.size w2 w' → w'.cell? ⟨g, 1, none⟩ = some (.map (some mb)) := fun w' hw => (hR2.g_.below hw hR2.g_.lt).cell 1
  have HR2 := Lib.hid hR2
  have HL := Lib.hid hid
  have HB2 := Lib.hid b2
  have q0 : ∀ w', Below w2.heap.size w2 w' → (Instr.lookup 72 (.map (some mb)) (.agg (u8s id)) true).run Tryz.prog w' = .ok (.tuple #[.agg cp, .bool true]) w' := fun w' hw => by
    have h := (hR2.map.below hw).look_ok Tryz.underlying72 (zeroItem _) hid
    rw [show (Pk.fnd out id).map Pk.It.v = some p.v by rw [hf]; rfl] at h
    exact h.trans (by rw [hcp]; rfl)
  clear hpo hpv hcp hf
  have e2 := hw2.symm
  have h20 : Below w2.heap.size w2 w2.drew := below_drewN (Below.refl _ w2) 1
  clear b2 hid hw2 hR2 h
  go_enter Tryz.func83, Tryz.ntmps83
  go_wp2
  refine wp_region_held (S := fun w' => Below w2.heap.size w2 w') hm ?_
  change wpAnyH _ _ _ _ _ _ _ _ ((w.alloc (.cells (u8s id) 49)).alloc (.cells (itemC zid nilV 0).toArray 51)).drew
  rw [e2]
  refine wpAnyH_take (i := 0) (v := ?_) rfl (by kernel_rfl) (by kernel_rfl) (by kernel_rfl) (fun _ _ _ h => h) (Or.inl ⟨by rfl, ?_⟩) h20 ?_
  rotate_left
  · intro w' hw; go_simp; with_reducible rfl
  try simp only [Act.put, List.getElem_toArray, List.getElem_cons_zero, List.setIfInBounds_toArray, List.set_cons_zero, List.set_cons_succ]
  refine wpAnyH_take (i := 1) (v := ?_) rfl (by kernel_rfl) (by kernel_rfl) (by kernel_rfl) (fun _ _ _ h => h) (Or.inl ⟨by rfl, ?_⟩) h20 ?_
  rotate_left
  · intro w' hw; go_simp; with_reducible rfl
  try simp only [Act.put, List.getElem_toArray, List.getElem_cons_zero, List.getElem_cons_succ, List.setIfInBounds_toArray, List.set_cons_zero, List.set_cons_succ]
  refine wpAnyH_take (i := 2) (v := ?_) rfl (by kernel_rfl) (by kernel_rfl) (by kernel_rfl) (fun _ _ _ h => h) (Or.inl ⟨by rfl, ?_⟩) h20 ?_
  rotate_left
  · intro w' hw; go_simp; with_reducible rfl
  try simp only [Act.put, List.getElem_toArray, List.getElem_cons_zero, List.getElem_cons_succ, List.setIfInBounds_toArray, List.set_cons_zero, List.set_cons_succ]
  refine wpAnyH_take (i := 3) (v := ?_) rfl (by kernel_rfl) (by kernel_rfl) (by kernel_rfl) (fun _ _ _ h => h) (Or.inl ⟨by rfl, ?_⟩) h20 ?_
  rotate_left
  · intro w' hw; go_simp; with_reducible rfl
  try simp only [Act.put, List.getElem_toArray, List.getElem_cons_zero, List.getElem_cons_succ, List.setIfInBounds_toArray, List.set_cons_zero, List.set_cons_succ]
  refine wpAnyH_take (i := 4) (v := .agg (u8s id)) rfl (by kernel_rfl) (by kernel_rfl) (by kernel_rfl) (fun _ _ _ h => h) (takes_row 49 (.tmp 3) rfl (by rfl) w.heap.size rfl 49 (u8s id) _ (fun w' hw => HI.out.below hw HI.out.lt) Tryz.underlying49 rfl (by rw [u8s_size, HL.out.1]; exact oid_load)) h20 ?_
  try simp only [Act.put, List.getElem_toArray, List.getElem_cons_zero, List.getElem_cons_succ, List.setIfInBounds_toArray, List.set_cons_zero, List.set_cons_succ]
  refine wpAnyH_take (i := 5) (v := ?_) rfl (by kernel_rfl) (by kernel_rfl) (by kernel_rfl) (fun _ _ _ h => h) (Or.inl ⟨by rfl, ?_⟩) h20 ?_
  rotate_left
  · intro w' hw; go_simp; with_reducible rfl
  try simp only [Act.put, List.getElem_toArray, List.getElem_cons_zero, List.getElem_cons_succ, List.setIfInBounds_toArray, List.set_cons_zero, List.set_cons_succ]
  refine wpAnyH_take (i := 6) (v := ?_) rfl (by kernel_rfl) (by kernel_rfl) (by kernel_rfl) (fun _ _ _ h => h) (Or.inl ⟨by rfl, ?_⟩) h20 ?_
  rotate_left
  · intro w' hw; go_simp; with_reducible rfl
  try simp only [Act.put, List.getElem_toArray, List.getElem_cons_zero, List.getElem_cons_succ, List.setIfInBounds_toArray, List.set_cons_zero, List.set_cons_succ]
  refine wpAnyH_take (i := 7) (v := ?_) rfl (by kernel_rfl) (by kernel_rfl) (by kernel_rfl) (fun _ _ _ h => h) (Or.inl ⟨by rfl, ?_⟩) h20 ?_
  rotate_left
  · intro w' hw; go_simp; with_reducible rfl
  try simp only [Act.put, List.getElem_toArray, List.getElem_cons_zero, List.getElem_cons_succ, List.setIfInBounds_toArray, List.set_cons_zero, List.set_cons_succ]
  refine wpAnyH_take (i := 8) (v := ?_) rfl (by kernel_rfl) (by kernel_rfl) (by kernel_rfl) (fun _ _ _ h => h) (Or.inl ⟨by rfl, ?_⟩) h20 ?_
  rotate_left
  · intro w' hw; go_simp; with_reducible rfl
  try simp only [Act.put, List.getElem_toArray, List.getElem_cons_zero, List.getElem_cons_succ, List.setIfInBounds_toArray, List.set_cons_zero, List.set_cons_succ]
  refine all_one (i := 9) (by kernel_rfl) rfl (by rfl) (fun K hK => ?_)
  go_simp
  refine hK _ _ (h20.alloc (Nat.le_refl _) _) ?_
  try simp only [Act.put, List.getElem_toArray, List.getElem_cons_zero, List.getElem_cons_succ, List.setIfInBounds_toArray, List.set_cons_zero, List.set_cons_succ]
  refine all_one (i := 10) (by kernel_rfl) rfl (by rfl) (fun K hK => ?_)
  refine wp_store_row 51 (.tmp 5) (.tmp 16) (by rfl) w2.heap.size cp (by rfl) (by rfl) 51 (itemC zid nilV 0).toArray (Blk.new w2.drew _ _) (by rw [HC4.out]; exact item_size) (by rw [HC4.out]; rfl) HC5.out ?_
  have b3 : Below w2.heap.size w2 ((w2.drew.alloc (.cells (itemC zid nilV 0).toArray 51)).setRow w2.heap.size cp) := below_row (h20.alloc (Nat.le_refl _) _) (Nat.le_refl _) _
  refine hK _ _ b3 ?_
  try simp only [Act.put, List.getElem_toArray, List.getElem_cons_zero, List.getElem_cons_succ]
  have HX3 : Hid (Blk ((w2.drew.alloc (.cells (itemC zid nilV 0).toArray 51)).setRow w2.heap.size cp) w2.heap.size 51 cp) := Lib.hid ((Blk.new w2.drew _ _).row _)
  have b3 : Below w2.heap.size w2 ((w2.drew.alloc (.cells (itemC zid nilV 0).toArray 51)).setRow w2.heap.size cp) := below_row (h20.alloc (Nat.le_refl _) _) (Nat.le_refl _) _
  change wpAnyH _ _ _ _ _ _ _ _ ((w2.drew.alloc (.cells (itemC zid nilV 0).toArray 51)).setRow w2.heap.size cp)
  generalize (w2.drew.alloc (.cells (itemC zid nilV 0).toArray 51)).setRow w2.heap.size cp = w3 at HX3 b3 ⊢
  refine all_one (i := 11) (by kernel_rfl) rfl (by rfl) (fun K hK => ?_)
  go_simp
  refine hK _ _ b3 ?_
  try simp only [Act.put, List.getElem_toArray, List.getElem_cons_zero, List.getElem_cons_succ, List.setIfInBounds_toArray, List.set_cons_zero, List.set_cons_succ]
  refine wpAnyH_done (by kernel_rfl) ?_ _
  have HZ3 := Lib.hid (HZ.out.below b3 HZ.out.lt)
  have HB3 := Lib.hid (below_next HB2.out b3)
  have HB23 := Lib.hid b3
  clear b3 q0 p1 h20
  go_wp2_with (with_reducible (show wpList _ _ _ (Oper.mk _ (Op.load 51 _) _ _ _ _ :: _) _ _); refine pause ?_)
  unfold Paused
  refine wpList_row_w (by rfl) 51 (.tmp 5) (by rfl) w2.heap.size (by rfl) 51 cp _ HX3.out Tryz.underlying51 (by rfl) (by rw [HC4.out]; exact item_size) ?_
  go_wp2_with (with_reducible (show wpList _ _ _ (Oper.mk _ (Op.store 51 _ _) _ _ _ _ :: _) _ _); refine pause ?_)
  unfold Paused
  refine wpList_store_row (by rfl) 51 (.tmp 4) (.tmp 19) (by rfl) (w.heap.size + 1) cp (by rfl) (by rfl) 51 (itemC zid nilV 0).toArray HZ3.out (by rw [HC4.out]; exact item_size) (by rw [HC4.out]; rfl) HC5.out ?_
  have HX4 := Lib.hid (HZ3.out.row cp)
  have HB4 : Hid (Below w.heap.size w (w3.setRow (w.heap.size + 1) cp)) := Lib.hid (below_row HB3.out (by omega) cp)
  generalize w3.setRow (w.heap.size + 1) cp = w4 at HX4 HB4 ⊢
  simp only [Act.put]
  go_wp2
  exact bodyPost_ret (v := .agg cp) (resultsP (t := 4) rfl (by rfl) HX4.out HC4.out) rfl ⟨rfl, HB4.out⟩
end Go.Proofs.YtolfphfdeccleaaGreatDoor
