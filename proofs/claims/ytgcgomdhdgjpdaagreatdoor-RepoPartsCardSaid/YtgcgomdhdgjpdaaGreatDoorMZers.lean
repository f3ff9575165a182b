/- append(s, make([]byte, k)...) onto a row of the call's own. -/
import Derived.Test.YtgcgomdhdgjpdaaGreatDoorMLawOpen3s
import Derived.Lib.AppendZerosOnto
import Derived.Test.YtgcgomdhdgjpdaaGreatDoorMOb30s
import Derived.Test.YtgcgomdhdgjpdaaGreatDoorMShaEnds
import Derived.Test.YtgcgomdhdgjpdaaGreatDoorMLawOpenEns
import Derived.Test.YtgcgomdhdgjpdaaGreatDoorMOb18s
namespace Go.Proofs.YtgcgomdhdgjpdaaGreatDoor
open Go Go.RowKit
set_option maxRecDepth 100000 in
set_option maxHeartbeats 1000000 in
theorem oid_any (xs : List Nat) (v : Value) (w : World) (hv : Rd w v xs) (hb : Sha.Byte xs) (ht : Tabs w) (hz : xs.length ≤ 549755813888) :
  Calls Tryz.prog 15 #[v] w fun e w' => e = .returned (.agg (u8s (Sha.sum xs))) ∧ Below w.heap.size w w' := by
 have hv0 := hv
 obtain ⟨A, c, rfl, _⟩ := hv0
 obtain ⟨w1, hw1⟩ : ∃ w1, w1 = w.alloc (.cells (u8s (List.replicate 32 0)) 41) := ⟨_, rfl⟩
 obtain ⟨w2, hw2⟩ : ∃ w2, w2 = w1.alloc (.cells #[.slice A xs.length c] 46) := ⟨_, rfl⟩
 have B1 : Below w.heap.size w w1 := hw1 ▸ (Below.refl _ _).alloc (Nat.le_refl _) _
 have s1 : w1.heap.size = w.heap.size + 1 := by rw [hw1]; simp
 have B2 : Below w.heap.size w w2 := by rw [hw2]; exact B1.alloc (by omega) _
 have N2 : Blk w2 w1.heap.size 46 #[.slice A xs.length c] := hw2 ▸ Blk.new w1 _ _
 have R2 : Blk w2 w.heap.size 41 (u8s (List.replicate 32 0)) := by rw [hw2, hw1]; exact (Blk.new w _ _).alloc _
 have CS := sum_any (.slice (some ⟨w1.heap.size, 0, none⟩) 1 1) [.slice A xs.length c] [xs] w2 ⟨_, _, rfl, Nat.le_refl _, fun _ => ⟨_, _, rfl, N2.lt, fun i u hi => by rw [Nat.zero_add]; exact (N2.cell i).trans (by simpa using hi)⟩⟩ rfl
  (fun i u hi => by
   rcases i with _ | i
   ·obtain rfl : Value.slice A xs.length c = u := by simpa using hi
    exact hv.below B2 (Nat.le_refl _)
   ·simp at hi)
  (fun ps hp => by rw [List.mem_singleton.1 hp]; exact hb) (ht.below B2 (Nat.le_refl _)) (by simp) (fun ps hp => by rw [List.mem_singleton.1 hp]; exact hz)
 rw [show ([xs] : List (List Nat)).flatten = xs by simp] at CS
 have HB2 := Lib.hid B2
 have HR2 := Lib.hid R2
 have HL := Lib.hid (show (u8s (Sha.sum xs)).size = 32 by rw [u8s_size]; exact Sha.join_len _)
 have e1 := hw1.symm
 have e2 := hw2.symm
 rw [s1] at CS
 clear B1 B2 N2 R2 hv hb ht hw1 hw2 s1
 go_enter Tryz.func15, Tryz.ntmps15
 go_wp2_with (go_at_call 34; refine pause ?_)
 unfold Paused
 change Calls _ _ _ ((w.alloc (.cells (u8s (List.replicate 32 0)) 41)).alloc (.cells #[.slice A xs.length c] 46)) _
 rw [e1, e2]
 refine CS.mono ?_
 rintro e w3 ⟨rfl, hb3⟩
 have HR3 := Lib.hid (HR2.out.below hb3 HR2.out.lt)
 have HB3 := Lib.hid (below_next HB2.out hb3)
 clear hb3 CS
 go_wp2_with (first | (refine wpList_store_row rfl 41 (.tmp 2) (.tmp 5) rfl w.heap.size _ rfl rfl 41 _ HR3.out (by rw [HL.out]; exact oid_info) (by rw [HL.out]; rfl) (u8s_one _) ?_))
 exact bodyPost_ret (v := .agg (u8s (Sha.sum xs))) (results_cell_row rfl _ _ w.heap.size 41 _ (0, 0) _ rfl (HR3.out.row _) Tryz.underlying41 rfl (by rw [HL.out]; exact oid_info)) rfl ⟨rfl, below_row HB3.out (Nat.le_refl _) _⟩
namespace Cl
structure T where
 text : List Nat
 val : Value
noncomputable def fst (l : List T) (id : List Nat) : Option T := l.foldl (fun o t => if o.isSome then o else if id = Sha.sum t.text then some t else o) none
theorem fst_snoc (l : List T) (t : T) (id : List Nat) : fst (l ++ [t]) id = if (fst l id).isSome then fst l id else if id = Sha.sum t.text then some t else fst l id := by
 unfold fst; rw [List.foldl_append]; rfl
theorem fst_from (id : List Nat) : ∀ (l : List T) (o : Option T), (l.foldl (fun o t => if o.isSome then o else if id = Sha.sum t.text then some t else o) o).map (·.text) = (l.map (·.text)).foldl (fun o t => if o.isSome then o else if id = Sha.sum t then some t else o) (o.map (·.text))
 | [], _ => rfl
 | p :: l, o => by
  rw [List.foldl_cons, fst_from id l, List.map_cons, List.foldl_cons, Option.isSome_map]
  congr 1
  cases o with
  | none =>
   simp only [Option.isSome_none, Bool.false_eq_true, if_false]
   split <;> rfl
  | some t => rfl
theorem fst_text (l : List T) (id : List Nat) : (fst l id).map (·.text) = stk (l.map (·.text)) id := fst_from id l none
theorem fst_mem_from (id : List Nat) : ∀ (l : List T) (o : Option T) (t : T), l.foldl (fun o t => if o.isSome then o else if id = Sha.sum t.text then some t else o) o = some t → (t ∈ l ∧ id = Sha.sum t.text) ∨ o = some t
 | [], _, _, h => Or.inr h
 | s :: l, o, t, h => by
  rw [List.foldl_cons] at h
  rcases fst_mem_from id l _ t h with ⟨h1, h2⟩ | h1
  ·exact Or.inl ⟨List.mem_cons_of_mem _ h1, h2⟩
  ·split at h1
   ·exact Or.inr h1
   ·split at h1
    ·rename_i he
     cases h1
     exact Or.inl ⟨List.mem_cons_self .., he⟩
    ·exact Or.inr h1
theorem fst_mem {l : List T} {id : List Nat} {t : T} (h : fst l id = some t) : t ∈ l ∧ id = Sha.sum t.text := by
 rcases fst_mem_from id l none t h with h | h
 ·exact h
 ·cases h
end Cl
def RdV (w : World) (v : Value) (vs : List Value) : Prop :=
 ∃ A c, v = .slice A vs.length c ∧ vs.length ≤ c ∧ (0 < vs.length → ∃ b o, A = some ⟨b, o, none⟩ ∧ b < w.heap.size ∧ ∀ i u, vs[i]? = some u → w.cell? ⟨b, o + i, none⟩ = some u)
theorem RdV.below {w w' : World} {v : Value} {vs : List Value} (h : RdV w v vs) (hb : Below w.heap.size w w') : RdV w' v vs := by
 obtain ⟨A, c, hv, hc, hA⟩ := h
 refine ⟨A, c, hv, hc, fun h0 => ?_⟩
 obtain ⟨b, o, ha, hl, hx⟩ := hA h0
 exact ⟨b, o, ha, Nat.lt_of_lt_of_le hl hb.size, fun i u hu => (hb.cell (p := ⟨b, o + i, none⟩) hl).trans (hx i u hu)⟩
structure ClT (w : World) (v : Value) (its : List Cl.T) : Prop where
 row : RdV w v (its.map (·.val))
 rd : ∀ p ∈ its, Rd w p.val p.text ∧ Sha.Byte p.text
theorem ClT.below {w w' : World} {v : Value} {its : List Cl.T} (h : ClT w v its) (hb : Below w.heap.size w w') : ClT w' v its :=
 ⟨h.row.below hb, fun p hp => ⟨(h.rd p hp).1.below hb (Nat.le_refl _), (h.rd p hp).2⟩⟩
theorem cl_oid_load : (Tryz.prog.info? 41).map (·.size) = some 32 := by kernel_rfl
theorem cl_sum_id (t : List Nat) : Id32 (Sha.sum t) := ⟨Sha.join_len _, Sha.join_byte _⟩
theorem cl_zero_bytes (w : World) : (zeroValue 46).run Tryz.prog w = .ok (.slice none 0 0) w := by kernel_rfl
theorem cl_make (k : Int) (w : World) : (Instr.makeMap 160 (some (.int .i64 k))).run Tryz.prog w = .ok (.map (some w.heap.size)) (w.alloc (.map #[] 0)) := by kernel_rfl
structure SW (w wr : World) (its : List Cl.T) (k nm : Nat) : Prop where
 map : MapO wr w.heap.size nm (fun id => (Cl.fst (its.take k) id).map (·.val))
 few : nm ≤ k
 bel : Below w.heap.size w wr
theorem SW.below {w wr w' : World} {its : List Cl.T} {k nm : Nat} (h : SW w wr its k nm) (hb : Below wr.heap.size wr w') : SW w w' its k nm := ⟨h.map.below hb, h.few, below_next h.bel hb⟩
theorem SW.put {w wr w' : World} {its : List Cl.T} {k nm : Nat} (h : SW w wr its k nm) (hk : k < its.length) (hf : Cl.fst (its.take k) (Sha.sum its[k].text) = none) (hm : MapO w' w.heap.size (nm + 1) (updO (fun id => (Cl.fst (its.take k) id).map (·.val)) (Sha.sum its[k].text) its[k].val)) (hg : wr.grownBy w' (some w.heap.size)) : SW w w' its (k + 1) (nm + 1) := by
 refine ⟨hm.ext fun x _ => ?_, by have := h.few; omega, below_of_only h.bel hg (Nat.le_refl _)⟩
 unfold updO
 rw [List.take_succ_eq_append_getElem hk, Cl.fst_snoc]
 by_cases he : x = Sha.sum its[k].text
 ·subst he
  rw [if_pos rfl, hf, if_neg (by simp), if_pos rfl]
  rfl
 ·rw [if_neg he, if_neg he]
  split <;> rfl
theorem SW.skip {w wr : World} {its : List Cl.T} {k nm : Nat} (h : SW w wr its k nm) (hk : k < its.length) (hf : (Cl.fst (its.take k) (Sha.sum its[k].text)).isSome = true) : SW w wr its (k + 1) nm := by
 refine ⟨h.map.ext fun x _ => ?_, by have := h.few; omega, h.bel⟩
 rw [List.take_succ_eq_append_getElem hk, Cl.fst_snoc]
 by_cases he : x = Sha.sum its[k].text
 ·subst he
  rw [if_pos hf]
 ·rw [if_neg he]
  split <;> rfl
def StkPost (w : World) (its : List Cl.T) (e : Ending) (w' : World) : Prop := ∃ m nm, e = .returned (.map (some m)) ∧ MapO w' m nm (fun id => (Cl.fst its id).map (·.val)) ∧ nm ≤ its.length ∧ w.heap.size ≤ m ∧ Below w.heap.size w w'
set_option maxRecDepth 100000 in
set_option maxHeartbeats 4000000 in
theorem stockOf_any (A : Option Addr) (n c : Nat) (its : List Cl.T) (w : World) (h : ClT w (.slice A n c) its) (hn : its.length ≤ 1000) (hl : ∀ p ∈ its, p.text.length ≤ 100000) (ht : Tabs w) :
  Calls Tryz.prog 81 #[.slice A n c] w (StkPost w its) := by
 have hnl : n = its.length := by
  obtain ⟨A', c', hv, _⟩ := h.row
  injection hv with e1 e2 e3
  rw [e2, List.length_map]
 have HROW : Hid (0 < n → ∃ b o, A = some ⟨b, o, none⟩ ∧ b < w.heap.size ∧ ∀ i u, (its.map (·.val))[i]? = some u → w.cell? ⟨b, o + i, none⟩ = some u) := Lib.hid (by
  obtain ⟨A', c', hv, _, hx⟩ := h.row
  injection hv with e1 e2 e3
  subst e1
  rw [← e2] at hx
  exact hx)
 have HRD := Lib.hid h.rd
 have HNL := Lib.hid hnl
 have HN : Hid (n ≤ 1000) := Lib.hid (by omega)
 have HL := Lib.hid hl
 have HT := Lib.hid ht
 have mk := cl_make n w
 have HS0 : Hid (SW w (w.alloc (.map #[] 0)) its 0 0) := Lib.hid ⟨(MapO.made w).ext fun x _ => rfl, Nat.le_refl _, (Below.refl _ _).alloc (Nat.le_refl _) _⟩
 have HF : Hid (∀ wr nm, SW w wr its n nm → StkPost w its (.returned (.map (some w.heap.size))) wr) := Lib.hid (fun wr nm hs => ⟨_, nm, rfl, by have h1 := hs.map; rw [hnl, List.take_length] at h1; exact h1, by have := hs.few; omega, Nat.le_refl _, hs.bel⟩)
 clear h hn hl ht hnl
 go_enter Tryz.func81, Tryz.ntmps81
 go_wp2
 generalize w.alloc (.map #[] 0) = w1 at HS0 ⊢
 clear mk
 go_loopw [14] (fun i wr => ∃ k : Nat, k ≤ n ∧ i = .int .i64 k ∧ ∃ nm, Hid (SW w wr its k nm)) (fun i _ => n - (intOf i).toNat)
 case atStart => exact ⟨0, Nat.zero_le _, rfl, 0, HS0⟩
 case round =>
  obtain ⟨k, hk, rfl, nm, HS⟩ := hrel
  by_cases hlt : k < n
  ·have hki : k < its.length := by rw [← HNL.out]; exact hlt
   obtain ⟨b, o, rfl, hbl, hcell⟩ := HROW.out (by omega)
   obtain ⟨p, hp⟩ : ∃ p : Cl.T, its[k] = p := ⟨_, rfl⟩
   have hpm : p ∈ its := hp ▸ List.getElem_mem hki
   obtain ⟨hrd, hby⟩ := HRD.out p hpm
   obtain ⟨A1, c1, hval⟩ : ∃ A1 c1, p.val = .slice A1 p.text.length c1 := by obtain ⟨A1, c1, h, _⟩ := hrd; exact ⟨A1, c1, h⟩
   have pc : wr.cell? ⟨b, o + k, none⟩ = some (.slice A1 p.text.length c1) := by
    rw [← hval, ← hp]
    exact (HS.out.bel.cell (p := ⟨b, o + k, none⟩) hbl).trans (hcell k _ (by rw [List.getElem?_map, List.getElem?_eq_getElem hki]; rfl))
   have CID := oid_any p.text (.slice A1 p.text.length c1) wr (by rw [← hval]; exact hrd.below HS.out.bel (Nat.le_refl _)) hby (HT.out.below HS.out.bel (Nat.le_refl _)) (by have := HL.out p hpm; omega)
   have HP := Lib.hid hp
   have HVAL := Lib.hid hval
   have HKI := Lib.hid hki
   have i1 : ((k : Nat) : Int) < n := by omega
   have i2 : (0 : Int) ≤ ((k : Nat) : Int) := by omega
   have i3 : ((k : Nat) : Int) < 1000 := by have := HN.out; omega
   have HSI := Lib.hid (cl_sum_id p.text)
   obtain ⟨su, hsu⟩ : ∃ su, su = Sha.sum p.text := ⟨_, rfl⟩
   rw [← hsu] at CID HSI
   have HSU := Lib.hid hsu
   obtain ⟨n1, hn1⟩ : ∃ n, n = p.text.length := ⟨_, rfl⟩
   rw [← hn1] at pc CID HVAL
   clear hrd hby hval hpm hcell hsu hn1 hp
   go_wp2_with (go_at_call 15; refine pause ?_)
   unfold Paused
   refine CID.mono ?_
   rintro e w5 ⟨rfl, hb5⟩
   have HS5 := Lib.hid (HS.out.below hb5)
   clear hb5 CID pc
   go_wp2_with (with_reducible (show wpList _ _ _ (Oper.mk _ (Op.store 41 _ _) _ _ _ _ :: _) _ _); refine pause ?_)
   unfold Paused
   change wpList _ _ _ _ _ (w5.alloc (.cells (u8s (List.replicate 32 0)) 41))
   refine wpList_store_row (by rfl) 41 (.tmp 6) (.tmp 19) (by rfl) w5.heap.size (u8s su) (by rfl) (by rfl) 41 (u8s (List.replicate 32 0)) (Blk.new w5 _ _) (by rw [u8s_size, HSI.out.1]; exact cl_oid_load) (by rw [u8s_size, u8s_size, HSI.out.1]; rfl) (u8s_one _) ?_
   have b6 : Below w5.heap.size w5 ((w5.alloc (.cells (u8s (List.replicate 32 0)) 41)).setRow w5.heap.size (u8s su)) := below_row ((Below.refl _ _).alloc (Nat.le_refl _) _) (Nat.le_refl _) _
   have HS6 := Lib.hid (HS5.out.below b6)
   have HI6 : Hid (Blk ((w5.alloc (.cells (u8s (List.replicate 32 0)) 41)).setRow w5.heap.size (u8s su)) w5.heap.size 41 (u8s su)) := Lib.hid ((Blk.new w5 _ _).row _)
   clear b6 HS5
   generalize (w5.alloc (.cells (u8s (List.replicate 32 0)) 41)).setRow w5.heap.size (u8s su) = w6 at HS6 HI6 ⊢
   generalize w5.heap.size = g6 at HI6 ⊢
   simp only [Act.put]
   go_wp2_with (with_reducible (show wpList _ _ _ (Oper.mk _ (Op.load 41 _) _ _ _ _ :: _) _ _); refine pause ?_)
   unfold Paused
   refine wpList_row_w (by rfl) 41 (.tmp 6) (by rfl) g6 (by rfl) 41 (u8s su) _ HI6.out Tryz.underlying41 (by rfl) (by rw [u8s_size, HSI.out.1]; exact cl_oid_load) ?_
   have q6 := HS6.out.map.look_ok Tryz.underlying160 (cl_zero_bytes w6) HSI.out
   cases hf : Cl.fst (its.take k) su with
   | some t =>
    rw [hf] at q6
    simp only [Option.map_some, Option.getD_some, Option.isSome_some] at q6
    have HN6 : Hid (SW w w6 its (k + 1) nm) := Lib.hid (HS6.out.skip HKI.out (by rw [HP.out, ← HSU.out, hf]; rfl))
    clear hf
    go_wp2
    go_roundw
    case rel => exact ⟨k + 1, by omega, by go_num, nm, HN6⟩
    case measure => simp [intOf]; omega
   | none =>
    rw [hf] at q6
    simp only [Option.map_none, Option.getD_none, Option.isSome_none] at q6
    have HF6 := Lib.hid hf
    clear hf
    obtain ⟨w7, hrun, hm7, hg7⟩ := HS6.out.map.store Tryz.underlying160 (by have := HN.out; have := HS6.out.few; unfold maxLen; omega) HSI.out (.slice A1 n1 c1)
    have HN7 : Hid (SW w w7 its (k + 1) (nm + 1)) := Lib.hid (HS6.out.put HKI.out (by rw [HP.out, ← HSU.out]; exact HF6.out) (by rw [HP.out, ← HSU.out, HVAL.out]; exact hm7) hg7)
    clear hm7 hg7
    go_wp2_with (with_reducible (show wpList _ _ _ (Oper.mk _ (Op.load 41 _) _ _ _ _ :: _) _ _); refine pause ?_)
    unfold Paused
    refine wpList_row_w (by rfl) 41 (.tmp 6) (by rfl) g6 (by rfl) 41 (u8s su) _ HI6.out Tryz.underlying41 (by rfl) (by rw [u8s_size, HSI.out.1]; exact cl_oid_load) ?_
    go_wp2
    go_roundw
    case rel => exact ⟨k + 1, by omega, by go_num, nm + 1, HN7⟩
    case measure => simp [intOf]; omega
  ·obtain rfl : k = n := by omega
   have HE := Lib.hid (HF.out wr nm HS.out)
   have ik : ¬ ((k : Nat) : Int) < k := by omega
   go_wp2
   go_ret
   exact HE.out
end Go.Proofs.YtgcgomdhdgjpdaaGreatDoor
