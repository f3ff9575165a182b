/- What the document's Rest reads by the shapes b, t and ot. -/
import Derived.Test.YtolfphfdeccleaaGreatDoorMPk25s
import Derived.Test.YtolfphfdeccleaaGreatDoorMOct25r
import Derived.Test.YtolfphfdeccleaaGreatDoorMOb30s
import Derived.Lib.ConvBytes
namespace Go.Proofs.YtolfphfdeccleaaGreatDoor
open Go Go.RowKit
namespace Oc
theorem reads_one (c : Nat) (xs : List Nat) : reads [c] xs = match step c xs with | .bad e => .bad e | .ok n x k => .ok [(n, x)] (0 + k) := rfl
theorem reads_two (c d : Nat) (xs : List Nat) : reads [c, d] xs = match reads [c] xs with | .bad e => .bad e | .ok l p => (match step d (xs.drop p) with | .bad e => .bad e | .ok n x k => .ok (l ++ [(n, x)]) (p + k)) := by
  rw [reads_one]
  unfold reads
  rw [List.foldl_cons, List.foldl_cons, List.foldl_nil]
  unfold Got.next
  simp only [List.drop_zero]
  cases step c xs <;> rfl
theorem step_b0 : step 98 [] = .bad 2 := by kernel_rfl
theorem step_b (k : Nat) (ys : List Nat) (hk : k < 256) : step 98 (k :: ys) = .ok k [] 1 := by
  have h1 : zs 98 = 1 := by kernel_rfl
  have h2 : mostN 98 = 255 := by kernel_rfl
  unfold step
  rw [if_neg (by decide), if_neg (by decide), h1, h2, if_neg (by simp), List.take_succ_cons, List.take_zero]
  have h3 : val [k] = k := by simp [val]
  rw [h3, if_neg (by omega)]
theorem step_t (ys : List Nat) : step 116 ys = match Pk.text ys with | none => .bad 2 | some q => .ok 0 q.1 (2 + val (ys.take 2)) := by
  unfold step Pk.text
  rw [if_neg (by decide), if_pos rfl]
  by_cases h1 : ys.length < 2
  · rw [if_pos h1, if_pos h1]
  · rw [if_neg h1, if_neg h1]
    by_cases h2 : ys.length < 2 + val (ys.take 2)
    · rw [if_pos h2, if_pos h2]
    · rw [if_neg h2, if_neg h2]
theorem step_o (ys : List Nat) : step 111 ys = if ys.length < 32 then .bad 2 else .ok 0 (ys.take 32) 32 := by
  unfold step
  rw [if_pos rfl]
end Oc
/-- what the shape ot reads -/
def Pk.ot (ys : List Nat) : Option (List Nat × (List Nat × List Nat)) := if ys.length < 32 then none else (Pk.text (ys.drop 32)).map fun q => (ys.take 32, q)
theorem text_rest {ys : List Nat} {q : List Nat × List Nat} (h : Pk.text ys = some q) : ys.drop (2 + Oc.val (ys.take 2)) = q.2 := by
  unfold Pk.text at h
  split at h
  · cases h
  · split at h
    · cases h
    · cases h; rfl
theorem reads_t (ys : List Nat) : Oc.reads [116] ys = match Pk.text ys with | none => .bad 2 | some q => .ok [(0, q.1)] (0 + (2 + Oc.val (ys.take 2))) := by
  rw [Oc.reads_one, Oc.step_t]
  cases Pk.text ys <;> rfl
theorem reads_ot (ys : List Nat) : Oc.reads [111, 116] ys = match Pk.ot ys with | none => .bad 2 | some q => .ok [(0, q.1), (0, q.2.1)] (0 + 32 + (2 + Oc.val ((ys.drop 32).take 2))) := by
  rw [Oc.reads_two, Oc.reads_one, Oc.step_o]
  unfold Pk.ot
  by_cases h1 : ys.length < 32
  · rw [if_pos h1, if_pos h1]
  · rw [if_neg h1, if_neg h1]
    simp only [Nat.zero_add]
    rw [Oc.step_t]
    cases Pk.text (ys.drop 32) <;> rfl
theorem ot_rest {ys : List Nat} {q : List Nat × (List Nat × List Nat)} (h : Pk.ot ys = some q) : ys.drop (0 + 32 + (2 + Oc.val ((ys.drop 32).take 2))) = q.2.2 := by
  unfold Pk.ot at h
  split at h
  · cases h
  · obtain ⟨r, hr, rfl⟩ := Option.map_eq_some_iff.1 h
    rw [Nat.zero_add, ← List.drop_drop]
    exact text_rest hr
/-- how Rest ends by one number -/
def RestB (xs : List Nat) (w0 w : World) (e : Ending) (w' : World) : Prop := Below w.heap.size w w' ∧ match xs with
  | [] => e = .returned (.tuple #[.slice none 0 0, .slice none 0 0, .int .i64 2])
  | k :: ys => ∃ b c1 A2 c2, e = .returned (.tuple #[.slice (some ⟨b, 0, none⟩) 1 c1, .slice A2 ys.length c2, .int .i64 0]) ∧ w'.cell? ⟨b, 0, none⟩ = some (.int .i64 (k : Int)) ∧ Rd w0 (.slice A2 ys.length c2) ys
theorem fs_one {fs : List Fld} {q : Nat × List Nat} (h : fs.map Oc.says = [q].map Oc.lays) : ∃ f, fs = [f] ∧ f.n = (q.1 : Int) ∧ f.bs = q.2 := by
  obtain _ | ⟨f, _ | ⟨g, r⟩⟩ := fs
  · cases h
  · simp only [List.map_cons, List.map_nil, List.cons.injEq, and_true] at h
    unfold Oc.says Oc.lays at h
    injection h with h1 h2
    exact ⟨f, rfl, h1, h2⟩
  · simp at h
theorem fs_two {fs : List Fld} {q r : Nat × List Nat} (h : fs.map Oc.says = [q, r].map Oc.lays) : ∃ f g, fs = [f, g] ∧ f.bs = q.2 ∧ g.bs = r.2 := by
  obtain _ | ⟨f, _ | ⟨g, _ | ⟨g2, r⟩⟩⟩ := fs
  · cases h
  · simp at h
  · simp only [List.map_cons, List.map_nil, List.cons.injEq, and_true] at h
    unfold Oc.says Oc.lays at h
    obtain ⟨h1, h2⟩ := h
    injection h1 with h3 h4
    injection h2 with h5 h6
    exact ⟨f, g, rfl, h4, h6⟩
  · simp at h
theorem rest_b (xs : List Nat) (A : Option Addr) (n c : Nat) (w0 w : World) (hw : Below w0.heap.size w0 w) (hv : Rd w0 (.slice A n c) xs) (hb : Sha.Byte xs) (hx : xs.length ≤ 1000000) :
    Calls Tryz.prog 22 #[.string { data := #[98] }, .slice A n c] w (RestB xs w0 w) := by
  have C := rrest0_any { data := #[98] } xs A n c w0 w hw (by decide) hv (Oc.bytes_of hb) (by omega)
  refine C.mono ?_
  intro e w' h
  have hk : Oc.known ({ data := #[98] } : ByteArray).data.toList = true := by kernel_rfl
  have hs : shN { data := #[98] } = [98] := by kernel_rfl
  unfold RRestPost0 at h
  obtain ⟨h1, _, h3, h4⟩ := h
  rw [hs] at h3 h4
  refine ⟨h1, ?_⟩
  obtain _ | ⟨k, ys⟩ := xs
  · exact h3 hk 2 (by rw [Oc.reads_one, Oc.step_b0])
  · have hk256 : k < 256 := by have h := hb 0; simpa using h
    obtain ⟨A1, b, c1, fs, A2, c2, he, hA, hF, hS, hR, hQ⟩ := h4 hk [(k, [])] (0 + 1) (by rw [Oc.reads_one, Oc.step_b k ys hk256])
    obtain ⟨f, rfl, hf, _⟩ := fs_one hS
    obtain rfl := hA (by simp)
    have e1 : (k :: ys).drop (0 + 1) = ys := rfl
    rw [e1] at he hR
    have h0 := hF.n 0 (by simp)
    exact ⟨b, c1, A2, c2, he, by rw [← hf]; exact h0, hR⟩
/-- how Rest ends by one text -/
def RestT (ys : List Nat) (w0 w : World) (e : Ending) (w' : World) : Prop := Below w.heap.size w w' ∧ match Pk.text ys with
  | none => e = .returned (.tuple #[.slice none 0 0, .slice none 0 0, .int .i64 2])
  | some q => ∃ b c1 A2 c2 A3 c3, e = .returned (.tuple #[.slice (some ⟨b, 0, none⟩) 1 c1, .slice A2 q.2.length c2, .int .i64 0]) ∧ w'.cell? ⟨b, 1, none⟩ = some (.slice A3 q.1.length c3) ∧ Rd w0 (.slice A3 q.1.length c3) q.1 ∧ Rd w0 (.slice A2 q.2.length c2) q.2
theorem rest_t (xs : List Nat) (A : Option Addr) (n c : Nat) (w0 w : World) (hw : Below w0.heap.size w0 w) (hv : Rd w0 (.slice A n c) xs) (hb : Sha.Byte xs) (hx : xs.length ≤ 1000000) :
    Calls Tryz.prog 22 #[.string { data := #[116] }, .slice A n c] w (RestT xs w0 w) := by
  have C := rrest0_any { data := #[116] } xs A n c w0 w hw (by decide) hv (Oc.bytes_of hb) (by omega)
  refine C.mono ?_
  intro e w' h
  have hk : Oc.known ({ data := #[116] } : ByteArray).data.toList = true := by kernel_rfl
  have hs : shN { data := #[116] } = [116] := by kernel_rfl
  unfold RRestPost0 at h
  obtain ⟨h1, _, h3, h4⟩ := h
  rw [hs] at h3 h4
  refine ⟨h1, ?_⟩
  have hrd := reads_t xs
  cases ht : Pk.text xs with
  | none =>
    rw [ht] at hrd
    exact h3 hk 2 hrd
  | some q =>
    rw [ht] at hrd
    obtain ⟨A1, b, c1, fs, A2, c2, he, hA, hF, hS, hR, hQ⟩ := h4 hk _ _ hrd
    obtain ⟨f, rfl, _, hf⟩ := fs_one hS
    obtain rfl := hA (by simp)
    rw [Nat.zero_add, text_rest ht] at he hR
    have h0 := hF.s 0 (by simp)
    have h6 := (hF.r f (by simp)).2
    have h5 := hQ f (by simp)
    have h7 : f.bs = q.1 := hf
    rw [h7] at h5 h6
    have h0' : w'.cell? ⟨b, 1, none⟩ = some (.slice f.A f.l f.c) := h0
    rw [← h6] at h5 h0'
    exact ⟨b, c1, A2, c2, f.A, f.c, he, h0', h5, hR⟩
/-- how Rest ends by an id and a text -/
def RestOT (ys : List Nat) (w0 w : World) (e : Ending) (w' : World) : Prop := Below w.heap.size w w' ∧ match Pk.ot ys with
  | none => e = .returned (.tuple #[.slice none 0 0, .slice none 0 0, .int .i64 2])
  | some q => ∃ b c1 A2 c2 A3 c3 A4 c4, e = .returned (.tuple #[.slice (some ⟨b, 0, none⟩) 2 c1, .slice A2 q.2.2.length c2, .int .i64 0]) ∧ w'.cell? ⟨b, 1, none⟩ = some (.slice A4 32 c4) ∧ Rd w0 (.slice A4 32 c4) q.1 ∧ w'.cell? ⟨b, 3, none⟩ = some (.slice A3 q.2.1.length c3) ∧ Rd w0 (.slice A3 q.2.1.length c3) q.2.1 ∧ Rd w0 (.slice A2 q.2.2.length c2) q.2.2
theorem rest_ot (xs : List Nat) (A : Option Addr) (n c : Nat) (w0 w : World) (hw : Below w0.heap.size w0 w) (hv : Rd w0 (.slice A n c) xs) (hb : Sha.Byte xs) (hx : xs.length ≤ 1000000) :
    Calls Tryz.prog 22 #[.string { data := #[111, 116] }, .slice A n c] w (RestOT xs w0 w) := by
  have C := rrest0_any { data := #[111, 116] } xs A n c w0 w hw (by decide) hv (Oc.bytes_of hb) (by omega)
  refine C.mono ?_
  intro e w' h
  have hk : Oc.known ({ data := #[111, 116] } : ByteArray).data.toList = true := by kernel_rfl
  have hs : shN { data := #[111, 116] } = [111, 116] := by kernel_rfl
  unfold RRestPost0 at h
  obtain ⟨h1, _, h3, h4⟩ := h
  rw [hs] at h3 h4
  refine ⟨h1, ?_⟩
  have hrd := reads_ot xs
  cases ht : Pk.ot xs with
  | none =>
    rw [ht] at hrd
    exact h3 hk 2 hrd
  | some q =>
    rw [ht] at hrd
    have h32 : q.1.length = 32 := by
      unfold Pk.ot at ht
      split at ht
      · cases ht
      · obtain ⟨r, hr, rfl⟩ := Option.map_eq_some_iff.1 ht
        simp only [List.length_take]; omega
    obtain ⟨A1, b, c1, fs, A2, c2, he, hA, hF, hS, hR, hQ⟩ := h4 hk _ _ hrd
    obtain ⟨f, g, rfl, hf, hg⟩ := fs_two hS
    obtain rfl := hA (by simp)
    rw [ot_rest ht] at he hR
    have h0 := hF.s 0 (by simp)
    have h1' := hF.s 1 (by simp)
    have h6 := (hF.r f (by simp)).2
    have h5 := hQ f (by simp)
    have h6g := (hF.r g (by simp)).2
    have h5g := hQ g (by simp)
    have h7 : f.bs = q.1 := hf
    have h7g : g.bs = q.2.1 := hg
    rw [h7] at h5 h6
    rw [h7g] at h5g h6g
    have h0' : w'.cell? ⟨b, 1, none⟩ = some (.slice f.A f.l f.c) := h0
    have h0g : w'.cell? ⟨b, 3, none⟩ = some (.slice g.A g.l g.c) := h1'
    rw [← h6, h32] at h5 h0'
    rw [← h6g] at h5g h0g
    exact ⟨b, c1, A2, c2, g.A, g.c, f.A, f.c, he, h0', h5, h0g, h5g, hR⟩
end Go.Proofs.YtolfphfdeccleaaGreatDoor
/- The document's oid: 32 bytes at a place. -/
namespace Go.Proofs.YtolfphfdeccleaaGreatDoor
open Go Go.RowKit
theorem id_size : (Tryz.prog.info? 48).map (·.size) = some 32 := by kernel_rfl
theorem id_built : Tryz.prog.built 48 [] = some (u8s (List.replicate 32 0)) := by kernel_rfl
set_option maxRecDepth 100000 in
theorem roid_any (A : Option Addr) (c : Nat) (xs : List Nat) (w : World) (hv : Rd w (.slice A xs.length c) xs) (hl : 32 ≤ xs.length) :
    Calls Tryz.prog 42 #[.slice A xs.length c] w fun e w' => e = .returned (.agg (u8s (xs.take 32))) ∧ Below w.heap.size w w' := by
  obtain ⟨w1, hw1⟩ : ∃ w1, w1 = w.alloc (.cells (u8s (List.replicate 32 0)) 48) := ⟨_, rfl⟩
  obtain ⟨w2, hw2⟩ : ∃ w2, w2 = w1.alloc (.cells (u8s (List.replicate 32 0)) 48) := ⟨_, rfl⟩
  have s1 : w1.heap.size = w.heap.size + 1 := by rw [hw1]; simp
  have B1 : Below w.heap.size w w1 := hw1 ▸ (Below.refl _ _).alloc (Nat.le_refl _) _
  have B2 : Below w.heap.size w w2 := by rw [hw2]; exact B1.alloc (by omega) _
  have R0 : Blk w2 w.heap.size 48 (u8s (List.replicate 32 0)) := by rw [hw2, hw1]; exact (Blk.new w _ _).alloc _
  have R1 : Blk w2 (w.heap.size + 1) 48 (u8s (List.replicate 32 0)) := by
    have h := Blk.new w1 48 (u8s (List.replicate 32 0))
    rw [s1] at h
    rw [hw2]; exact h
  have HR0 := Lib.hid R0
  have HR1 := Lib.hid R1
  have HB2 := Lib.hid B2
  have hyl : (xs.take 32).length = 32 := by rw [List.length_take]; omega
  have hcl : 32 ≤ c := by obtain ⟨A', c', e, hc, _⟩ := hv; injection e with _ e2 e3; omega
  have q1 : ∀ w', (Instr.slice 22 (.slice A xs.length c) none (some (.int .i64 (32 : Int))) none).run Tryz.prog w' = .ok (.slice A 32 c) w' := fun w' => run_sliceHi Tryz.underlying22 (by kernel_rfl) A xs.length c 32 (by omega) rfl w'
  have HV := Lib.hid ((hv.cutHi hl).below (below_drewN B2 1) (Nat.le_refl _))
  obtain ⟨ys, hys⟩ : ∃ ys, ys = xs.take 32 := ⟨_, rfl⟩
  rw [← hys] at hyl HV ⊢
  have HYL := Lib.hid hyl
  have e1 := hw1.symm
  have e2 := hw2.symm
  clear hv hl B1 B2 R0 R1 hw1 hw2 hyl hys hcl
  go_enter Tryz.func42, Tryz.ntmps42
  go_wp2_with (with_reducible (show wpList _ _ _ (Oper.mk _ (Op.build _ _) _ _ _ _ :: _) _ _); refine pause ?_)
  unfold Paused
  change wpList _ _ _ _ _ (w.alloc (.cells (u8s (List.replicate 32 0)) 48))
  rw [e1]
  refine wpList_buildK (by rfl) 48 _ (by rfl) [] (by simp) (u8s (List.replicate 32 0)) id_built ?_
  go_wp2_with (with_reducible (show wpList _ _ _ (Oper.mk _ (Op.store 48 _ _) _ _ _ _ :: _) _ _); refine pause ?_)
  unfold Paused
  change wpList _ _ _ _ _ (w1.alloc (.cells (u8s (List.replicate 32 0)) 48))
  rw [e2]
  refine wpList_store_row rfl 48 (.tmp 3) (.tmp 4) rfl (w.heap.size + 1) (u8s (List.replicate 32 0)) (by first | rfl | (rw [← s1]; rfl)) rfl 48 (u8s (List.replicate 32 0)) HR1.out (by kernel_rfl) rfl (u8s_one _) ?_
  rw [setRow_self w2 (w.heap.size + 1) (u8s (List.replicate 32 0)) 48 (0, 0) HR1.out]
  simp only [Act.put]
  go_wp2
  refine wp_region_held (S := fun _ => True) (by kernel_rfl) ?_
  change wpAnyH _ _ _ _ _ _ _ _ w2.drew
  refine wpAnyH_take (i := 0) (v := ?_) rfl (by kernel_rfl) (by kernel_rfl) (by kernel_rfl) (fun _ _ _ h => h) (Or.inl ⟨by rfl, ?_⟩) trivial ?_
  rotate_left
  · intro w' _; go_simp; with_reducible rfl
  try simp only [Act.put, List.getElem_toArray, List.getElem_cons_zero, List.setIfInBounds_toArray, List.set_cons_zero, List.set_cons_succ]
  refine wpAnyH_take (i := 1) (v := ?_) rfl (by kernel_rfl) (by kernel_rfl) (by kernel_rfl) (fun _ _ _ h => h) (Or.inl ⟨by rfl, ?_⟩) trivial ?_
  rotate_left
  · intro w' _; go_simp; with_reducible rfl
  try simp only [Act.put, List.getElem_toArray, List.getElem_cons_zero, List.getElem_cons_succ, List.setIfInBounds_toArray, List.set_cons_zero, List.set_cons_succ]
  refine wpAnyH_take (i := 2) (v := .slice A 32 c) rfl (by kernel_rfl) (by kernel_rfl) (by kernel_rfl) (fun _ _ _ h => h) (Or.inl ⟨by rfl, ?_⟩) trivial ?_
  · intro w' _; go_simp
  try simp only [Act.put, List.getElem_toArray, List.getElem_cons_zero, List.getElem_cons_succ, List.setIfInBounds_toArray, List.set_cons_zero, List.set_cons_succ]
  obtain ⟨A', c', eA, hcc, hA⟩ := HV.out
  rw [HYL.out] at eA hA
  injection eA with e3 _ e4
  subst e3 e4
  obtain ⟨b, oo, rfl, _, hx⟩ := hA (by omega)
  refine all_one (i := 3) (by kernel_rfl) rfl (by rfl) (fun K hK => ?_)
  refine wp_copy32 (.tmp 5) (.tmp 7) rfl (w.heap.size + 1) 48 (List.replicate 32 0) HR1.out.drew (by decide) rfl ⟨b, oo, none⟩ c rfl ys HYL.out (fun j hj => by rw [Addr.add_mid]; exact hx j hj) ?_
  have HD : Hid (Blk (w2.drew.setRow (w.heap.size + 1) (u8s ys)) w.heap.size 48 (u8s (List.replicate 32 0)) ∧ Blk (w2.drew.setRow (w.heap.size + 1) (u8s ys)) (w.heap.size + 1) 48 (u8s ys) ∧ Below w.heap.size w (w2.drew.setRow (w.heap.size + 1) (u8s ys))) := Lib.hid ⟨HR0.out.drew.farRow (by omega) _, HR1.out.drew.row _, below_row (below_drewN HB2.out 1) (by omega) _⟩
  refine hK _ _ trivial ?_; clear hK K
  try simp only [Act.put, List.getElem_toArray, List.getElem_cons_zero, List.getElem_cons_succ, List.setIfInBounds_toArray, List.set_cons_zero, List.set_cons_succ]
  refine wpAnyH_done (by kernel_rfl) ?_ _
  generalize w2.drew.setRow (w.heap.size + 1) (u8s ys) = w3 at HD ⊢
  go_wp2_with (first | (refine wpList_load_row rfl 48 (.tmp 3) rfl (w.heap.size + 1) rfl 48 (u8s ys) (0,0) _ HD.out.2.1 Tryz.underlying48 rfl (by rw [u8s_size, HYL.out]; exact id_size) ?_) | (refine wpList_store_row rfl 48 (.tmp 2) (.tmp 9) rfl w.heap.size _ rfl rfl 48 _ HD.out.1 (by rw [u8s_size, HYL.out]; exact id_size) (by rw [u8s_size, u8s_size, HYL.out]; rfl) (u8s_one _) ?_))
  exact bodyPost_ret (v := .agg (u8s ys)) (results_cell_row rfl _ _ w.heap.size 48 _ (0, 0) _ rfl (HD.out.1.row _) Tryz.underlying48 rfl (by rw [u8s_size, HYL.out]; exact id_size)) rfl ⟨rfl, below_row HD.out.2.2 (Nat.le_refl _) _⟩
end Go.Proofs.YtolfphfdeccleaaGreatDoor
/- The document's Laid: how many bytes an object has. -/
namespace Go.Proofs.YtolfphfdeccleaaGreatDoor
open Go Go.RowKit
theorem below_bytesWorld' (w : World) (e : TypeId) (s : ByteArray) : Below w.heap.size w (Lib.bytesWorld w e s) :=
  ⟨rfl, rfl, rfl, by rw [Lib.bytesWorld_size]; omega, fun i hi => Lib.bytesWorld_at_old w e s i hi⟩
theorem strB_conv (s : ByteArray) (w : World) : ∃ c w2, (convert 9 22 (.string s)).run Tryz.prog w = .ok (.slice (some ⟨w.heap.size, 0, none⟩) s.size c) w2 ∧ Rd w2 (.slice (some ⟨w.heap.size, 0, none⟩) s.size c) (strB s) ∧ Below w.heap.size w w2 := by
  have hc := Lib.run_convert_string_bytes (P := Tryz.prog) w 9 22 5 s Tryz.underlying9 Tryz.underlying22 Tryz.underlying5
  refine ⟨_, _, hc, ⟨_, _, by rw [strB_len], by rw [strB_len]; exact grownCap_ge w s.size 0 5, fun h0 => ⟨w.heap.size, 0, rfl, by rw [Lib.bytesWorld_size]; omega, fun i hi => ?_⟩⟩, below_bytesWorld' w _ _⟩
  rw [strB_len] at hi
  rw [Nat.zero_add, Lib.bytesWorld_cell w _ _ i (by omega)]
  have hi2 : i < s.data.toList.length := by have : s.data.toList.length = s.size := rfl; omega
  unfold strB
  simp only [List.getD, List.getElem?_map, List.getElem?_eq_getElem hi2, Option.map_some, Option.getD_some]
theorem wpList_conv {P : Program} {ops : Array Oper} {rest : List Oper} {o : Oper} {a : Act} {w : World} {Q : Exit → Act → World → Prop} (hg : o.guard = none) (s d : TypeId) (x : Operand) (ho : o.op = .convert s d x) (u : Value) (hx : a.eval x = u) (r : Value) (w' : World)
    (h : (convert s d u).run P w = .ok r w') (hk : wpList P ops Q rest (a.put o.dst r) w') : wpList P ops Q (o :: rest) a w :=
  wpList_plain hg fun K hK => by
    unfold Oper.wp execOp
    simp only [ho, hx, Sem.run_bind, h, Result.andThen_ok]
    exact hK _ _ hk
/-- so many bytes, in the call's own row -/
def PadN (B : Nat) (w : World) (s : Value) (n : Nat) (wr : World) : Prop := ∃ ys : List Nat, ys.length = n ∧ Pad B w s ys wr
section
variable {B n : Nat} {w wr : World} {v : Value}
theorem PadN.low (h : PadN B w v n wr) (hB : w.heap.size = B) : B ≤ wr.heap.size := by
  obtain ⟨ys, _, hp⟩ := h
  exact hp.low hB
theorem PadN.bel (h : PadN B w v n wr) : Below B w wr := by
  obtain ⟨ys, _, hp⟩ := h
  exact hp.bel
theorem PadN.below (h : PadN B w v n wr) (hB : w.heap.size = B) {w' : World} (hb : Below wr.heap.size wr w') : PadN B w v n w' := by
  obtain ⟨ys, hn, hp⟩ := h
  subst hB
  exact ⟨ys, hn, own_kpt hp.own (Kpt.of_below hb), below_next hp.bel hb⟩
theorem PadN.form (h : PadN B w v n wr) (hn : 0 < n) : ∃ g c, v = .slice (some ⟨g, 0, none⟩) n c ∧ B ≤ g ∧ (∃ x, wr.cell? ⟨g, 0, none⟩ = some x) ∧ wr.frozen? ⟨g, 0, none⟩ = false ∧ ∀ x : Nat, PadN B w v n (wr.setCell ⟨g, 0, none⟩ (.int .u8 (x : Int))) := by
  obtain ⟨ys, rfl, hp⟩ := h
  rcases hp.own.2 with ⟨_, h0⟩ | ⟨g, cap, cur, rfl, hg, _⟩
  · omega
  · refine ⟨g, cap, rfl, hg, ⟨_, (hp.own.cellAt 0 (by omega)).trans (cellsB_get hn)⟩, hp.own.frozenAt 0, fun x => ⟨ys.set 0 x, by simp, ?_, hp.bel.setCell (p := ⟨g, 0, none⟩) hg _⟩⟩
    have h1 := hp.own.stored 0 (.int .u8 (x : Int))
    rw [show (cellsB ys).set 0 (.int .u8 (x : Int)) = cellsB (ys.set 0 x) by simp [cellsB, List.map_set]] at h1
    rw [List.length_set]
    exact h1.1
end
/-- Bytes are appended to the call's own row. -/
theorem wpList_padB {ops : Array Oper} {rest : List Oper} {o : Oper} {a : Act} {wr : World} {Q : Exit → Act → World → Prop} (hgd : o.guard = none) (s x : Operand)
    (ho : o.op = .call { callee := .builtin .append, args := #[s, x], argTypes := #[22, 22] }) {B : Nat} {w2 : World} (hB : w2.heap.size = B) {v : Value} {n : Nat} (hs : a.eval s = v) (hp : PadN B w2 v n wr) {u : Value} {xs : List Nat} (hx : a.eval x = u) (hu : Rd wr u xs) (hn : n + xs.length ≤ 1000000)
    (h : ∀ v' w', PadN B w2 v' (n + xs.length) w' → (∀ g t cs, Blk wr g t cs → t ≠ 5 → Blk w' g t cs) → wpList Tryz.prog ops Q rest (a.put o.dst v') w') : wpList Tryz.prog ops Q (o :: rest) a wr := by
  have hl := hp.low hB
  obtain ⟨ys, rfl, hp⟩ := hp
  refine wpList_appendB hgd s x ho B v ys hs hp.own hl u hx xs hu (by omega) fun v' w' ho hg => ?_
  exact h v' w' ⟨ys ++ xs, List.length_append, ho, below_ownB hB hp.bel hp.own hg⟩ (fun g t cs hb ht => hb.keepOwn hp.own hg ht)
/-- how many bytes Laid makes -/
def lenR (o : Ob) : Nat := if o.kind = 1 then 1 + o.text.length else if o.kind = 2 then 1 + (o.ents.flatMap entB).length else if o.kind = 3 then 1 + 32 + 1 + 32 * o.pars.length + o.text.length else 1 + 32 + o.text.length
theorem pad_one (w : World) (x : Nat) : PadN w.heap.size w (.slice (some ⟨w.heap.size, 0, none⟩) 1 1) 1 (w.alloc (.cells (u8s [x]) 5)) := by
  have h1 := World.ownsRow_lit (base := w.heap.size) (e := 5) (size := 1) w (u8s [x]) 1 (Nat.le_refl _) (by decide) rfl
  exact ⟨[x], rfl, h1, (Below.refl _ _).alloc (Nat.le_refl _) _⟩
set_option maxRecDepth 100000 in
set_option maxHeartbeats 4000000 in
theorem rlaid1 (o : Ob) (cs : Array Value) (T E P : Option Addr) (tc ec pc : Nat) (w : World) (h : ObC w o cs T tc E ec P pc) (hf : o.Fit) (hN : o.Near) (hz : o.text.length ≤ 300) (hk : o.kind = 1) :
    Calls Tryz.prog 67 #[.agg cs] w fun e w' => ∃ A c, e = .returned (.slice A (lenR o) c) ∧ Below w.heap.size w w' := by
  obtain ⟨w2, hw2⟩ : ∃ w2, w2 = w.alloc (.cells cs 65) := ⟨_, rfl⟩
  have X1 : Box w w2 w.heap.size 65 cs := hw2 ▸ Box.new w _ cs
  have hnI : (Tryz.prog.info? 65).map (·.size) = some cs.size := by rw [h.size hf]; kernel_rfl
  have HC := Lib.hid (h.below X1.bel (Nat.le_refl _))
  have HF := Lib.hid hf
  have HN := Lib.hid hN
  have HZ := Lib.hid hz
  have HX := Lib.hid X1
  have K0 := h.c0
  rw [hk] at K0
  have HK0 := Lib.hid K0
  have HK1 := Lib.hid h.c1
  have HK2 := Lib.hid h.c2
  have HK3 := Lib.hid (h.c35 hf)
  have HLR := Lib.hid (show lenR o = 1 + o.text.length by unfold lenR; rw [hk]; rfl)
  have a0 : w2.cell? ⟨w.heap.size, 0, none⟩ = some (.int .i64 1) := (X1.at_.cell 0).trans K0
  have HBX := Lib.hid (fun (wx : World) (hb : Below w2.heap.size w2 wx) => (show Box w wx w.heap.size 65 cs from X1.go hb))
  have e2 := hw2.symm
  clear h hf hN hz X1 hnI K0 hk hw2
  obtain ⟨w3, hw3⟩ : ∃ w3, w3 = w2.alloc (.cells #[.int .u8 98] 5) := ⟨_, rfl⟩
  have HP : Hid (PadN w2.heap.size w2 (.slice (some ⟨w2.heap.size, 0, none⟩) 1 1) 1 w3) := Lib.hid (by rw [hw3]; exact pad_one w2 98)
  have HT := Lib.hid (HC.out.text.below HP.out.bel (Nat.le_refl _))
  have b1 : w3.cell? ⟨w.heap.size, 1, none⟩ = some (.slice T o.text.length tc) := ((HBX.out _ HP.out.bel).at_.cell 1).trans HK1.out
  have e3 := hw3.symm
  clear hw3
  go_enter Tryz.func67, Tryz.ntmps67
  go_wp2_with (with_reducible (show wpList _ _ _ (Oper.mk _ (Op.call (Call.mk (Callee.builtin Builtin.append) _ _)) _ _ _ _ :: _) _ _); refine pause ?_)
  unfold Paused
  refine wpList_padB (by rfl) (.tmp 17) (.tmp 19) (by rfl) rfl (by rfl) HP.out (by rfl) HT.out (by have := HZ.out; omega) ?_
  intro v4 w4 hp _
  obtain ⟨ys, hyl, hq⟩ := hp
  obtain ⟨A, c, rfl⟩ := own_slice hq.own
  have HE := Lib.hid (show Below w.heap.size w w4 from below_next HX.out.bel hq.bel)
  clear hq
  go_wp2
  go_ret
  exact ⟨A, c, by rw [HLR.out]; rfl, HE.out⟩
set_option maxRecDepth 100000 in
set_option maxHeartbeats 4000000 in
theorem rlaid4 (o : Ob) (cs : Array Value) (T E P : Option Addr) (tc ec pc : Nat) (w : World) (h : ObC w o cs T tc E ec P pc) (hf : o.Fit) (hN : o.Near) (hz : o.text.length ≤ 300) (hk : o.kind = 4) :
    Calls Tryz.prog 67 #[.agg cs] w fun e w' => ∃ A c, e = .returned (.slice A (lenR o) c) ∧ Below w.heap.size w w' := by
  obtain ⟨w2, hw2⟩ : ∃ w2, w2 = w.alloc (.cells cs 65) := ⟨_, rfl⟩
  have X1 : Box w w2 w.heap.size 65 cs := hw2 ▸ Box.new w _ cs
  have hnI : (Tryz.prog.info? 65).map (·.size) = some cs.size := by rw [h.size hf]; kernel_rfl
  have HC := Lib.hid (h.below X1.bel (Nat.le_refl _))
  have HF := Lib.hid hf
  have HN := Lib.hid hN
  have HZ := Lib.hid hz
  have HX := Lib.hid X1
  have K0 := h.c0
  rw [hk] at K0
  have HK0 := Lib.hid K0
  have HK1 := Lib.hid h.c1
  have HK2 := Lib.hid h.c2
  have HK3 := Lib.hid (h.c35 hf)
  have HLR := Lib.hid (show lenR o = 1 + 32 + o.text.length by unfold lenR; rw [hk]; rfl)
  have a0 : w2.cell? ⟨w.heap.size, 0, none⟩ = some (.int .i64 4) := (X1.at_.cell 0).trans K0
  have HBX := Lib.hid (fun (wx : World) (hb : Below w2.heap.size w2 wx) => (show Box w wx w.heap.size 65 cs from X1.go hb))
  have e2 := hw2.symm
  clear h hf hN hz X1 hnI K0 hk hw2
  go_enter Tryz.func67, Tryz.ntmps67
  obtain ⟨w3, hw3⟩ : ∃ w3, w3 = w2.alloc (.cells #[.int .u8 103] 5) := ⟨_, rfl⟩
  have HP0 : Hid (PadN w2.heap.size w2 (.slice (some ⟨w2.heap.size, 0, none⟩) 1 1) 1 w3) := Lib.hid (by rw [hw3]; exact pad_one w2 103)
  have e3 := hw3.symm
  have b0 : w3.cell? ⟨w.heap.size, 0, none⟩ = some (.int .i64 4) := ((HBX.out _ HP0.out.bel).at_.cell 0).trans HK0.out
  clear hw3
  have HTG : Hid (Id32 o.target) := Lib.hid HF.out.target
  have HMD : Hid (w3.rangeAt w.heap.size 3 (cellsB o.target)) := Lib.hid (tgt_idx (HBX.out _ HP0.out.bel).at_ (ob_mid HC.out))
  go_wp2_with (with_reducible (show wpList _ _ _ (Oper.mk _ (Op.load 48 _) _ _ _ _ :: _) _ _); refine pause ?_)
  unfold Paused
  refine wpList_mid_w (by rfl) 48 (.tmp 58) (by rfl) w.heap.size 3 (by rfl) _ _ HMD.out Tryz.underlying48 (by rfl) (by rw [cellsP1_len HTG.out]; kernel_rfl) ?_
  have HID := HTG
  generalize o.target = id at HID
  have HSZ : Hid ((1 : Nat) ≤ 1) := Lib.hid (Nat.le_refl _)
  go_wp2
  clear b0 e3
  go_loopw [3, 60] (fun v j wr => ∃ q : Nat, q ≤ 32 ∧ j = .int .i64 (q : Nat) ∧ Hid (PadN w2.heap.size w2 v (1 + q) wr)) (fun _ j _ => 32 - (intOf j).toNat)
  case atStart => exact ⟨0, by omega, rfl, HP0⟩
  case round =>
    obtain ⟨q, hq, rfl, HQ⟩ := hrel
    by_cases hq32 : q < 32
    · have j1 : ((q : Nat) : Int) < 32 := by omega
      have j2 : (0 : Int) ≤ ((q : Nat) : Int) := by omega
      have hix : ∀ w', (Instr.index 48 (.agg (cellsB id).toArray) (.int .i64 (q : Nat))).run Tryz.prog w' = .ok (.int .u8 ((id.getD q 0 : Nat) : Int)) w' := fun w' => run_indexArr (n := 32) Tryz.underlying48 Tryz.underlying5 (by kernel_rfl) _ q _ hq32 (by rw [List.getElem?_toArray]; exact cellsB_get (by rw [HID.out.1]; exact hq32)) _ rfl w'
      generalize id.getD q 0 = x at hix
      go_wp2_with (with_reducible (show wpList _ _ _ (Oper.mk _ (Op.call (Call.mk (Callee.builtin Builtin.append) _ _)) _ _ _ _ :: _) _ _); refine pause ?_)
      unfold Paused
      change wpList _ _ _ _ _ (wr.alloc (.cells (u8s [x]) 5))
      have HPb := Lib.hid (HQ.out.below rfl ((Below.refl wr.heap.size wr).alloc (Nat.le_refl _) (.cells (u8s [x]) 5)))
      have HRb : Hid (Rd (wr.alloc (.cells (u8s [x]) 5)) (.slice (some ⟨wr.heap.size, 0, none⟩) 1 1) [x]) := Lib.hid (rd_of_lit wr [x] _ (by simp))
      generalize wr.alloc (.cells (u8s [x]) 5) = wb at HPb HRb ⊢
      generalize wr.heap.size = gs at HRb ⊢
      refine wpList_padB (by rfl) (.tmp 63) (.tmp 65) (by rfl) rfl (by rfl) HPb.out (by rfl) HRb.out (by have := HSZ.out; simp only [List.length_cons, List.length_nil]; omega) ?_
      intro v1 w1 hp1 _
      have HP1 : Hid (PadN w2.heap.size w2 v1 (1 + (q + 1)) w1) := Lib.hid hp1
      clear hp1 hix
      go_wp2
      go_roundw
      case rel => exact ⟨q + 1, by omega, by go_num, HP1⟩
      case measure => simp [intOf]; omega
    · have hq2 : q = 32 := by omega
      subst hq2
      clear hq hq32
      have b0 : wr.cell? ⟨w.heap.size, 0, none⟩ = some (.int .i64 4) := ((HBX.out _ HQ.out.bel).at_.cell 0).trans HK0.out
      have HPT : Hid (PadN w2.heap.size w2 u3 (1 + 32) wr) := HQ
      have HTX := Lib.hid (HC.out.text.below HPT.out.bel (Nat.le_refl _))
      have b1 : wr.cell? ⟨w.heap.size, 1, none⟩ = some (.slice T o.text.length tc) := ((HBX.out _ HPT.out.bel).at_.cell 1).trans HK1.out
      go_wp2_with (with_reducible (show wpList _ _ _ (Oper.mk _ (Op.call (Call.mk (Callee.builtin Builtin.append) _ _)) _ _ _ _ :: _) _ _); refine pause ?_)
      unfold Paused
      refine wpList_padB (by rfl) (.tmp 97) (.tmp 99) (by rfl) rfl (by rfl) HPT.out (by rfl) HTX.out (by have := HZ.out; have := HSZ.out; omega) ?_
      intro v9 w9 hp9 _
      obtain ⟨ys, hyl, hq9⟩ := hp9
      obtain ⟨A, c, rfl⟩ := own_slice hq9.own
      have HE := Lib.hid (show Below w.heap.size w w9 from below_next HX.out.bel hq9.bel)
      clear hq9 b1
      go_wp2
      go_ret
      exact ⟨A, c, by rw [HLR.out]; rfl, HE.out⟩
end Go.Proofs.YtolfphfdeccleaaGreatDoor
