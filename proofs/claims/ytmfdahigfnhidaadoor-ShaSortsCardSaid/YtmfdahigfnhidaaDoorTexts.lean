/- The walks of digests as figures and of their order: sha.Unhex, Less, Short, and the reference's Hex, Unhex, figure, Less. -/
import Derived.Test.YtmfdahigfnhidaaDoorTextMath
import Derived.Test.YtmfdahigfnhidaaDoorShaJoin
import Derived.Test.YtmfdahigfnhidaaDoorErr
import Derived.Shelf.Small.Strs
import Derived.Lib.UnsafeStr
import Derived.Lib.Bytealg
import Derived.Deep.RegionWith
namespace Go.Proofs.YtmfdahigfnhidaaDoor
open Go Go.RowKit
/-! strings.IndexByte among the figures -/
section
open Go.Shelf
def ixb_ren : Go.Shelf.Ren := ⟨fun | 137 => 44 | 217 => 77 | 266 => 93 | n => n, fun | 9 => 9 | 5 => 5 | 3 => 3 | n => n, fun | n => n⟩
theorem ixb_lays : Go.Proofs.Lays.n137 Tryd.prog ixb_ren := {
  mixed := by kernel_rfl
  f137 := Tryd.func44.trans (congrArg some (by kernel_rfl))
  f217 := Tryd.func77.trans (congrArg some (by kernel_rfl))
  f266 := Tryd.func93.trans (congrArg some (by kernel_rfl))
  t3 := Tryd.underlying3
  a3 := Tryd.isAgg3
  z3 := Tryd.sizeOf3
  v3 := Tryd.zeroValue3
  t5 := Tryd.underlying5
  a5 := Tryd.isAgg5
  z5 := Tryd.sizeOf5
  v5 := Tryd.zeroValue5
  t9 := Tryd.underlying9
  a9 := Tryd.isAgg9
  z9 := Tryd.sizeOf9
  v9 := Tryd.zeroValue9 }
end
abbrev figS : ByteArray := ⟨#[48, 49, 50, 51, 52, 53, 54, 55, 56, 57, 97, 98, 99, 100, 101, 102]⟩
theorem ixb_val : ∀ c : Fin 256, Lib.indexByte figS.data.toList (((c.val : Nat) : Int).toNat.toUInt8) = Sha.fgI c.val := by decide +kernel
theorem ixb_any (c : Nat) (hc : c < 256) (w : World) :
    Calls Tryd.prog 44 #[.string figS, .int .u8 ((c : Nat) : Int)] w fun e w' => e = .returned (.int .i64 (Sha.fgI c)) ∧ w' = w :=
  (Any.strings_IndexByte ixb_lays figS (c : Int) w).mono fun _ _ ⟨he, hw⟩ => ⟨by rw [he, ixb_val ⟨c, hc⟩], hw⟩
theorem ret_int {k : IntKind} {a b : Int} (h : a = b) : Ending.returned (.int k a) = .returned (.int k b) := by rw [h]
theorem figure_any (c : Nat) (hc : c < 256) (w : World) :
    Calls Tryd.prog 45 #[.int .u8 ((c : Nat) : Int)] w fun e w' => e = .returned (.int .i64 (Sha.fgI c)) ∧ w' = w := by
  have HF := Lib.hid (show Sha.fgI c = if 48 ≤ c ∧ c ≤ 57 then (c : Int) - 48 else if 97 ≤ c ∧ c ≤ 102 then (c : Int) - 87 else -1 from rfl)
  rcases Nat.lt_or_ge c 48 with h1 | h1
  · go_enter Tryd.func45, Tryd.ntmps45
    go_wp2
    go_ret
    exact ⟨by rw [HF.out, if_neg (by omega), if_neg (by omega)]; rfl, rfl⟩
  rcases Nat.lt_or_ge 57 c with h2 | h2
  · rcases Nat.lt_or_ge c 97 with h3 | h3
    · go_enter Tryd.func45, Tryd.ntmps45
      go_wp2
      go_ret
      exact ⟨by rw [HF.out, if_neg (by omega), if_neg (by omega)]; rfl, rfl⟩
    · rcases Nat.lt_or_ge 102 c with h4 | h4
      · go_enter Tryd.func45, Tryd.ntmps45
        go_wp2
        go_ret
        exact ⟨by rw [HF.out, if_neg (by omega), if_neg (by omega)]; rfl, rfl⟩
      · go_enter Tryd.func45, Tryd.ntmps45
        go_wp2
        go_ret
        exact ⟨by rw [HF.out, if_neg (by omega), if_pos (by omega)]; exact ret_int (by omega), rfl⟩
  · go_enter Tryd.func45, Tryd.ntmps45
    go_wp2
    go_ret
    exact ⟨by rw [HF.out, if_pos (by omega)]; rfl, rfl⟩
/-- a text's bytes -/
def sb (s : ByteArray) : List Nat := s.data.toList.map UInt8.toNat
theorem sb_len (s : ByteArray) : (sb s).length = s.size := by unfold sb; rw [List.length_map]; rfl
theorem sb_byte (s : ByteArray) : Sha.Byte (sb s) := fun i => by
  unfold sb
  rcases Nat.lt_or_ge i s.data.toList.length with h | h
  · simp only [List.getD, List.getElem?_map, List.getElem?_eq_getElem h, Option.map_some, Option.getD_some]
    exact UInt8.toNat_lt _
  · simp [List.getD, List.getElem?_eq_none h]
theorem index_str (s : ByteArray) (k : IntKind) (i : Int) (n : Nat) (hi : i = n) (hn : n < s.size) (w : World) :
    (Instr.index 9 (.string s) (.int k i)).run Tryd.prog w = .ok (.int .u8 (((sb s).getD n 0 : Nat) : Int)) w := by
  subst hi
  rw [run_index_string w 9 _ k _ Tryd.underlying9, dif_pos ⟨by omega, by omega⟩]
  congr 2
  have h : n < s.data.toList.length := hn
  have e : (sb s).getD n 0 = (s.data.toList[n]).toNat := by
    simp only [sb, List.getD, List.getElem?_map, List.getElem?_eq_getElem h, Option.map_some, Option.getD_some]
  rw [e]; rfl
theorem results_row_tmp {P : Program} {fn : Func} {p u : Tmp} {ty : TypeId} (h : fn.results = #[.cell p ty, .tmp u]) (tmps : Array Value) (w : World) (g : Nat) (t : TypeId) (cs : Array Value) (fr : Nat × Nat) (d : TypeDesc) (v : Value)
    (hp : tmps.getD p undef = .pointer (some ⟨g, 0, none⟩)) (hg : w.heap[g]? = some (.cells cs t fr))
    (hu : P.underlying ty = some d) (hd : (match d with | .struct _ | .array _ _ => true | _ => false) = true) (hi : (P.info? ty).map (·.size) = some cs.size) (hv : tmps.getD u undef = v) :
    (results fn tmps).run P w = .ok (.tuple #[.agg cs, v]) w := by
  have hp' : tmps[p]?.getD undef = .pointer (some ⟨g, 0, none⟩) := by simpa using hp
  have hv' : tmps[u]?.getD undef = v := by simpa using hv
  simp [results, h, hp', hv', asAddr, run_loadVar_row w g t ty cs fr d hg hu hd hi]
structure UnxW (w : World) (l : List Nat) (k : Nat) (wr : World) : Prop where
  res : ∃ cs, cs.size = 32 ∧ Blk wr w.heap.size 27 cs
  row : Blk wr (w.heap.size+1) 27 (u8s ((Sha.unhex l).take k ++ List.replicate (32 - k) 0))
  bel : Below w.heap.size w wr
theorem UnxW.start (w : World) (l : List Nat) : UnxW w l 0 ((w.alloc (.cells (u8s (List.replicate 32 0)) 27)).alloc (.cells (u8s (List.replicate 32 0)) 27)) := by
  refine ⟨⟨_, by rw [u8s_size]; rfl, (Blk.new w _ _).alloc _⟩, ?_, ?_⟩
  · have h := Blk.new (w.alloc (.cells (u8s (List.replicate 32 0)) 27)) 27 (u8s (List.replicate 32 0))
    have e : (w.alloc (.cells (u8s (List.replicate 32 0)) 27)).heap.size = w.heap.size + 1 := by simp
    rw [e] at h
    exact h
  · refine ((Below.refl _ _).alloc (Nat.le_refl _) _).alloc ?_ _; simp
theorem UnxW.put {w : World} {l : List Nat} {k : Nat} {wr : World} (h : UnxW w l k wr) (hk : k < 32) {v : Int} (hv : v = ((Sha.unhex l).getD k 0 : Nat)) :
    UnxW w l (k + 1) (wr.setCell ⟨w.heap.size + 1, k, none⟩ (.int .u8 v)) := by
  obtain ⟨cs, hz, hc⟩ := h.res
  refine ⟨⟨cs, hz, hc.far (by simp) _⟩, ?_, h.bel.setCell (p := ⟨w.heap.size + 1, k, none⟩) (by show w.heap.size ≤ w.heap.size + 1; omega) _⟩
  have h1 := h.row.set_ k (.int .u8 v)
  rw [hv, u8s_set, fill_take (Sha.unhex_len l) hk _ rfl] at h1
  rw [hv]
  exact h1
theorem or_figs : ∀ a b : Fin 16, bits .or .i64 ((a.val : Int) * 16) (b.val : Int) = a.val * 16 + b.val := by decide +kernel
theorem or_fig {a b : Int} (ha : 0 ≤ a) (ha' : a < 16) (hb : 0 ≤ b) (hb' : b < 16) : bits .or .i64 (a * 16) b = a * 16 + b := by
  obtain ⟨n, rfl⟩ := Int.eq_ofNat_of_zero_le ha
  obtain ⟨m, rfl⟩ := Int.eq_ofNat_of_zero_le hb
  exact or_figs ⟨n, by omega⟩ ⟨m, by omega⟩
def UnxPost (s : ByteArray) (a : Addr) (w : World) (e : Ending) (w' : World) : Prop :=
  (Sha.good (sb s) → e = .returned (.tuple #[.agg (u8s (Sha.unhex (sb s))), .nilIface])) ∧ (¬ Sha.good (sb s) → e = .returned (.tuple #[.agg (u8s (List.replicate 32 0)), ev a])) ∧ Below w.heap.size w w'
set_option maxRecDepth 100000 in
theorem unhex_any (s : ByteArray) (w : World) (hl : s.size = 64) (a : Addr) (ha : w.cell? ⟨1, 0, none⟩ = some (ev a)) :
    Calls Tryd.prog 17 #[.string s] w (UnxPost s a w) := by
  have hn : ((s.size : Int) != 64) = false := by rw [hl]; rfl
  have HLEN := Lib.hid hl
  have hgl := block_lt_of_cell ha
  have HA := Lib.hid ha
  clear hl ha
  go_enter Tryd.func17, Tryd.ntmps17
  go_wp2_with fail
  go_loopw [13] (fun i wr => ∃ k : Nat, k ≤ 32 ∧ i = .int .i64 k ∧ UnxW w (sb s) k wr ∧ ∀ i, i < 2 * k → 0 ≤ Sha.fgI ((sb s).getD i 0)) (fun i _ => 32 - (intOf i).toNat)
  case atStart => exact ⟨0, by omega, rfl, UnxW.start w (sb s), fun i hi => by omega⟩
  case round =>
    obtain ⟨k, hk, rfl, hJ, hg⟩ := hrel
    have HG := Lib.hid hg
    clear hg
    by_cases hlt : k < 32
    · have hsz : s.size = 64 := HLEN.out
      have HV := Lib.hid (Sha.unhex_get (sb s) k hlt)
      have b1 := sb_byte s (2 * k)
      have b2 := sb_byte s (2 * k + 1)
      have i0 : (0 : Int) ≤ ((k : Nat) : Int) := by omega
      have i1 : ((k : Nat) : Int) < 32 := by omega
      have hx1 : ∀ w', (Instr.index 9 (.string s) (.int .i64 (2 * ((k : Nat) : Int)))).run Tryd.prog w' = .ok (.int .u8 (((sb s).getD (2 * k) 0 : Nat) : Int)) w' := fun w' => index_str s _ _ _ (by omega) (by omega) w'
      have hx2 : ∀ w', (Instr.index 9 (.string s) (.int .i64 (2 * ((k : Nat) : Int) + 1))).run Tryd.prog w' = .ok (.int .u8 (((sb s).getD (2 * k + 1) 0 : Nat) : Int)) w' := fun w' => index_str s _ _ _ (by omega) (by omega) w'
      clear hsz
      obtain ⟨c1, hc1⟩ : ∃ c, c = (sb s).getD (2 * k) 0 := ⟨_, rfl⟩
      obtain ⟨c2, hc2⟩ : ∃ c, c = (sb s).getD (2 * k + 1) 0 := ⟨_, rfl⟩
      rw [← hc1] at b1 hx1
      rw [← hc2] at b2 hx2
      have HC1 := Lib.hid hc1
      have HC2 := Lib.hid hc2
      clear hc1 hc2
      have e1 := hJ.row.cell k
      rw [u8s_get _ _ (by simp [Sha.unhex_len]; omega)] at e1
      generalize ((Sha.unhex (sb s)).take k ++ List.replicate (32 - k) 0).getD k 0 = y at e1
      have e2 := hJ.row.frozen k
      have l1 := Sha.fgI_hi c1
      have l2 := Sha.fgI_hi c2
      rcases Int.lt_or_le (Sha.fgI c1) 0 with n1 | n1
      · have HB : Hid (¬ Sha.good (sb s)) := Lib.hid fun h => by have := h (2 * k) (by omega); rw [← HC1.out] at this; omega
        have hcg := (hJ.bel.cell (p := ⟨1, 0, none⟩) hgl).trans HA.out
        obtain ⟨cs, hz, hres⟩ := hJ.res
        have HZ := Lib.hid hz
        have HRES := Lib.hid hres
        clear hz hres
        have hbel := hJ.bel
        obtain ⟨zs, hzs⟩ : ∃ zs, zs = u8s (List.replicate 32 0) := ⟨_, rfl⟩
        have HZL := Lib.hid (show zs.size = 32 by rw [hzs, u8s_size]; rfl)
        have HZO := Lib.hid (show zs.all (·.oneCell') = true by rw [hzs]; exact u8s_one _)
        have HZS := Lib.hid hzs
        clear hzs
        have hcg2 : (wr.drew.setRow w.heap.size zs).cell? ⟨1, 0, none⟩ = some (ev a) := ((below_row (below_drewN hbel 1) (Nat.le_refl _) zs).cell (p := ⟨1, 0, none⟩) hgl).trans HA.out
        go_wp2_with fail
        refine (ixb_any c1 b1 _).mono ?_
        rintro e w2 ⟨rfl, rfl⟩
        go_wp2_with fail
        refine (ixb_any c2 b2 _).mono ?_
        rintro e w2 ⟨rfl, rfl⟩
        go_wp2_with fail
        refine wp_region_any (by kernel_rfl) ?_
        change wpAny _ _ _ _ _ _ _ w2.drew
        refine wpAny_take (i := 0) (v := .agg zs) rfl (by kernel_rfl) (by kernel_rfl) (by kernel_rfl) (fun _ _ _ h => h) (Or.inl ⟨by rfl, fun _ => by rw [HZS.out]; kernel_rfl⟩) ?_
        simp only [Act.put, List.getElem_toArray, List.getElem_cons_zero, List.getElem_cons_succ, List.setIfInBounds_toArray, List.set_cons_zero, List.set_cons_succ]
        refine wpAny_ready (rs := [1, 2]) (by kernel_rfl) (by simp) ?_
        refine AllReady.cons rfl (fun K hK => ?_) (AllReady.cons rfl (fun K hK => ?_) AllReady.nil)
        · skip
          rw [if_pos (by rfl)]
          go_simp
          refine hK _ _ ?_; clear hK K
          try simp only [Act.put, List.getElem_toArray, List.getElem_cons_zero, List.getElem_cons_succ, List.setIfInBounds_toArray, List.set_cons_zero, List.set_cons_succ]
          refine wpAny_ready (rs := [2]) (by kernel_rfl) (by simp) ?_
          refine AllReady.cons rfl (fun K hK => ?_) AllReady.nil
          rw [if_pos (by rfl)]
          refine wp_store_row 27 _ _ rfl w.heap.size zs rfl rfl 27 _ HRES.out.drew (by rw [HZL.out]; exact oid_info) (by rw [HZL.out]; exact HZ.out) (HZO.out) ?_
          refine hK _ _ ?_; clear hK K
          try simp only [Act.put, List.getElem_toArray, List.getElem_cons_zero, List.getElem_cons_succ, List.setIfInBounds_toArray, List.set_cons_zero, List.set_cons_succ]
          refine wpAny_ready (rs := [3]) (by kernel_rfl) (by simp) ?_
          refine AllReady.cons rfl (fun K hK => ?_) AllReady.nil
          rw [if_pos (by rfl)]
          go_simp
          refine hK _ _ ?_; clear hK K
          try simp only [Act.put, List.getElem_toArray, List.getElem_cons_zero, List.getElem_cons_succ, List.setIfInBounds_toArray, List.set_cons_zero, List.set_cons_succ]
          refine wpAny_done (by kernel_rfl) ?_ _
          go_wp2_with fail
          refine bodyPost_ret (v := .tuple #[.agg zs, ev a]) (results_row_tmp rfl _ _ w.heap.size 27 _ (0, 0) _ _ rfl (HRES.out.drew.row _) Tryd.underlying27 rfl (by rw [HZL.out]; exact oid_info) rfl) rfl ?_
          exact ⟨fun h => absurd h HB.out, fun _ => by rw [HZS.out], (below_row (below_drewN hbel 1) (Nat.le_refl _) _)⟩
        · skip
          rw [if_pos (by rfl)]
          refine wp_store_row 27 _ _ rfl w.heap.size zs rfl rfl 27 _ HRES.out.drew (by rw [HZL.out]; exact oid_info) (by rw [HZL.out]; exact HZ.out) (HZO.out) ?_
          refine hK _ _ ?_; clear hK K
          try simp only [Act.put, List.getElem_toArray, List.getElem_cons_zero, List.getElem_cons_succ, List.setIfInBounds_toArray, List.set_cons_zero, List.set_cons_succ]
          refine wpAny_ready (rs := [1]) (by kernel_rfl) (by simp) ?_
          refine AllReady.cons rfl (fun K hK => ?_) AllReady.nil
          rw [if_pos (by rfl)]
          go_simp
          refine hK _ _ ?_; clear hK K
          try simp only [Act.put, List.getElem_toArray, List.getElem_cons_zero, List.getElem_cons_succ, List.setIfInBounds_toArray, List.set_cons_zero, List.set_cons_succ]
          refine wpAny_ready (rs := [3]) (by kernel_rfl) (by simp) ?_
          refine AllReady.cons rfl (fun K hK => ?_) AllReady.nil
          rw [if_pos (by rfl)]
          go_simp
          refine hK _ _ ?_; clear hK K
          try simp only [Act.put, List.getElem_toArray, List.getElem_cons_zero, List.getElem_cons_succ, List.setIfInBounds_toArray, List.set_cons_zero, List.set_cons_succ]
          refine wpAny_done (by kernel_rfl) ?_ _
          go_wp2_with fail
          refine bodyPost_ret (v := .tuple #[.agg zs, ev a]) (results_row_tmp rfl _ _ w.heap.size 27 _ (0, 0) _ _ rfl (HRES.out.drew.row _) Tryd.underlying27 rfl (by rw [HZL.out]; exact oid_info) rfl) rfl ?_
          exact ⟨fun h => absurd h HB.out, fun _ => by rw [HZS.out], (below_row (below_drewN hbel 1) (Nat.le_refl _) _)⟩
      rcases Int.lt_or_le (Sha.fgI c2) 0 with n2 | n2
      · have HB : Hid (¬ Sha.good (sb s)) := Lib.hid fun h => by have := h (2 * k + 1) (by omega); rw [← HC2.out] at this; omega
        have hcg := (hJ.bel.cell (p := ⟨1, 0, none⟩) hgl).trans HA.out
        obtain ⟨cs, hz, hres⟩ := hJ.res
        have HZ := Lib.hid hz
        have HRES := Lib.hid hres
        clear hz hres
        have hbel := hJ.bel
        obtain ⟨zs, hzs⟩ : ∃ zs, zs = u8s (List.replicate 32 0) := ⟨_, rfl⟩
        have HZL := Lib.hid (show zs.size = 32 by rw [hzs, u8s_size]; rfl)
        have HZO := Lib.hid (show zs.all (·.oneCell') = true by rw [hzs]; exact u8s_one _)
        have HZS := Lib.hid hzs
        clear hzs
        have hcg2 : (wr.drew.setRow w.heap.size zs).cell? ⟨1, 0, none⟩ = some (ev a) := ((below_row (below_drewN hbel 1) (Nat.le_refl _) zs).cell (p := ⟨1, 0, none⟩) hgl).trans HA.out
        go_wp2_with fail
        refine (ixb_any c1 b1 _).mono ?_
        rintro e w2 ⟨rfl, rfl⟩
        go_wp2_with fail
        refine (ixb_any c2 b2 _).mono ?_
        rintro e w2 ⟨rfl, rfl⟩
        go_wp2_with fail
        refine wp_region_any (by kernel_rfl) ?_
        change wpAny _ _ _ _ _ _ _ w2.drew
        refine wpAny_take (i := 0) (v := .agg zs) rfl (by kernel_rfl) (by kernel_rfl) (by kernel_rfl) (fun _ _ _ h => h) (Or.inl ⟨by rfl, fun _ => by rw [HZS.out]; kernel_rfl⟩) ?_
        simp only [Act.put, List.getElem_toArray, List.getElem_cons_zero, List.getElem_cons_succ, List.setIfInBounds_toArray, List.set_cons_zero, List.set_cons_succ]
        refine wpAny_ready (rs := [1, 2]) (by kernel_rfl) (by simp) ?_
        refine AllReady.cons rfl (fun K hK => ?_) (AllReady.cons rfl (fun K hK => ?_) AllReady.nil)
        · skip
          rw [if_pos (by rfl)]
          go_simp
          refine hK _ _ ?_; clear hK K
          try simp only [Act.put, List.getElem_toArray, List.getElem_cons_zero, List.getElem_cons_succ, List.setIfInBounds_toArray, List.set_cons_zero, List.set_cons_succ]
          refine wpAny_ready (rs := [2]) (by kernel_rfl) (by simp) ?_
          refine AllReady.cons rfl (fun K hK => ?_) AllReady.nil
          rw [if_pos (by rfl)]
          refine wp_store_row 27 _ _ rfl w.heap.size zs rfl rfl 27 _ HRES.out.drew (by rw [HZL.out]; exact oid_info) (by rw [HZL.out]; exact HZ.out) (HZO.out) ?_
          refine hK _ _ ?_; clear hK K
          try simp only [Act.put, List.getElem_toArray, List.getElem_cons_zero, List.getElem_cons_succ, List.setIfInBounds_toArray, List.set_cons_zero, List.set_cons_succ]
          refine wpAny_ready (rs := [3]) (by kernel_rfl) (by simp) ?_
          refine AllReady.cons rfl (fun K hK => ?_) AllReady.nil
          rw [if_pos (by rfl)]
          go_simp
          refine hK _ _ ?_; clear hK K
          try simp only [Act.put, List.getElem_toArray, List.getElem_cons_zero, List.getElem_cons_succ, List.setIfInBounds_toArray, List.set_cons_zero, List.set_cons_succ]
          refine wpAny_done (by kernel_rfl) ?_ _
          go_wp2_with fail
          refine bodyPost_ret (v := .tuple #[.agg zs, ev a]) (results_row_tmp rfl _ _ w.heap.size 27 _ (0, 0) _ _ rfl (HRES.out.drew.row _) Tryd.underlying27 rfl (by rw [HZL.out]; exact oid_info) rfl) rfl ?_
          exact ⟨fun h => absurd h HB.out, fun _ => by rw [HZS.out], (below_row (below_drewN hbel 1) (Nat.le_refl _) _)⟩
        · skip
          rw [if_pos (by rfl)]
          refine wp_store_row 27 _ _ rfl w.heap.size zs rfl rfl 27 _ HRES.out.drew (by rw [HZL.out]; exact oid_info) (by rw [HZL.out]; exact HZ.out) (HZO.out) ?_
          refine hK _ _ ?_; clear hK K
          try simp only [Act.put, List.getElem_toArray, List.getElem_cons_zero, List.getElem_cons_succ, List.setIfInBounds_toArray, List.set_cons_zero, List.set_cons_succ]
          refine wpAny_ready (rs := [1]) (by kernel_rfl) (by simp) ?_
          refine AllReady.cons rfl (fun K hK => ?_) AllReady.nil
          rw [if_pos (by rfl)]
          go_simp
          refine hK _ _ ?_; clear hK K
          try simp only [Act.put, List.getElem_toArray, List.getElem_cons_zero, List.getElem_cons_succ, List.setIfInBounds_toArray, List.set_cons_zero, List.set_cons_succ]
          refine wpAny_ready (rs := [3]) (by kernel_rfl) (by simp) ?_
          refine AllReady.cons rfl (fun K hK => ?_) AllReady.nil
          rw [if_pos (by rfl)]
          go_simp
          refine hK _ _ ?_; clear hK K
          try simp only [Act.put, List.getElem_toArray, List.getElem_cons_zero, List.getElem_cons_succ, List.setIfInBounds_toArray, List.set_cons_zero, List.set_cons_succ]
          refine wpAny_done (by kernel_rfl) ?_ _
          go_wp2_with fail
          refine bodyPost_ret (v := .tuple #[.agg zs, ev a]) (results_row_tmp rfl _ _ w.heap.size 27 _ (0, 0) _ _ rfl (HRES.out.drew.row _) Tryd.underlying27 rfl (by rw [HZL.out]; exact oid_info) rfl) rfl ?_
          exact ⟨fun h => absurd h HB.out, fun _ => by rw [HZS.out], (below_row (below_drewN hbel 1) (Nat.le_refl _) _)⟩
      · have HNEW : Hid (∀ i, i < 2 * (k + 1) → 0 ≤ Sha.fgI ((sb s).getD i 0)) := Lib.hid fun i hi => by
          rcases Nat.lt_or_ge i (2 * k) with h | h
          · exact HG.out i h
          · rcases (show i = 2 * k ∨ i = 2 * k + 1 by omega) with rfl | rfl
            · rw [← HC1.out]; exact n1
            · rw [← HC2.out]; exact n2
        have HOR := Lib.hid (or_fig n1 l1 n2 l2)
        go_wp2_with fail
        refine (ixb_any c1 b1 _).mono ?_
        rintro e w2 ⟨rfl, rfl⟩
        go_wp2_with fail
        refine (ixb_any c2 b2 _).mono ?_
        rintro e w2 ⟨rfl, rfl⟩
        go_wp2_with fail
        go_roundw
        case rel => exact ⟨k + 1, by omega, by go_num, hJ.put hlt (by rw [HV.out, HOR.out, ← HC1.out, ← HC2.out]; unfold Sha.fgN; omega), HNEW.out⟩
        case measure => simp [intOf]; omega
    · have HK := Lib.hid (show k = 32 by omega)
      have HGG : Hid (Sha.good (sb s)) := Lib.hid fun i hi => HG.out i (by omega)
      have HR : Hid (Blk wr (w.heap.size + 1) 27 (u8s (Sha.unhex (sb s)))) := by
        have h := hJ.row
        rw [HK.out, List.take_of_length_le (by rw [Sha.unhex_len]; omega), show List.replicate (32 - 32) 0 = ([] : List Nat) from rfl, List.append_nil] at h
        exact Lib.hid h
      have HL := Lib.hid (show (u8s (Sha.unhex (sb s))).size = 32 by rw [u8s_size, Sha.unhex_len])
      have hbel := hJ.bel
      obtain ⟨cs, hz, hres⟩ := hJ.res
      have HC := Lib.hid hres
      have HZ := Lib.hid hz
      clear hz hres
      go_wp2_with (first | (refine wpList_load_row rfl 27 (.tmp 4) rfl (w.heap.size + 1) rfl 27 _ (0,0) _ HR.out Tryd.underlying27 rfl (by rw [HL.out]; exact oid_info) ?_) | (refine wpList_store_row rfl 27 (.tmp 2) (.tmp 43) rfl w.heap.size _ rfl rfl 27 _ HC.out (by rw [HL.out]; exact oid_info) (by rw [HL.out]; exact HZ.out) (u8s_one _) ?_))
      refine bodyPost_ret (v := .tuple #[.agg (u8s (Sha.unhex (sb s))), .nilIface]) (results_row_tmp rfl _ _ w.heap.size 27 _ (0, 0) _ _ rfl (HC.out.row _) Tryd.underlying27 rfl (by rw [HL.out]; exact oid_info) rfl) rfl ?_
      exact ⟨fun _ => rfl, fun h => absurd HGG.out h, below_row hbel (Nat.le_refl _) _⟩
end Go.Proofs.YtmfdahigfnhidaaDoor
