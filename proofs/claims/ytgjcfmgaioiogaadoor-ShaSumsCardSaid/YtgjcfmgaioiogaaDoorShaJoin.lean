/- The walks of a digest's bytes (sha.join) and of its figures (sha.Hex). -/
import Derived.Test.YtgjcfmgaioiogaaDoorShaMix
namespace Go.Proofs.YtgjcfmgaioiogaaDoor
open Go Go.RowKit
structure JoinW (w : World) (ws : List Nat) (k : Nat) (wr : World) : Prop where
  src : Blk wr w.heap.size 65 (u32s ws)
  res : ∃ cs, cs.size = 32 ∧ Blk wr (w.heap.size+1) 27 cs
  row : Blk wr (w.heap.size+1+1) 27 (u8s ((Sha.join ws).take k ++ List.replicate (32 - k) 0))
  bel : Below w.heap.size w wr
theorem JoinW.start (w : World) (ws : List Nat) : JoinW w ws 0 (((w.alloc (.cells (u32s ws) 65)).alloc (.cells (u8s (List.replicate 32 0)) 27)).alloc (.cells (u8s (List.replicate 32 0)) 27)) := by
  have hbel : Below w.heap.size w (((w.alloc (.cells (u32s ws) 65)).alloc (.cells (u8s (List.replicate 32 0)) 27)).alloc (.cells (u8s (List.replicate 32 0)) 27)) := by
    refine (((Below.refl _ _).alloc (Nat.le_refl _) _).alloc ?_ _).alloc ?_ _ <;> simp <;> omega
  refine ⟨((Blk.new w _ _).alloc _).alloc _, ⟨u8s (List.replicate 32 0), by rw [u8s_size]; rfl, ?_⟩, ?_, hbel⟩
  · have h := (Blk.new (w.alloc (.cells (u32s ws) 65)) 27 (u8s (List.replicate 32 0))).alloc (.cells (u8s (List.replicate 32 0)) 27)
    simpa using h
  · have h := Blk.new ((w.alloc (.cells (u32s ws) 65)).alloc (.cells (u8s (List.replicate 32 0)) 27)) 27 (u8s (List.replicate 32 0))
    have e : ((w.alloc (.cells (u32s ws) 65)).alloc (.cells (u8s (List.replicate 32 0)) 27)).heap.size = w.heap.size + 1 + 1 := by simp
    rw [e] at h
    exact h
/-- the first k of a row of n are those of l -/
theorem fill_take {l : List Nat} {n k : Nat} (hl : l.length = n) (hk : k < n) (x : Nat) (hx : x = l.getD k 0) : (l.take k ++ List.replicate (n - k) 0).set k x = l.take (k + 1) ++ List.replicate (n - (k + 1)) 0 := by
  have e := fill_set (l.take k) (n - (k + 1)) x
  rw [List.length_take, Nat.min_eq_left (by omega)] at e
  rw [show n - k = n - (k + 1) + 1 by omega, e, hx]
  congr 1
  rw [List.take_add_one]
  simp [List.getD, show k < l.length by omega]
theorem JoinW.put {w : World} {ws : List Nat} {k : Nat} {wr : World} (h : JoinW w ws k wr) (hk : k < 32) {v : Int} (hv : v = ((Sha.join ws).getD k 0 : Nat)) :
    JoinW w ws (k + 1) (wr.setCell ⟨w.heap.size + 1 + 1, k, none⟩ (.int .u8 v)) := by
  obtain ⟨cs, hz, hc⟩ := h.res
  refine ⟨h.src.far (by simp; omega) _, ⟨cs, hz, hc.far (by simp) _⟩, ?_, h.bel.setCell (p := ⟨w.heap.size + 1 + 1, k, none⟩) (by show w.heap.size ≤ w.heap.size + 1 + 1; omega) _⟩
  have h1 := h.row.set_ k (.int .u8 v)
  rw [hv, u8s_set, fill_take (Sha.join_len ws) hk _ rfl] at h1
  rw [hv]
  exact h1
theorem oid_info : (Tryd.prog.info? 27).map (·.size) = some 32 := by kernel_rfl
set_option maxRecDepth 100000 in
theorem join_any (ws : List Nat) (w : World) (hx : ws.length = 8) (hw : Sha.W32 ws) :
    Calls Tryd.prog 56 #[.agg (u32s ws)] w fun e w' => e = .returned (.agg (u8s (Sha.join ws))) ∧ Below w.heap.size w w' := by
  go_enter Tryd.func56, Tryd.ntmps56
  go_wp2
  go_loopw [5] (fun i wr => ∃ k : Nat, k ≤ 32 ∧ i = .int .i64 k ∧ JoinW w ws k wr) (fun i _ => 32 - (intOf i).toNat)
  case atStart => exact ⟨0, by omega, rfl, JoinW.start w ws⟩
  case round =>
    obtain ⟨k, hk, rfl, hJ⟩ := hrel
    by_cases hlt : k < 32
    · have e0 := hJ.src.cell (k/4)
      rw [u32s_get _ _ (by omega)] at e0
      have b0 := hw (k/4)
      have HJ := Lib.hid (Sha.join_get ws k hlt)
      generalize ws.getD (k/4) 0 = x at e0 b0 HJ
      have e1 := hJ.row.cell k
      rw [u8s_get _ _ (by simp [Sha.join_len]; omega)] at e1
      generalize ((Sha.join ws).take k ++ List.replicate (32 - k) 0).getD k 0 = y at e1
      have e2 := hJ.row.frozen k
      have i0 : (0 : Int) ≤ ((k : Nat) : Int) := by omega
      have i1 : ((k : Nat) : Int) < 32 := by omega
      have i2 : (0 : Int) ≤ 24 - 8 * (((k : Nat) : Int) % 4) := by omega
      have i3 : 24 - 8 * (((k : Nat) : Int) % 4) < 32 := by omega
      have i4 : ((k : Nat) : Int) / 4 < 8 := by omega
      have i5 : (0 : Int) ≤ ((k : Nat) : Int) / 4 := by omega
      go_wp2
      go_roundw
      case rel => exact ⟨k + 1, by omega, by go_num, hJ.put hlt (by rw [HJ.out]; simp)⟩
      case measure => simp [intOf]; omega
    · have HK := Lib.hid (show k = 32 by omega)
      have HR : Hid (Blk wr (w.heap.size + 1 + 1) 27 (u8s (Sha.join ws))) := by
        have h := hJ.row
        rw [HK.out, List.take_of_length_le (by rw [Sha.join_len]; omega), show List.replicate (32 - 32) 0 = ([] : List Nat) from rfl, List.append_nil] at h
        exact Lib.hid h
      have HL := Lib.hid (show (u8s (Sha.join ws)).size = 32 by rw [u8s_size, Sha.join_len])
      have hbel := hJ.bel
      obtain ⟨cs, hz, hres⟩ := hJ.res
      have HC := Lib.hid hres
      have HZ := Lib.hid hz
      clear hz hres
      go_wp2_with (first | (refine wpList_load_row rfl 27 (.tmp 3) rfl (w.heap.size + 1 + 1) rfl 27 _ (0,0) _ HR.out Tryd.underlying27 rfl (by rw [HL.out]; exact oid_info) ?_) | (refine wpList_store_row rfl 27 (.tmp 2) (.tmp 21) rfl (w.heap.size + 1) _ rfl rfl 27 _ HC.out (by rw [HL.out]; exact oid_info) (by rw [HL.out]; exact HZ.out) (u8s_one _) ?_))
      exact bodyPost_ret (v := .agg (u8s (Sha.join ws))) (results_cell_row rfl _ _ (w.heap.size + 1) 27 _ (0, 0) _ rfl (HC.out.row _) Tryd.underlying27 rfl (by rw [HL.out]; exact oid_info)) rfl ⟨rfl, below_row hbel (by omega) _⟩
/-- the figures' text, indexed -/
theorem index_fig (k : IntKind) (i : Int) (n : Nat) (hi : i = n) (hn : n < 16) (w : World) :
    (Instr.index 9 (.string ⟨#[48, 49, 50, 51, 52, 53, 54, 55, 56, 57, 97, 98, 99, 100, 101, 102]⟩) (.int k i)).run Tryd.prog w = .ok (.int .u8 ((Sha.fig n : Nat) : Int)) w := by
  rw [run_index_string w 9 _ k i Tryd.underlying9, dif_pos ⟨by omega, by rw [hi]; show (n : Int) < 16; omega⟩]
  subst hi
  congr 2
  have h : ∀ m : Fin 16, (((⟨#[48, 49, 50, 51, 52, 53, 54, 55, 56, 57, 97, 98, 99, 100, 101, 102]⟩ : ByteArray)[m.val]'(by show m.val < 16; exact m.isLt)).toNat : Int) = ((Sha.fig m.val : Nat) : Int) := by decide
  exact h ⟨n, hn⟩
structure HexW (w : World) (bs : List Nat) (k : Nat) (wr : World) : Prop where
  src : Blk wr w.heap.size 27 (u8s bs)
  row : Blk wr (w.heap.size+1) 66 (u8s ((Sha.hex bs).take k ++ List.replicate (64 - k) 0))
  bel : Below w.heap.size w wr
theorem HexW.start (w : World) (bs : List Nat) : HexW w bs 0 ((w.alloc (.cells (u8s bs) 27)).alloc (.cells (u8s (List.replicate 64 0)) 66)) := by
  have hbel : Below w.heap.size w ((w.alloc (.cells (u8s bs) 27)).alloc (.cells (u8s (List.replicate 64 0)) 66)) := by
    refine ((Below.refl _ _).alloc (Nat.le_refl _) _).alloc ?_ _ <;> simp
  refine ⟨(Blk.new w _ _).alloc _, ?_, hbel⟩
  have h := Blk.new (w.alloc (.cells (u8s bs) 27)) 66 (u8s (List.replicate 64 0))
  have e : (w.alloc (.cells (u8s bs) 27)).heap.size = w.heap.size + 1 := by simp
  rw [e] at h
  exact h
theorem HexW.put {w : World} {bs : List Nat} {k : Nat} {wr : World} (h : HexW w bs k wr) (hb : bs.length = 32) (hk : k < 64) {v : Int} (hv : v = ((Sha.hex bs).getD k 0 : Nat)) :
    HexW w bs (k + 1) (wr.setCell ⟨w.heap.size + 1, k, none⟩ (.int .u8 v)) := by
  refine ⟨h.src.far (by simp) _, ?_, h.bel.setCell (p := ⟨w.heap.size + 1, k, none⟩) (by show w.heap.size ≤ w.heap.size + 1; omega) _⟩
  have h1 := h.row.set_ k (.int .u8 v)
  rw [hv, u8s_set, fill_take (by rw [Sha.hex_len, hb]) hk _ rfl] at h1
  rw [hv]
  exact h1
set_option maxRecDepth 100000 in
theorem hex_any (bs : List Nat) (w : World) (hx : bs.length = 32) (hw : Sha.Byte bs) :
    Calls Tryd.prog 25 #[.agg (u8s bs)] w fun e w' => e = .returned (.string (textOf (Sha.hex bs))) ∧ Below w.heap.size w w' := by
  have HS := Lib.hid (HexW.start w bs)
  have HL := Lib.hid (show (u8s bs).size = 32 by rw [u8s_size, hx])
  go_enter Tryd.func25, Tryd.ntmps25
  go_wp2_with (first | (refine wpList_load_row rfl 27 (.tmp 1) rfl (w.heap.size) rfl 27 (u8s bs) (0,0) _ HS.out.src Tryd.underlying27 rfl (by rw [HL.out]; exact oid_info) ?_))
  change Code.wp _ _ _ _ ((w.alloc (.cells (u8s bs) 27)).alloc (.cells (u8s (List.replicate 64 0)) 66))
  generalize (w.alloc (.cells (u8s bs) 27)).alloc (.cells (u8s (List.replicate 64 0)) 66) = w1 at HS ⊢
  go_loopw [7] (fun i wr => ∃ k : Nat, k ≤ 32 ∧ i = .int .i64 k ∧ HexW w bs (2 * k) wr) (fun i _ => 32 - (intOf i).toNat)
  case atStart => exact ⟨0, by omega, rfl, HS.out⟩
  case round =>
    obtain ⟨k, hk, rfl, hJ⟩ := hrel
    by_cases hlt : k < 32
    · have b0 := hw k
      have HE := Lib.hid (Sha.hex_even bs k (by omega))
      have HO := Lib.hid (Sha.hex_odd bs k (by omega))
      have hix : ∀ w', (Instr.index 27 (.agg (u8s bs)) (.int .i64 k)).run Tryd.prog w' = .ok (.int .u8 ((bs.getD k 0 : Nat) : Int)) w' := fun w' =>
        run_indexArr (n := 32) Tryd.underlying27 Tryd.underlying5 (by kernel_rfl) _ k _ hlt (u8s_get _ _ (by omega)) _ rfl w'
      generalize bs.getD k 0 = x at b0 HE HO hix
      have hf1 : ∀ w', (Instr.index 9 (.string ⟨#[48, 49, 50, 51, 52, 53, 54, 55, 56, 57, 97, 98, 99, 100, 101, 102]⟩) (.int .u8 ((x : Int) / 16))).run Tryd.prog w' = .ok (.int .u8 ((Sha.fig (x / 16) : Nat) : Int)) w' := fun w' =>
        index_fig _ _ (x / 16) (by omega) (by omega) w'
      have hf2 : ∀ w', (Instr.index 9 (.string ⟨#[48, 49, 50, 51, 52, 53, 54, 55, 56, 57, 97, 98, 99, 100, 101, 102]⟩) (.int .u8 ((x : Int) % 16))).run Tryd.prog w' = .ok (.int .u8 ((Sha.fig (x % 16) : Nat) : Int)) w' := fun w' =>
        index_fig _ _ (x % 16) (by omega) (by omega) w'
      have e2 := hJ.row.cell (2 * k)
      rw [u8s_get _ _ (by simp [Sha.hex_len]; omega)] at e2
      have e3 := hJ.row.cell (2 * k + 1)
      rw [u8s_get _ _ (by simp [Sha.hex_len]; omega)] at e3
      generalize ((Sha.hex bs).take (2 * k) ++ List.replicate (64 - 2 * k) 0).getD (2 * k) 0 = y2 at e2
      generalize ((Sha.hex bs).take (2 * k) ++ List.replicate (64 - 2 * k) 0).getD (2 * k + 1) 0 = y3 at e3
      have f2 := hJ.row.frozen (2 * k)
      have f3 := hJ.row.frozen (2 * k + 1)
      have i0 : (0 : Int) ≤ ((k : Nat) : Int) := by omega
      have i1 : ((k : Nat) : Int) < 32 := by omega
      have i2 : 2 * ((k : Nat) : Int) < 64 := by omega
      have i3 : 2 * ((k : Nat) : Int) + 1 < 64 := by omega
      go_wp2
      go_roundw
      case rel => exact ⟨k + 1, by omega, by go_num, (hJ.put hx (by omega) (by rw [HE.out])).put hx (by omega) (by rw [HO.out])⟩
      case measure => simp [intOf]; omega
    · have HK := Lib.hid (show k = 32 by omega)
      have hbel := hJ.bel
      have hcv : ∀ (dst : TypeId), Tryd.prog.underlying dst = some .string → (convert 24 dst (.slice (some ⟨w.heap.size + 1, 0, none⟩) 64 64)).run Tryd.prog wr = .ok (.string (textOf (Sha.hex bs))) wr := fun dst hd => by
        refine run_text wr 24 dst 5 Tryd.underlying24 Tryd.underlying5 hd (w.heap.size + 1) 0 64 64 _ (by rw [Sha.hex_len, hx]) (fun i hi => ?_)
        rw [Nat.zero_add, hJ.row.cell i, HK.out, u8s_get _ _ (by simp [Sha.hex_len]; omega), List.take_of_length_le (by rw [Sha.hex_len, hx]; omega)]
        simp
      have hcv2 := hcv 9 Tryd.underlying9
      clear hcv
      go_wp2
      go_ret
      exact ⟨rfl, hbel⟩
end Go.Proofs.YtgjcfmgaioiogaaDoor
