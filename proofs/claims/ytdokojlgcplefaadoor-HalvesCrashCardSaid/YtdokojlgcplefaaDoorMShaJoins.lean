/- The walks of a digest's bytes (sha.join) and of its figures (sha.Hex). -/
import Derived.Test.YtdokojlgcplefaaDoorMShaSpreads
import Derived.Test.YtdokojlgcplefaaDoorMBases
import Derived.Deep.MidRow
namespace Go.Proofs.YtdokojlgcplefaaDoor
open Go Go.RowKit
structure JoinW (w : World) (ws : List Nat) (k : Nat) (wr : World) : Prop where
 src : Blk wr w.heap.size 132 (u32s ws)
 res : ∃ cs, cs.size = 32 ∧ Blk wr (w.heap.size+1) 116 cs
 row : Blk wr (w.heap.size+1+1) 116 (u8s ((Sha.join ws).take k ++ List.replicate (32 - k) 0))
 bel : Below w.heap.size w wr
theorem JoinW.start (w : World) (ws : List Nat) : JoinW w ws 0 (((w.alloc (.cells (u32s ws) 132)).alloc (.cells (u8s (List.replicate 32 0)) 116)).alloc (.cells (u8s (List.replicate 32 0)) 116)) := by
 have hbel : Below w.heap.size w (((w.alloc (.cells (u32s ws) 132)).alloc (.cells (u8s (List.replicate 32 0)) 116)).alloc (.cells (u8s (List.replicate 32 0)) 116)) := by
  refine (((Below.refl _ _).alloc (Nat.le_refl _) _).alloc ?_ _).alloc ?_ _ <;> simp <;> omega
 refine ⟨((Blk.new w _ _).alloc _).alloc _, ⟨u8s (List.replicate 32 0), by rw [u8s_size]; rfl, ?_⟩, ?_, hbel⟩
 ·have h := (Blk.new (w.alloc (.cells (u32s ws) 132)) 116 (u8s (List.replicate 32 0))).alloc (.cells (u8s (List.replicate 32 0)) 116)
  simpa using h
 ·have h := Blk.new ((w.alloc (.cells (u32s ws) 132)).alloc (.cells (u8s (List.replicate 32 0)) 116)) 116 (u8s (List.replicate 32 0))
  have e : ((w.alloc (.cells (u32s ws) 132)).alloc (.cells (u8s (List.replicate 32 0)) 116)).heap.size = w.heap.size + 1 + 1 := by simp
  rw [e] at h
  exact h
theorem fill_take {l : List Nat} {n k : Nat} (hl : l.length = n) (hk : k < n) (x : Nat) (hx : x = l.getD k 0) : (l.take k ++ List.replicate (n - k) 0).set k x = l.take (k + 1) ++ List.replicate (n - (k + 1)) 0 := by
 have e := fill_set (l.take k) (n - (k + 1)) x
 rw [List.length_take, Nat.min_eq_left (by omega)] at e
 rw [show n - k = n - (k + 1) + 1 by omega, e, hx]
 congr 1
 rw [List.take_add_one]
 simp [List.getD, show k < l.length by omega]
theorem JoinW.put {w : World} {ws : List Nat} {k : Nat} {wr : World} (h : JoinW w ws k wr) (hk : k < 32) {v : Int} (hv : v = ((Sha.join ws).getD k 0 : Nat)) :
  JoinW w ws (k + 1) (wr.setCell ⟨w.heap.size + 1 + 1, k, none⟩ (.int .u8 v)) := by
 obtain ⟨cs, hz, hc⟩ := h.res
 refine ⟨h.src.far (by simp; omega) _, ⟨cs, hz, hc.far (by simp) _⟩, ?_, h.bel.setCell (p := ⟨w.heap.size + 1 + 1, k, none⟩) (by show w.heap.size ≤ w.heap.size + 1 + 1; omega) _⟩
 have h1 := h.row.set_ k (.int .u8 v)
 rw [hv, u8s_set, fill_take (Sha.join_len ws) hk _ rfl] at h1
 rw [hv]
 exact h1
theorem oid_info : (Tryd.prog.info? 116).map (·.size) = some 32 := by kernel_rfl
set_option maxRecDepth 100000 in
theorem join_any (ws : List Nat) (w : World) (hx : ws.length = 8) (hw : Sha.W32 ws) :
  Calls Tryd.prog 91 #[.agg (u32s ws)] w fun e w' => e = .returned (.agg (u8s (Sha.join ws))) ∧ Below w.heap.size w w' := by
 go_enter Tryd.func91, Tryd.ntmps91
 go_wp2
 go_loopw [5] (fun i wr => ∃ k : Nat, k ≤ 32 ∧ i = .int .i64 k ∧ JoinW w ws k wr) (fun i _ => 32 - (intOf i).toNat)
 case atStart => exact ⟨0, by omega, rfl, JoinW.start w ws⟩
 case round =>
  obtain ⟨k, hk, rfl, hJ⟩ := hrel
  by_cases hlt : k < 32
  ·have e0 := hJ.src.cell (k/4)
   rw [u32s_get _ _ (by omega)] at e0
   have b0 := hw (k/4)
   have HJ := Lib.hid (Sha.join_get ws k hlt)
   generalize ws.getD (k/4) 0 = x at e0 b0 HJ
   have e1 := hJ.row.cell k
   rw [u8s_get _ _ (by simp [Sha.join_len]; omega)] at e1
   generalize ((Sha.join ws).take k ++ List.replicate (32 - k) 0).getD k 0 = y at e1
   have e2 := hJ.row.frozen k
   have i0 : (0 : Int) ≤ ((k : Nat) : Int) := by omega
   have i1 : ((k : Nat) : Int) < 32 := by omega
   have i2 : (0 : Int) ≤ 24 - 8 * (((k : Nat) : Int) % 4) := by omega
   have i3 : 24 - 8 * (((k : Nat) : Int) % 4) < 32 := by omega
   have i4 : ((k : Nat) : Int) / 4 < 8 := by omega
   have i5 : (0 : Int) ≤ ((k : Nat) : Int) / 4 := by omega
   go_wp2
   go_roundw
   case rel => exact ⟨k + 1, by omega, by go_num, hJ.put hlt (by rw [HJ.out]; simp)⟩
   case measure => simp [intOf]; omega
  ·have HK := Lib.hid (show k = 32 by omega)
   have HR : Hid (Blk wr (w.heap.size + 1 + 1) 116 (u8s (Sha.join ws))) := by
    have h := hJ.row
    rw [HK.out, List.take_of_length_le (by rw [Sha.join_len]; omega), show List.replicate (32 - 32) 0 = ([] : List Nat) from rfl, List.append_nil] at h
    exact Lib.hid h
   have HL := Lib.hid (show (u8s (Sha.join ws)).size = 32 by rw [u8s_size, Sha.join_len])
   have hbel := hJ.bel
   obtain ⟨cs, hz, hres⟩ := hJ.res
   have HC := Lib.hid hres
   have HZ := Lib.hid hz
   clear hz hres
   go_wp2_with (first | (refine wpList_load_row rfl 116 (.tmp 3) rfl (w.heap.size + 1 + 1) rfl 116 _ (0,0) _ HR.out Tryd.underlying116 rfl (by rw [HL.out]; exact oid_info) ?_) | (refine wpList_store_row rfl 116 (.tmp 2) (.tmp 21) rfl (w.heap.size + 1) _ rfl rfl 116 _ HC.out (by rw [HL.out]; exact oid_info) (by rw [HL.out]; exact HZ.out) (u8s_one _) ?_))
   exact bodyPost_ret (v := .agg (u8s (Sha.join ws))) (results_cell_row rfl _ _ (w.heap.size + 1) 116 _ (0, 0) _ rfl (HC.out.row _) Tryd.underlying116 rfl (by rw [HL.out]; exact oid_info)) rfl ⟨rfl, below_row hbel (by omega) _⟩
structure HexW (w : World) (bs : List Nat) (k : Nat) (wr : World) : Prop where
 src : Blk wr w.heap.size 116 (u8s bs)
 row : Blk wr (w.heap.size+1) 133 (u8s ((Sha.hex bs).take k ++ List.replicate (64 - k) 0))
 bel : Below w.heap.size w wr
theorem HexW.start (w : World) (bs : List Nat) : HexW w bs 0 ((w.alloc (.cells (u8s bs) 116)).alloc (.cells (u8s (List.replicate 64 0)) 133)) := by
 have hbel : Below w.heap.size w ((w.alloc (.cells (u8s bs) 116)).alloc (.cells (u8s (List.replicate 64 0)) 133)) := by
  refine ((Below.refl _ _).alloc (Nat.le_refl _) _).alloc ?_ _ <;> simp
 refine ⟨(Blk.new w _ _).alloc _, ?_, hbel⟩
 have h := Blk.new (w.alloc (.cells (u8s bs) 116)) 133 (u8s (List.replicate 64 0))
 have e : (w.alloc (.cells (u8s bs) 116)).heap.size = w.heap.size + 1 := by simp
 rw [e] at h
 exact h
theorem HexW.put {w : World} {bs : List Nat} {k : Nat} {wr : World} (h : HexW w bs k wr) (hb : bs.length = 32) (hk : k < 64) {v : Int} (hv : v = ((Sha.hex bs).getD k 0 : Nat)) :
  HexW w bs (k + 1) (wr.setCell ⟨w.heap.size + 1, k, none⟩ (.int .u8 v)) := by
 refine ⟨h.src.far (by simp) _, ?_, h.bel.setCell (p := ⟨w.heap.size + 1, k, none⟩) (by show w.heap.size ≤ w.heap.size + 1; omega) _⟩
 have h1 := h.row.set_ k (.int .u8 v)
 rw [hv, u8s_set, fill_take (by rw [Sha.hex_len, hb]) hk _ rfl] at h1
 rw [hv]
 exact h1
end Go.Proofs.YtdokojlgcplefaaDoor
/- What a message's state is: plain mathematics. -/
namespace Go.Proofs.YtdokojlgcplefaaDoor
namespace Sha
theorem getD_take {l : List Nat} {n i : Nat} (h : i < n) : (l.take n).getD i 0 = l.getD i 0 := by
 simp [List.getD, h]
theorem getD_drop {l : List Nat} {n i : Nat} : (l.drop n).getD i 0 = l.getD (n + i) 0 := by
 simp [List.getD]
theorem ext_getD {a b : List Nat} (hl : a.length = b.length) (h : ∀ i, i < a.length → a.getD i 0 = b.getD i 0) : a = b := by
 apply List.ext_getElem hl
 intro i h1 h2
 have := h i h1
 simpa [List.getD, h1, h2] using this
theorem blocks_app (bs ps : List Nat) : ∀ n, 64 * n ≤ bs.length → blocks (bs ++ ps) n = blocks bs n
 | 0, _ => rfl
 | n + 1, h => by
  show block (blocks (bs ++ ps) n) (((bs ++ ps).drop (64*n)).take 64) = block (blocks bs n) ((bs.drop (64*n)).take 64)
  rw [blocks_app bs ps n (by omega)]
  congr 1
  rw [List.drop_append_of_le_length (by omega), List.take_append_of_le_length (by rw [List.length_drop]; omega)]
structure Tail (bs blk : List Nat) : Prop where
 len : blk.length = 64
 byte : Byte blk
 same : ∀ i, i < bs.length % 64 → blk.getD i 0 = bs.getD (64 * (bs.length / 64) + i) 0
theorem Byte.nil : Byte [] := fun i => by simp
theorem Byte.app {a b : List Nat} (ha : Byte a) (hb : Byte b) : Byte (a ++ b) := fun i => by
 by_cases h : i < a.length
 ·rw [getD_append_lt h]; exact ha i
 ·rw [getD_append_ge (by omega)]; exact hb _
theorem Byte.take {a : List Nat} (ha : Byte a) (n : Nat) : Byte (a.take n) := fun i => by
 by_cases h : i < n
 ·rw [getD_take h]; exact ha i
 ·have e : (a.take n)[i]? = none := List.getElem?_eq_none (by rw [List.length_take]; omega)
  simp [List.getD, e]
theorem Byte.drop {a : List Nat} (ha : Byte a) (n : Nat) : Byte (a.drop n) := fun i => by rw [getD_drop]; exact ha _
def lay (blk c : List Nat) (f : Nat) : List Nat := blk.take f ++ c ++ blk.drop (f + c.length)
theorem lay_len {blk c : List Nat} {f : Nat} (h : f + c.length ≤ blk.length) : (lay blk c f).length = blk.length := by
 simp [lay]; omega
theorem lay_byte {blk c : List Nat} {f : Nat} (hb : Byte blk) (hc : Byte c) : Byte (lay blk c f) := ((hb.take f).app hc).app (hb.drop _)
theorem lay_lo {blk c : List Nat} {f i : Nat} (hf : f ≤ blk.length) (h : i < f) : (lay blk c f).getD i 0 = blk.getD i 0 := by
 unfold lay
 rw [List.append_assoc, getD_append_lt (by rw [List.length_take]; omega), getD_take h]
theorem lay_mid {blk c : List Nat} {f i : Nat} (hf : f ≤ blk.length) (h : f ≤ i) (h2 : i < f + c.length) : (lay blk c f).getD i 0 = c.getD (i - f) 0 := by
 unfold lay
 have e : (blk.take f).length = f := by rw [List.length_take]; omega
 rw [List.append_assoc, getD_append_ge (by omega), e, getD_append_lt (by omega)]
theorem Tail.part {bs blk c : List Nat} (h : Tail bs blk) (hc : Byte c) (hn : bs.length % 64 + c.length < 64) : Tail (bs ++ c) (lay blk c (bs.length % 64)) := by
 have hq : (bs ++ c).length / 64 = bs.length / 64 := by rw [List.length_append]; omega
 have hr : (bs ++ c).length % 64 = bs.length % 64 + c.length := by rw [List.length_append]; omega
 have hlen := h.len
 refine ⟨by rw [lay_len (by omega), hlen], lay_byte h.byte hc, fun i hi => ?_⟩
 rw [hq]
 rw [hr] at hi
 by_cases hlt : i < bs.length % 64
 ·rw [lay_lo (by omega) hlt, h.same i hlt, getD_append_lt (by omega)]
 ·rw [lay_mid (by omega) (by omega) hi, getD_append_ge (by omega)]
  congr 1; omega
theorem Tail.whole {bs blk c : List Nat} (h : Tail bs blk) (hn : bs.length % 64 + c.length = 64) :
  blocks (bs ++ c) ((bs ++ c).length / 64) = block (blocks bs (bs.length / 64)) (lay blk c (bs.length % 64)) ∧ (bs ++ c).length % 64 = 0 := by
 have hq : (bs ++ c).length / 64 = bs.length / 64 + 1 := by rw [List.length_append]; omega
 have hlen := h.len
 refine ⟨?_, by rw [List.length_append]; omega⟩
 rw [hq]
 show block (blocks (bs ++ c) (bs.length / 64)) _ = _
 rw [blocks_app bs c _ (by omega)]
 congr 1
 have hl : (bs ++ c).length = 64 * (bs.length / 64) + 64 := by rw [List.length_append]; omega
 refine ext_getD ?_ (fun i hi => ?_)
 ·rw [List.length_take, List.length_drop, lay_len (by omega), hlen, hl]; omega
 ·rw [List.length_take, List.length_drop, hl] at hi
  rw [getD_take (by omega), getD_drop]
  by_cases hlt : i < bs.length % 64
  ·rw [lay_lo (by omega) hlt, h.same i hlt, getD_append_lt (by omega)]
  ·rw [lay_mid (by omega) (by omega) (by omega), getD_append_ge (by omega)]
   congr 1; omega
theorem Tail.fresh {bs blk : List Nat} (hl : blk.length = 64) (hb : Byte blk) (h0 : bs.length % 64 = 0) : Tail bs blk := ⟨hl, hb, fun i hi => by omega⟩
theorem lay_nil (blk : List Nat) (f : Nat) : lay blk [] f = blk := by simp [lay]
theorem lay_snoc {blk c : List Nat} {f : Nat} (x : Nat) (h : f + c.length < blk.length) : (lay blk c f).set (f + c.length) x = lay blk (c ++ [x]) f := by
 unfold lay
 have e : (blk.take f ++ c).length = f + c.length := by rw [List.length_append, List.length_take]; omega
 rw [List.set_append_right _ _ (by omega), e, Nat.sub_self, List.drop_eq_getElem_cons h, List.set_cons_zero]
 simp [Nat.add_assoc]
theorem len8_len (n : Nat) : (len8 n).length = 8 := by simp [len8]
theorem len8_get (n k : Nat) (h : k < 8) : (len8 n).getD k 0 = 8 * n / 2^(8*(7-k)) % 256 := by simp [len8, List.getD, h]
theorem len8_byte (n : Nat) : Byte (len8 n) := fun i => by
 by_cases h : i < 8
 ·rw [len8_get n i h]; exact Nat.mod_lt _ (by decide)
 ·have e : (len8 n)[i]? = none := List.getElem?_eq_none (by rw [len8_len]; omega)
  simp [List.getD, e]
theorem take_snoc {l : List Nat} {k : Nat} (h : k < l.length) : l.take (k + 1) = l.take k ++ [l.getD k 0] := by
 rw [List.take_add_one]; simp [List.getD, h]
theorem Byte.zeros (n : Nat) : Byte (List.replicate n 0) := fun i => by
 rcases Nat.lt_or_ge i n with h | h
 ·simp [List.getD, h]
 ·simp [List.getD, h]
theorem Byte.one {x : Nat} (h : x < 256) : Byte [x] := fun i => by
 rcases i with _ | i
 ·simpa using h
 ·simp
def gap (n : Nat) : Nat := (119 - n % 64) % 64
def upTo (bs : List Nat) (z : Nat) : List Nat := bs ++ [128] ++ List.replicate z 0
theorem upTo_len (bs : List Nat) (z : Nat) : (upTo bs z).length = bs.length + 1 + z := by simp [upTo]; omega
theorem upTo_succ (bs : List Nat) (z : Nat) : upTo bs (z + 1) = upTo bs z ++ [0] := by
 simp [upTo, List.replicate_succ']
theorem sum_upTo {bs blk : List Nat} (h : Tail (upTo bs (gap bs.length)) blk) :
  sum bs = join (block (blocks (upTo bs (gap bs.length)) ((upTo bs (gap bs.length)).length / 64)) (lay blk (len8 bs.length) 56)) := by
 have h56 : (upTo bs (gap bs.length)).length % 64 = 56 := by rw [upTo_len]; unfold gap; omega
 have hw := (h.whole (c := len8 bs.length) (by rw [h56, len8_len])).1
 rw [h56] at hw
 rw [← hw]
 rfl
end Sha
end Go.Proofs.YtdokojlgcplefaaDoor
/- How a message lies in memory (struct sha.message), and what each store makes of it. -/
namespace Go.Proofs.YtdokojlgcplefaaDoor
open Go Go.RowKit
def msgC (ws blk : List Nat) (f L : Nat) : Array Value := u32s ws ++ u8s blk ++ #[.int .i64 (f : Int), .int .u64 (L : Int)]
structure MsgC (w : World) (p : Nat) (ws blk : List Nat) (f L : Nat) : Prop where
 at_ : Blk w p 135 (msgC ws blk f L)
 len8 : ws.length = 8
 len64 : blk.length = 64
theorem msgC_size {ws blk : List Nat} {f L : Nat} (h8 : ws.length = 8) (h64 : blk.length = 64) : (msgC ws blk f L).size = 74 := by
 simp [msgC, u32s_size, u8s_size, h8, h64]
section
variable {w : World} {p : Nat} {ws blk : List Nat} {f L : Nat}
theorem MsgC.word (h : MsgC w p ws blk f L) (i : Nat) (hi : i < 8) : w.cell? ⟨p, i, none⟩ = some (.int .u32 ((ws.getD i 0 : Nat) : Int)) := by
 have h8 := h.len8
 rw [h.at_.cell i, ← u32s_get ws i (by omega), msgC, Array.append_assoc, Array.getElem?_append_left (by rw [u32s_size]; omega)]
theorem MsgC.byte (h : MsgC w p ws blk f L) (i : Nat) (hi : i < 64) : w.cell? ⟨p, 8 + i, none⟩ = some (.int .u8 ((blk.getD i 0 : Nat) : Int)) := by
 have h8 := h.len8
 have h64 := h.len64
 rw [h.at_.cell (8 + i), ← u8s_get blk i (by omega), msgC, Array.append_assoc, Array.getElem?_append_right (by rw [u32s_size]; omega), Array.getElem?_append_left (by rw [u8s_size, u32s_size]; omega), u32s_size]
 congr 1; omega
theorem MsgC.fill (h : MsgC w p ws blk f L) : w.cell? ⟨p, 72, none⟩ = some (.int .i64 (f : Int)) := by
 rw [h.at_.cell 72, msgC, Array.getElem?_append_right (by rw [Array.size_append, u32s_size, u8s_size, h.len8, h.len64]; omega), Array.size_append, u32s_size, u8s_size, h.len8, h.len64]
 rfl
theorem MsgC.length (h : MsgC w p ws blk f L) : w.cell? ⟨p, 73, none⟩ = some (.int .u64 (L : Int)) := by
 rw [h.at_.cell 73, msgC, Array.getElem?_append_right (by rw [Array.size_append, u32s_size, u8s_size, h.len8, h.len64]; omega), Array.size_append, u32s_size, u8s_size, h.len8, h.len64]
 rfl
theorem MsgC.frozen (h : MsgC w p ws blk f L) (i : Nat) : w.frozen? ⟨p, i, none⟩ = false := h.at_.frozen i
theorem MsgC.drewN (h : MsgC w p ws blk f L) (n : Nat) : MsgC (w.drewN n) p ws blk f L := ⟨h.at_.drewN n, h.len8, h.len64⟩
theorem MsgC.drew (h : MsgC w p ws blk f L) : MsgC w.drew p ws blk f L := ⟨h.at_.drew, h.len8, h.len64⟩
theorem MsgC.below {B : Nat} {w' : World} (h : MsgC w p ws blk f L) (hb : Below B w w') (hp : p < B) : MsgC w' p ws blk f L := ⟨h.at_.below hb hp, h.len8, h.len64⟩
theorem MsgC.lt (h : MsgC w p ws blk f L) : p < w.heap.size := h.at_.lt
theorem MsgC.setFill (h : MsgC w p ws blk f L) {v : Int} {f' : Nat} (hv : v = f') : MsgC (w.setCell ⟨p, 72, none⟩ (.int .i64 v)) p ws blk f' L := by
 refine ⟨?_, h.len8, h.len64⟩
 have h1 := h.at_.set_ 72 (.int .i64 v)
 have h8 := h.len8
 have h64 := h.len64
 rw [show (msgC ws blk f L).setIfInBounds 72 (.int .i64 v) = msgC ws blk f' L by
  apply Array.ext'
  simp only [msgC, Array.toList_setIfInBounds, Array.toList_append, u32s, u8s]
  rw [List.set_append_right _ _ (by simp; omega)]
  simp [h8, h64, hv]] at h1
 exact h1
theorem MsgC.setLength (h : MsgC w p ws blk f L) {v : Int} {L' : Nat} (hv : v = L') : MsgC (w.setCell ⟨p, 73, none⟩ (.int .u64 v)) p ws blk f L' := by
 refine ⟨?_, h.len8, h.len64⟩
 have h1 := h.at_.set_ 73 (.int .u64 v)
 have h8 := h.len8
 have h64 := h.len64
 rw [show (msgC ws blk f L).setIfInBounds 73 (.int .u64 v) = msgC ws blk f L' by
  apply Array.ext'
  simp only [msgC, Array.toList_setIfInBounds, Array.toList_append, u32s, u8s]
  rw [List.set_append_right _ _ (by simp; omega)]
  simp [h8, h64, hv]] at h1
 exact h1
theorem MsgC.setByte (h : MsgC w p ws blk f L) {v : Int} {x i : Nat} (hi : i < 64) (hv : v = x) : MsgC (w.setCell ⟨p, 8 + i, none⟩ (.int .u8 v)) p ws (blk.set i x) f L := by
 refine ⟨?_, h.len8, by rw [List.length_set]; exact h.len64⟩
 have h1 := h.at_.set_ (8 + i) (.int .u8 v)
 have h8 := h.len8
 have h64 := h.len64
 rw [show (msgC ws blk f L).setIfInBounds (8 + i) (.int .u8 v) = msgC ws (blk.set i x) f L by
  apply Array.ext'
  simp only [msgC, Array.toList_setIfInBounds, Array.toList_append, u32s, u8s]
  rw [List.set_append_left _ _ (by simp; omega), List.set_append_right _ _ (by simp; omega)]
  simp [h8, hv, List.map_set]] at h1
 exact h1
theorem MsgC.setWord (h : MsgC w p ws blk f L) {v : Int} {x i : Nat} (hi : i < 8) (hv : v = x) : MsgC (w.setCell ⟨p, i, none⟩ (.int .u32 v)) p (ws.set i x) blk f L := by
 refine ⟨?_, by rw [List.length_set]; exact h.len8, h.len64⟩
 have h1 := h.at_.set_ i (.int .u32 v)
 have h8 := h.len8
 have h64 := h.len64
 rw [show (msgC ws blk f L).setIfInBounds i (.int .u32 v) = msgC (ws.set i x) blk f L by
  apply Array.ext'
  simp only [msgC, Array.toList_setIfInBounds, Array.toList_append, u32s, u8s]
  rw [List.append_assoc, List.set_append_left _ _ (by simp; omega)]
  simp [hv, List.map_set]] at h1
 exact h1
theorem MsgC.splice (h : MsgC w p ws blk f L) {f0 : Nat} {c : List Nat} (hf : f0 + c.length ≤ 64) {cs : Array Value}
  (hcs : cs = ((msgC ws blk f L).toList.take (8 + f0) ++ (c.map (fun (n : Nat) => Value.int .u8 (n : Int)) ++ (msgC ws blk f L).toList.drop (8 + f0 + c.length))).toArray) :
  MsgC (w.setRow p cs) p ws (Sha.lay blk c f0) f L := by
 have h8 := h.len8
 have h64 := h.len64
 refine ⟨?_, h8, by rw [Sha.lay_len (by omega)]; exact h64⟩
 have h1 := h.at_.row cs
 have e : cs = msgC ws (Sha.lay blk c f0) f L := by
  rw [hcs]
  apply Array.ext'
  simp only [msgC, Array.toList_append, u32s, u8s, Sha.lay, List.map_append, List.map_take, List.map_drop]
  generalize hA : ws.map (fun (n : Nat) => Value.int .u32 (n : Int)) = A
  generalize hB : blk.map (fun (n : Nat) => Value.int .u8 (n : Int)) = B
  have hA' : A.length = 8 := by rw [← hA]; simpa using h8
  have hB' : B.length = 64 := by rw [← hB]; simpa using h64
  rw [List.append_assoc A B, List.take_append, List.drop_append, hA', List.take_of_length_le (by omega), List.drop_eq_nil_of_le (by omega), show 8 + f0 - 8 = f0 by omega, show 8 + f0 + c.length - 8 = f0 + c.length by omega,
   List.take_append_of_le_length (by omega), List.drop_append_of_le_length (by omega)]
  simp
 rw [e] at h1 ⊢
 exact h1
end
theorem setWords {ws : List Nat} (h : ws.length = 8) (a b c d e f g z : Nat) :
  (((((((ws.set 0 a).set 1 b).set 2 c).set 3 d).set 4 e).set 5 f).set 6 g).set 7 z = [a, b, c, d, e, f, g, z] := by
 obtain ⟨x0, x1, x2, x3, x4, x5, x6, x7, rfl⟩ := list8 h
 rfl
theorem MsgC.there8 {w : World} {p : Nat} {ws blk : List Nat} {f L : Nat} (h : MsgC w p ws blk f L) : w.there p 0 8 := fun j hj => by
 rw [Nat.zero_add]; exact ⟨by rw [h.word j hj]; rfl, h.frozen j⟩
theorem MsgC.setEight {w : World} {p : Nat} {ws blk : List Nat} {f L : Nat} (h : MsgC w p ws blk f L) (a b c d e g i z : Nat) :
  MsgC (w.setCells p 0 [Value.int .u32 (a : Nat), .int .u32 (b : Nat), .int .u32 (c : Nat), .int .u32 (d : Nat), .int .u32 (e : Nat), .int .u32 (g : Nat), .int .u32 (i : Nat), .int .u32 (z : Nat)]) p [a, b, c, d, e, g, i, z] blk f L := by
 rw [← setWords h.len8 a b c d e g i z]
 exact (((((((h.setWord (i := 0) (by omega) rfl).setWord (i := 1) (by omega) rfl).setWord (i := 2) (by omega) rfl).setWord (i := 3) (by omega) rfl).setWord (i := 4) (by omega) rfl).setWord (i := 5) (by omega) rfl).setWord (i := 6) (by omega) rfl).setWord (i := 7) (by omega) rfl
theorem only_setCells {a w : World} {g : Nat} (h : a.grownBy w (some g)) : ∀ (vs : List Value) (o : Nat) (w : World), a.grownBy w (some g) → a.grownBy (w.setCells g o vs) (some g)
 | [], _, _, h => h
 | _ :: r, o, _, h' => only_setCells h r (o + 1) _ (only_setCell h' (.inl rfl) _)
end Go.Proofs.YtdokojlgcplefaaDoor
/- Bytes that a slice value holds. -/
namespace Go.Proofs.YtdokojlgcplefaaDoor
open Go Go.RowKit
def RdB (w : World) (p : Nat) (v : Value) (xs : List Nat) : Prop :=
 ∃ A c, v = .slice A xs.length c ∧ xs.length ≤ c ∧ (0 < xs.length → ∃ b o, A = some ⟨b, o, none⟩ ∧ b ≠ p ∧ b < w.heap.size ∧ ∀ i, i < xs.length → w.cell? ⟨b, o + i, none⟩ = some (.int .u8 ((xs.getD i 0 : Nat) : Int)))
theorem RdB.only {w w' : World} {p : Nat} {v : Value} {xs : List Nat} (h : RdB w p v xs) (k : w.grownBy w' (some p)) : RdB w' p v xs := by
 obtain ⟨A, c, hv, hc, hA⟩ := h
 refine ⟨A, c, hv, hc, fun h0 => ?_⟩
 obtain ⟨b, o, ha, hb, hl, hx⟩ := hA h0
 exact ⟨b, o, ha, hb, Nat.lt_of_lt_of_le hl k.size, fun i hi => k.cell (hx i hi) (fun e => hb (by injection e))⟩
theorem RdB.cut {w : World} {p : Nat} {A : Option Addr} {n c : Nat} {xs : List Nat} (h : RdB w p (.slice A n c) xs) {k : Nat} (hk : k ≤ xs.length) :
  RdB w p (.slice (if c = k then A else A.map (·.add k)) (n - k) (c - k)) (xs.drop k) := by
 obtain ⟨A', c', hv, hc, hA⟩ := h
 injection hv with e1 e2 e3
 subst e1 e2 e3
 refine ⟨_, _, by rw [List.length_drop], by rw [List.length_drop]; omega, fun h0 => ?_⟩
 rw [List.length_drop] at h0
 obtain ⟨b, o, ha, hb, hl, hx⟩ := hA (by omega)
 refine ⟨b, o + k, ?_, hb, hl, fun i hi => ?_⟩
 ·rw [if_neg (by omega), ha]
  show some ((⟨b, o, none⟩ : Addr).add k) = _
  rw [Addr.add_mid]
 ·rw [List.length_drop] at hi
  rw [Nat.add_assoc, hx (k + i) (by omega), Sha.getD_drop]
theorem RdB.only' {w w' : World} {p b o n c : Nat} {xs : List Nat} {s2 : Value} (h : RdB w p (.slice (some ⟨b, o, none⟩) n c) xs) (k : w.grownBy w' (some p)) {m : Nat} (hk : m ≤ xs.length)
  (e : s2 = Value.slice (if c = m then some ⟨b, o, none⟩ else (some (⟨b, o, none⟩ : Addr)).map (·.add m)) (n - m) (c - m)) : RdB w' p s2 (xs.drop m) := by
 rw [e]; exact (h.only k).cut hk
def Rd (w : World) (v : Value) (xs : List Nat) : Prop :=
 ∃ A c, v = .slice A xs.length c ∧ xs.length ≤ c ∧ (0 < xs.length → ∃ b o, A = some ⟨b, o, none⟩ ∧ b < w.heap.size ∧ ∀ i, i < xs.length → w.cell? ⟨b, o + i, none⟩ = some (.int .u8 ((xs.getD i 0 : Nat) : Int)))
theorem Rd.below {w w' : World} {v : Value} {xs : List Nat} (h : Rd w v xs) {B : Nat} (hb : Below B w w') (hB : w.heap.size ≤ B) : Rd w' v xs := by
 obtain ⟨A, c, hv, hc, hA⟩ := h
 refine ⟨A, c, hv, hc, fun h0 => ?_⟩
 obtain ⟨b, o, ha, hl, hx⟩ := hA h0
 have := hb.size
 exact ⟨b, o, ha, by omega, fun i hi => (hb.cell (p := ⟨b, o + i, none⟩) (by show b < B; omega)).trans (hx i hi)⟩
theorem Rd.out {w : World} {v : Value} {xs : List Nat} (h : Rd w v xs) {p : Nat} (hp : w.heap.size ≤ p) : RdB w p v xs := by
 obtain ⟨A, c, hv, hc, hA⟩ := h
 refine ⟨A, c, hv, hc, fun h0 => ?_⟩
 obtain ⟨b, o, ha, hl, hx⟩ := hA h0
 exact ⟨b, o, ha, by omega, hl, hx⟩
theorem Rd.outB {w w' : World} {v : Value} {xs : List Nat} (h : Rd w v xs) {p : Nat} (hp : w.heap.size ≤ p) (hb : Below w.heap.size w w') : RdB w' p v xs := by
 obtain ⟨A, c, hv, hc, hA⟩ := h
 refine ⟨A, c, hv, hc, fun h0 => ?_⟩
 obtain ⟨b, o, ha, hl, hx⟩ := hA h0
 have := hb.size
 exact ⟨b, o, ha, by omega, by omega, fun i hi => (hb.cell (p := ⟨b, o + i, none⟩) (by show b < _; omega)).trans (hx i hi)⟩
def RdL (w : World) (v : Value) (vs : List Value) : Prop :=
 ∃ A c, v = .slice A vs.length c ∧ vs.length ≤ c ∧ (0 < vs.length → ∃ b o, A = some ⟨b, o, none⟩ ∧ b < w.heap.size ∧ ∀ i u, vs[i]? = some u → w.cell? ⟨b, o + i, none⟩ = some u)
end Go.Proofs.YtdokojlgcplefaaDoor
