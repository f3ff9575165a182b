/- The walks of digests as figures and of their order: sha.Unhex, Less, Short, and the reference's Hex, Unhex, figure, Less. -/
import Derived.Test.YtlodalppnglclaaDoorMOb30s
import Derived.Test.YtlodalppnglclaaDoorMShaSums
import Derived.Shelf.Small.Strs
import Derived.Lib.UnsafeStr
import Derived.Lib.Bytealg
import Derived.Deep.RegionWith
import Derived.Lib.BytesEntry
namespace Go.Proofs.YtlodalppnglclaaDoor
open Go Go.RowKit
/-! strings.IndexByte among the figures -/
section
open Go.Shelf
end
/-- a text's bytes -/
def sb (s : ByteArray) : List Nat := s.data.toList.map UInt8.toNat
structure UnxW (w : World) (l : List Nat) (k : Nat) (wr : World) : Prop where
  res : ∃ cs, cs.size = 32 ∧ Blk wr w.heap.size 37 cs
  row : Blk wr (w.heap.size+1) 37 (u8s ((Sha.unhex l).take k ++ List.replicate (32 - k) 0))
  bel : Below w.heap.size w wr
theorem UnxW.start (w : World) (l : List Nat) : UnxW w l 0 ((w.alloc (.cells (u8s (List.replicate 32 0)) 37)).alloc (.cells (u8s (List.replicate 32 0)) 37)) := by
  refine ⟨⟨_, by rw [u8s_size]; rfl, (Blk.new w _ _).alloc _⟩, ?_, ?_⟩
  · have h := Blk.new (w.alloc (.cells (u8s (List.replicate 32 0)) 37)) 37 (u8s (List.replicate 32 0))
    have e : (w.alloc (.cells (u8s (List.replicate 32 0)) 37)).heap.size = w.heap.size + 1 := by simp
    rw [e] at h
    exact h
  · refine ((Below.refl _ _).alloc (Nat.le_refl _) _).alloc ?_ _; simp
theorem UnxW.put {w : World} {l : List Nat} {k : Nat} {wr : World} (h : UnxW w l k wr) (hk : k < 32) {v : Int} (hv : v = ((Sha.unhex l).getD k 0 : Nat)) :
    UnxW w l (k + 1) (wr.setCell ⟨w.heap.size + 1, k, none⟩ (.int .u8 v)) := by
  obtain ⟨cs, hz, hc⟩ := h.res
  refine ⟨⟨cs, hz, hc.far (by simp) _⟩, ?_, h.bel.setCell (p := ⟨w.heap.size + 1, k, none⟩) (by show w.heap.size ≤ w.heap.size + 1; omega) _⟩
  have h1 := h.row.set_ k (.int .u8 v)
  rw [hv, u8s_set, fill_take (Sha.unhex_len l) hk _ rfl] at h1
  rw [hv]
  exact h1
end Go.Proofs.YtlodalppnglclaaDoor
/- The walks of sha.Unhex of another length, of the order of digests and their first bytes, and of the reference's Hex, Unhex, Less. -/
namespace Go.Proofs.YtlodalppnglclaaDoor
open Go Go.RowKit

/-! the order of digests -/
theorem rd_bytes {w : World} {g : Nat} {t : TypeId} {xs : List Nat} (h : Blk w g t (u8s xs)) :
    ∀ j x, (xs.map Int.ofNat)[j]? = some x → w.cell? ((⟨g, 0, none⟩ : Addr).add j) = some (.int .u8 x) := by
  intro j x hx
  rw [List.getElem?_map] at hx
  obtain ⟨n, hn, rfl⟩ := Option.map_eq_some_iff.1 hx
  have hj := (List.getElem?_eq_some_iff.1 hn).1
  have e : ((⟨g, 0, none⟩ : Addr).add j) = ⟨g, j, none⟩ := by
    unfold Addr.add
    split
    · next h0 => rw [h0]
    · simp
  rw [e, h.cell j, u8s_get _ _ hj]
  simp [List.getD, hn]
theorem run_loadAll {P : Program} {w : World} {g : Nat} {t : TypeId} {xs : List Nat} (h : Blk w g t (u8s xs)) (n c : Nat) (hn : xs.length = n) :
    (Extern.Bytes.bytesOf (.slice (some ⟨g, 0, none⟩) n c)).run P w = .ok ⟨(xs.map UInt8.ofNat).toArray⟩ w := by
  have e := Lib.run_loadBytesX (P := P) w (xs.map Int.ofNat) ⟨g, 0, none⟩ .empty (rd_bytes h)
  rw [List.length_map, hn] at e
  show (Extern.Bytes.loadBytes ⟨g, 0, none⟩ n .empty).run P w = _
  rw [e]
  simp [ByteArray.empty, ByteArray.emptyWithCapacity, Lib.bytesOf, Function.comp_def]
  rfl
theorem compareBytes_cmpN : ∀ (a b : List Nat), (∀ x ∈ a, x < 256) → (∀ x ∈ b, x < 256) → Lib.compareBytes (a.map UInt8.ofNat) (b.map UInt8.ofNat) = Sha.cmpN a b
  | [], [], _, _ => rfl
  | [], _ :: _, _, _ => rfl
  | _ :: _, [], _, _ => rfl
  | x :: a, y :: b, ha, hb => by
    have hx := ha x (List.mem_cons_self)
    have hy := hb y (List.mem_cons_self)
    have ih := compareBytes_cmpN a b (fun z hz => ha z (List.mem_cons_of_mem _ hz)) (fun z hz => hb z (List.mem_cons_of_mem _ hz))
    have e1 : (UInt8.ofNat x < UInt8.ofNat y) ↔ x < y := by rw [UInt8.lt_iff_toNat_lt]; simp [Nat.mod_eq_of_lt hx, Nat.mod_eq_of_lt hy]
    have e2 : (UInt8.ofNat y < UInt8.ofNat x) ↔ y < x := by rw [UInt8.lt_iff_toNat_lt]; simp [Nat.mod_eq_of_lt hx, Nat.mod_eq_of_lt hy]
    simp only [List.map_cons, Lib.compareBytes, Sha.cmpN, e1, e2, ih]
theorem Byte.mem {xs : List Nat} (h : Sha.Byte xs) : ∀ x ∈ xs, x < 256 := fun x hx => by
  obtain ⟨i, hi, rfl⟩ := List.mem_iff_getElem.1 hx
  have := h i
  simpa [List.getD, hi] using this
theorem run_cmp {P : Program} {w : World} {g g' : Nat} {t t' : TypeId} {xs ys : List Nat} (h : Blk w g t (u8s xs)) (hb : Sha.Byte xs) (h' : Blk w g' t' (u8s ys)) (hb' : Sha.Byte ys) (n c n' c' : Nat) (hn : xs.length = n) (hn' : ys.length = n') :
    (Extern.BytealgCompare.compare #[.slice (some ⟨g, 0, none⟩) n c, .slice (some ⟨g', 0, none⟩) n' c']).run P w = .ok (.int .i64 (Sha.cmpN xs ys)) w := by
  change Sem.run P (do pure (goInt (Extern.BytealgCompare.cmp (← Extern.Bytes.bytesOf (.slice (some ⟨g, 0, none⟩) n c)) (← Extern.Bytes.bytesOf (.slice (some ⟨g', 0, none⟩) n' c'))))) w = _
  simp only [Sem.run_bind, Sem.run_pure, run_loadAll h n c hn, run_loadAll h' n' c' hn', Result.andThen]
  rw [Lib.cmp_eq, ← compareBytes_cmpN xs ys (Byte.mem hb) (Byte.mem hb')]
  rfl
theorem bcompare_any {w : World} {g g' : Nat} {t t' : TypeId} {xs ys : List Nat} (h : Blk w g t (u8s xs)) (hb : Sha.Byte xs) (h' : Blk w g' t' (u8s ys)) (hb' : Sha.Byte ys) (n c n' c' : Nat) (hn : xs.length = n) (hn' : ys.length = n') :
    Calls Tryd.prog 69 #[.slice (some ⟨g, 0, none⟩) n c, .slice (some ⟨g', 0, none⟩) n' c'] w fun e w' => e = .returned (.int .i64 (Sha.cmpN xs ys)) ∧ w' = w := by
  have hx := @run_callFunc_extern Tryd.prog 89 _ Extern.BytealgCompare.compare Tryd.func89 (by kernel_rfl) (by kernel_rfl) (by kernel_rfl) (by kernel_rfl)
  have hr := run_cmp (P := Tryd.prog) h hb h' hb' n c n' c' hn hn'
  clear h hb h' hb' hn hn'
  go_enter Tryd.func69, Tryd.ntmps69
  go_wp2_with fail
  go_ret
  exact ⟨rfl, rfl⟩
/-! the reference -/
end Go.Proofs.YtlodalppnglclaaDoor
