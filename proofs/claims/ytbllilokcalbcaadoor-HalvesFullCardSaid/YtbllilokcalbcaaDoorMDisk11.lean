/- A disk stands where its blocks do; a disk that goes on apart ((*Disk).Copy). -/
import Derived.Test.YtbllilokcalbcaaDoorMDisk10
import Derived.Shelf.SlMaps.Clone
import Derived.Lib.Hide
namespace Go.Proofs.YtbllilokcalbcaaDoor
open Go Go.RowKit Go.Maps
section
variable {B : Nat} {w w' : World} {d ms ml c1 c2 : Nat} {S : Dk.D} {v : Value} {fS : Int → Option Value}
theorem ownsRow_stands {base e s n : Nat} {xs : List Value} (h : w.ownsRow base e s v n xs) (k : ∀ b, v.ownBlock = some b → w'.heap[b]? = w.heap[b]?) : w'.ownsRow base e s v n xs := by
  refine ⟨h.1, ?_⟩
  rcases h.2 with hn | ⟨g, cap, cur, rfl, hb, hg, hr⟩
  · exact .inl hn
  · exact .inr ⟨g, cap, cur, rfl, hb, (k g rfl).trans hg, hr⟩
theorem ownsRow_base {base base' e s n : Nat} {xs : List Value} (h : w.ownsRow base e s v n xs) (hb : base' ≤ base) : w.ownsRow base' e s v n xs := by
  refine ⟨h.1, ?_⟩
  rcases h.2 with hn | ⟨g, cap, cur, rfl, h1, hg, hr⟩
  · exact .inl hn
  · exact .inr ⟨g, cap, cur, rfl, Nat.le_trans hb h1, hg, hr⟩
theorem DiskAt.stands (h : DiskAt B w d S ms ml v c1 c2 fS) (k : ∀ b, (b = d ∨ b = ms ∨ b = ml ∨ v.ownBlock = some b) → w'.heap[b]? = w.heap[b]?) : DiskAt B w' d S ms ml v c1 c2 fS :=
  ⟨h.blk.stands (k d (Or.inl rfl)), h.safe.block (k ms (Or.inr (Or.inl rfl))), h.safeAt, h.last.block (k ml (Or.inr (Or.inr (Or.inl rfl)))), ownsRow_stands h.row fun b hb => k b (Or.inr (Or.inr (Or.inr hb))), h.ok, h.bd, h.ne, h.c1, h.c2⟩
theorem DiskAt.lts (h : DiskAt B w d S ms ml v c1 c2 fS) : ∀ b, (b = d ∨ b = ms ∨ b = ml ∨ v.ownBlock = some b) → B ≤ b ∧ b < w.heap.size := fun b hb => by
  rcases hb with rfl | rfl | rfl | hb
  · exact ⟨h.bd.1, h.blk.lt⟩
  · exact ⟨h.bd.2.1, h.safe.lt⟩
  · exact ⟨h.bd.2.2, h.last.lt⟩
  · exact h.row.lt b hb
/-- what lay before the disk stands through its deeds -/
theorem DiskAt.run {w0 : World} (h : DiskAt B w d S ms ml v c1 c2 fS) (hB : w0.heap.size ≤ B) (hb : Below w0.heap.size w0 w) (hf : Fr w w' d ms ml v) : Below w0.heap.size w0 w' :=
  ⟨hf.os.trans hb.os, hf.tape.trans hb.tape, hf.output.trans hb.output, Nat.le_trans hb.size hf.size, fun b hi => by
    have l := h.lts
    refine (hf.block b (Nat.lt_of_lt_of_le hi hb.size) (fun e => ?_) (fun e => ?_) (fun e => ?_) (fun e => ?_)).trans (hb.block b hi)
    · have := (l b (Or.inl e)).1; omega
    · have := (l b (Or.inr (Or.inl e))).1; omega
    · have := (l b (Or.inr (Or.inr (Or.inl e)))).1; omega
    · have := (l b (Or.inr (Or.inr (Or.inr e.symm)))).1; omega⟩
theorem MapF.copied {b n : Nat} {f : Int → Option Value} (h : MapF w b n f) : ∃ es clock, w.heap[b]? = some (.map es clock) ∧ MapF (w.alloc (.map es clock)) w.heap.size n f := by
  obtain ⟨D, ⟨es, clock, h1, h2, h3, h4⟩, k⟩ := h
  exact ⟨es, clock, h1, D, ⟨es, clock, (MapKept.heap_alloc w _).1, h2, h3, h4⟩, k⟩
end
section
variable {B : Nat} {d ms ml c1 c2 : Nat} {S : Dk.D} {v : Value} {fS : Int → Option Value}
def diskCells0 : List Value := [.int .i64 0, .map none, .slice none 0 0, .map none, .bool false, .bool false, .int .i64 0, .int .i64 0]
def diskCells (S : Dk.D) (ms ml : Nat) (v : Value) : List Value := [.int .i64 (S.size : Int), .map (some ms), v, .map (some ml), .bool S.off, .bool S.armed, .int .i64 (S.left : Int), .int .i64 (S.deeds : Int)]
theorem disk_size : (Tryd.prog.info? 58).map (·.size) = some 8 := by kernel_rfl
theorem disk_zero : (Tryd.prog.info? 58).map (fun i => (i.zero, i.size)) = some (some (.agg #[.int .i64 0, .map none, .slice none 0 0, .map none, .bool false, .bool false, .int .i64 0, .int .i64 0]), 8) := by kernel_rfl
end
end Go.Proofs.YtbllilokcalbcaaDoor
