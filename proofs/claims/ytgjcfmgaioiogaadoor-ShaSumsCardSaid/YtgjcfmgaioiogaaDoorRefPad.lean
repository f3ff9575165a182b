/- What the walk of the document's own digest (cartageref01.Sum) keeps while it pads the message. -/
import Derived.Test.YtgjcfmgaioiogaaDoorNum
import Derived.Test.YtgjcfmgaioiogaaDoorRef
import Derived.Test.YtgjcfmgaioiogaaDoorRefMath
import Derived.Laws.OwnMore
namespace Go.Proofs.YtgjcfmgaioiogaaDoor
open Go Go.RowKit
abbrev res32 (w : World) : World := w.alloc (.cells (u8s (List.replicate 32 0)) 26)
/-- what the padding's loops keep: the bytes so far are the call's own row -/
structure Pad (B : Nat) (w : World) (s : Value) (ys : List Nat) (wr : World) : Prop where
  own : wr.ownsRow B 5 1 s ys.length (cellsB ys)
  bel : Below B w wr
theorem below_ownB {a b c : World} {B size n : Nat} {e : TypeId} {v : Value} {xs : List Value} (hB : a.heap.size = B) (h : Below B a b) (ho : b.ownsRow B e size v n xs) (k : b.grownBy c v.ownBlock) : Below B a c := by
  subst hB
  exact below_own h ho (Nat.le_refl _) k
theorem res32_size (w : World) : (res32 w).heap.size = w.heap.size + 1 := by simp
/-- the length that a slice shows -/
def lenV (v : Value) : Nat := match v with | .slice _ n _ => n | _ => 0
theorem Pad.len {B : Nat} {w : World} {s : Value} {ys : List Nat} {wr : World} (h : Pad B w s ys wr) : ∃ A c, s = .slice A ys.length c := by
  rcases h.own.2 with ⟨hv, hn⟩ | ⟨g, cap, cur, hv, _⟩
  · exact ⟨none, 0, by rw [hv, hn]⟩
  · exact ⟨_, cap, hv⟩
theorem rd_of_own {w : World} {base n : Nat} {v : Value} {l : List Nat} (h : w.ownsRow base 5 1 v n (cellsB l)) (hn : n = l.length) : Rd w v l := by
  subst hn
  rcases h.2 with ⟨rfl, h0⟩ | ⟨g, cap, cur, rfl, _, hh, hcap, _, hcs, hxs⟩
  · exact ⟨none, 0, by rw [h0], by omega, fun h1 => by omega⟩
  · refine ⟨_, _, rfl, hcap, fun _ => ⟨g, 0, rfl, (Array.getElem?_eq_some_iff.1 hh).1, fun i hi => ?_⟩⟩
    rw [Nat.zero_add, cell_of_row _ _ _ _ _ _ hh]
    have h := congrArg (·[i]?) hxs
    simp only [List.getElem?_take, if_pos (show i < l.length * 1 by omega)] at h
    rw [show cur[i]? = cur.toList[i]? by simp, h]
    exact cellsB_get hi
theorem Pad.rd {B : Nat} {w : World} {s : Value} {ys : List Nat} {wr : World} (h : Pad B w s ys wr) : Rd wr s ys := rd_of_own h.own rfl
end Go.Proofs.YtgjcfmgaioiogaaDoor
