/- How a message lies in memory (struct sha.message), and what each store makes of it. -/
import Derived.Test.YtgjcfmgaioiogaaDoorShaJoin
import Derived.Test.YtgjcfmgaioiogaaDoorShaMsgMath
import Derived.Deep.MidRow
namespace Go.Proofs.YtgjcfmgaioiogaaDoor
open Go Go.RowKit
def msgC (ws blk : List Nat) (f L : Nat) : Array Value := u32s ws ++ u8s blk ++ #[.int .i64 (f : Int), .int .u64 (L : Int)]
/-- The message at block p. -/
structure MsgC (w : World) (p : Nat) (ws blk : List Nat) (f L : Nat) : Prop where
  at_ : Blk w p 68 (msgC ws blk f L)
  len8 : ws.length = 8
  len64 : blk.length = 64
theorem msgC_size {ws blk : List Nat} {f L : Nat} (h8 : ws.length = 8) (h64 : blk.length = 64) : (msgC ws blk f L).size = 74 := by
  simp [msgC, u32s_size, u8s_size, h8, h64]
section
variable {w : World} {p : Nat} {ws blk : List Nat} {f L : Nat}
theorem MsgC.word (h : MsgC w p ws blk f L) (i : Nat) (hi : i < 8) : w.cell? ⟨p, i, none⟩ = some (.int .u32 ((ws.getD i 0 : Nat) : Int)) := by
  have h8 := h.len8
  rw [h.at_.cell i, ← u32s_get ws i (by omega), msgC, Array.append_assoc, Array.getElem?_append_left (by rw [u32s_size]; omega)]
theorem MsgC.byte (h : MsgC w p ws blk f L) (i : Nat) (hi : i < 64) : w.cell? ⟨p, 8 + i, none⟩ = some (.int .u8 ((blk.getD i 0 : Nat) : Int)) := by
  have h8 := h.len8
  have h64 := h.len64
  rw [h.at_.cell (8 + i), ← u8s_get blk i (by omega), msgC, Array.append_assoc, Array.getElem?_append_right (by rw [u32s_size]; omega), Array.getElem?_append_left (by rw [u8s_size, u32s_size]; omega), u32s_size]
  congr 1; omega
theorem MsgC.fill (h : MsgC w p ws blk f L) : w.cell? ⟨p, 72, none⟩ = some (.int .i64 (f : Int)) := by
  rw [h.at_.cell 72, msgC, Array.getElem?_append_right (by rw [Array.size_append, u32s_size, u8s_size, h.len8, h.len64]; omega), Array.size_append, u32s_size, u8s_size, h.len8, h.len64]
  rfl
theorem MsgC.length (h : MsgC w p ws blk f L) : w.cell? ⟨p, 73, none⟩ = some (.int .u64 (L : Int)) := by
  rw [h.at_.cell 73, msgC, Array.getElem?_append_right (by rw [Array.size_append, u32s_size, u8s_size, h.len8, h.len64]; omega), Array.size_append, u32s_size, u8s_size, h.len8, h.len64]
  rfl
theorem MsgC.frozen (h : MsgC w p ws blk f L) (i : Nat) : w.frozen? ⟨p, i, none⟩ = false := h.at_.frozen i
theorem MsgC.drewN (h : MsgC w p ws blk f L) (n : Nat) : MsgC (w.drewN n) p ws blk f L := ⟨h.at_.drewN n, h.len8, h.len64⟩
theorem MsgC.drew (h : MsgC w p ws blk f L) : MsgC w.drew p ws blk f L := ⟨h.at_.drew, h.len8, h.len64⟩
theorem MsgC.below {B : Nat} {w' : World} (h : MsgC w p ws blk f L) (hb : Below B w w') (hp : p < B) : MsgC w' p ws blk f L := ⟨h.at_.below hb hp, h.len8, h.len64⟩
theorem MsgC.lt (h : MsgC w p ws blk f L) : p < w.heap.size := h.at_.lt
theorem MsgC.setFill (h : MsgC w p ws blk f L) {v : Int} {f' : Nat} (hv : v = f') : MsgC (w.setCell ⟨p, 72, none⟩ (.int .i64 v)) p ws blk f' L := by
  refine ⟨?_, h.len8, h.len64⟩
  have h1 := h.at_.set_ 72 (.int .i64 v)
  have h8 := h.len8
  have h64 := h.len64
  rw [show (msgC ws blk f L).setIfInBounds 72 (.int .i64 v) = msgC ws blk f' L by
    apply Array.ext'
    simp only [msgC, Array.toList_setIfInBounds, Array.toList_append, u32s, u8s]
    rw [List.set_append_right _ _ (by simp; omega)]
    simp [h8, h64, hv]] at h1
  exact h1
theorem MsgC.setLength (h : MsgC w p ws blk f L) {v : Int} {L' : Nat} (hv : v = L') : MsgC (w.setCell ⟨p, 73, none⟩ (.int .u64 v)) p ws blk f L' := by
  refine ⟨?_, h.len8, h.len64⟩
  have h1 := h.at_.set_ 73 (.int .u64 v)
  have h8 := h.len8
  have h64 := h.len64
  rw [show (msgC ws blk f L).setIfInBounds 73 (.int .u64 v) = msgC ws blk f L' by
    apply Array.ext'
    simp only [msgC, Array.toList_setIfInBounds, Array.toList_append, u32s, u8s]
    rw [List.set_append_right _ _ (by simp; omega)]
    simp [h8, h64, hv]] at h1
  exact h1
theorem MsgC.setByte (h : MsgC w p ws blk f L) {v : Int} {x i : Nat} (hi : i < 64) (hv : v = x) : MsgC (w.setCell ⟨p, 8 + i, none⟩ (.int .u8 v)) p ws (blk.set i x) f L := by
  refine ⟨?_, h.len8, by rw [List.length_set]; exact h.len64⟩
  have h1 := h.at_.set_ (8 + i) (.int .u8 v)
  have h8 := h.len8
  have h64 := h.len64
  rw [show (msgC ws blk f L).setIfInBounds (8 + i) (.int .u8 v) = msgC ws (blk.set i x) f L by
    apply Array.ext'
    simp only [msgC, Array.toList_setIfInBounds, Array.toList_append, u32s, u8s]
    rw [List.set_append_left _ _ (by simp; omega), List.set_append_right _ _ (by simp; omega)]
    simp [h8, hv, List.map_set]] at h1
  exact h1
theorem MsgC.setWord (h : MsgC w p ws blk f L) {v : Int} {x i : Nat} (hi : i < 8) (hv : v = x) : MsgC (w.setCell ⟨p, i, none⟩ (.int .u32 v)) p (ws.set i x) blk f L := by
  refine ⟨?_, by rw [List.length_set]; exact h.len8, h.len64⟩
  have h1 := h.at_.set_ i (.int .u32 v)
  have h8 := h.len8
  have h64 := h.len64
  rw [show (msgC ws blk f L).setIfInBounds i (.int .u32 v) = msgC (ws.set i x) blk f L by
    apply Array.ext'
    simp only [msgC, Array.toList_setIfInBounds, Array.toList_append, u32s, u8s]
    rw [List.append_assoc, List.set_append_left _ _ (by simp; omega)]
    simp [hv, List.map_set]] at h1
  exact h1
theorem MsgC.splice (h : MsgC w p ws blk f L) {f0 : Nat} {c : List Nat} (hf : f0 + c.length ≤ 64) {cs : Array Value}
    (hcs : cs = ((msgC ws blk f L).toList.take (8 + f0) ++ (c.map (fun (n : Nat) => Value.int .u8 (n : Int)) ++ (msgC ws blk f L).toList.drop (8 + f0 + c.length))).toArray) :
    MsgC (w.setRow p cs) p ws (Sha.lay blk c f0) f L := by
  have h8 := h.len8
  have h64 := h.len64
  refine ⟨?_, h8, by rw [Sha.lay_len (by omega)]; exact h64⟩
  have h1 := h.at_.row cs
  have e : cs = msgC ws (Sha.lay blk c f0) f L := by
    rw [hcs]
    apply Array.ext'
    simp only [msgC, Array.toList_append, u32s, u8s, Sha.lay, List.map_append, List.map_take, List.map_drop]
    generalize hA : ws.map (fun (n : Nat) => Value.int .u32 (n : Int)) = A
    generalize hB : blk.map (fun (n : Nat) => Value.int .u8 (n : Int)) = B
    have hA' : A.length = 8 := by rw [← hA]; simpa using h8
    have hB' : B.length = 64 := by rw [← hB]; simpa using h64
    rw [List.append_assoc A B, List.take_append, List.drop_append, hA', List.take_of_length_le (by omega), List.drop_eq_nil_of_le (by omega), show 8 + f0 - 8 = f0 by omega, show 8 + f0 + c.length - 8 = f0 + c.length by omega,
      List.take_append_of_le_length (by omega), List.drop_append_of_le_length (by omega)]
    simp
  rw [e] at h1 ⊢
  exact h1
end
theorem setWords {ws : List Nat} (h : ws.length = 8) (a b c d e f g z : Nat) :
    (((((((ws.set 0 a).set 1 b).set 2 c).set 3 d).set 4 e).set 5 f).set 6 g).set 7 z = [a, b, c, d, e, f, g, z] := by
  obtain ⟨x0, x1, x2, x3, x4, x5, x6, x7, rfl⟩ := list8 h
  rfl
theorem MsgC.there8 {w : World} {p : Nat} {ws blk : List Nat} {f L : Nat} (h : MsgC w p ws blk f L) : w.there p 0 8 := fun j hj => by
  rw [Nat.zero_add]; exact ⟨by rw [h.word j hj]; rfl, h.frozen j⟩
theorem MsgC.setEight {w : World} {p : Nat} {ws blk : List Nat} {f L : Nat} (h : MsgC w p ws blk f L) (a b c d e g i z : Nat) :
    MsgC (w.setCells p 0 [Value.int .u32 (a : Nat), .int .u32 (b : Nat), .int .u32 (c : Nat), .int .u32 (d : Nat), .int .u32 (e : Nat), .int .u32 (g : Nat), .int .u32 (i : Nat), .int .u32 (z : Nat)]) p [a, b, c, d, e, g, i, z] blk f L := by
  rw [← setWords h.len8 a b c d e g i z]
  exact (((((((h.setWord (i := 0) (by omega) rfl).setWord (i := 1) (by omega) rfl).setWord (i := 2) (by omega) rfl).setWord (i := 3) (by omega) rfl).setWord (i := 4) (by omega) rfl).setWord (i := 5) (by omega) rfl).setWord (i := 6) (by omega) rfl).setWord (i := 7) (by omega) rfl
theorem only_setCells {a w : World} {g : Nat} (h : a.grownBy w (some g)) : ∀ (vs : List Value) (o : Nat) (w : World), a.grownBy w (some g) → a.grownBy (w.setCells g o vs) (some g)
  | [], _, _, h => h
  | _ :: r, o, _, h' => only_setCells h r (o + 1) _ (only_setCell h' (.inl rfl) _)
end Go.Proofs.YtgjcfmgaioiogaaDoor
