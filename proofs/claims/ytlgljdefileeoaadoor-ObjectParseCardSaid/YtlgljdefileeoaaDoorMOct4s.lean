/- The bytes of one field of layer 2 (octets.put). -/
import Derived.Test.YtlgljdefileeoaaDoorMHelds
import Derived.Laws.AppendOwn
import Derived.Test.YtlgljdefileeoaaDoorMErrs
namespace Go.Proofs.YtlgljdefileeoaaDoor
open Go Go.RowKit
theorem wp_appendB {o : Oper} {a : Act} {w : World} {K : Act → World → Prop} {Q : Exit → Act → World → Prop} (s x : Operand)
    (ho : o.op = .call { callee := .builtin .append, args := #[s, x], argTypes := #[22, 22] }) (base : Nat) (v : Value) (ys : List Nat) (hs : a.eval s = v) (hown : w.ownsRow base 5 1 v ys.length (cellsB ys)) (hbase : base ≤ w.heap.size)
    (u : Value) (hx : a.eval x = u) (xs : List Nat) (hu : Rd w u xs) (hz : ys.length + xs.length ≤ 70368744177664)
    (h : ∀ v' w', w'.ownsRow base 5 1 v' (ys ++ xs).length (cellsB (ys ++ xs)) → w.grownBy w' v.ownBlock → K (a.put o.dst v') w') : o.wp Tryd.prog a w K Q := by
  obtain ⟨i0, hi0, hiz, his, hib⟩ := info_parts byte_info
  obtain ⟨A, c, rfl, hc, hA⟩ := hu
  have e0 : cellsB ys ++ cellsB xs = cellsB (ys ++ xs) := by simp [cellsB]
  cases A with
  | some ad =>
    refine wp_append_own w s x 22 ho base 5 i0 _ 1 1 Tryd.underlying22 hi0 hiz his hib rfl (by decide) v ys.length (cellsB ys) hs hown ad xs.length c (cellsB xs) hx (by rw [cellsB_len, Nat.mul_one]) ?_ (cellsB_one _) (by unfold maxLen; omega) (by omega) hbase ?_
    · intro j t hj
      have hjl : j < xs.length := by have := (List.getElem?_eq_some_iff.1 hj).1; rwa [cellsB_len] at this
      obtain ⟨b, o', ha, _, hxx⟩ := hA (by omega)
      obtain rfl := Option.some.inj ha
      rw [cellsB_get hjl] at hj
      rw [Addr.add_mid, hxx j hjl, hj]
    · intro v' w' h1 h2 _
      rw [e0, ← List.length_append] at h1
      exact h v' w' h1 h2
  | none =>
    have hn : xs.length = 0 := by
      rcases Nat.eq_zero_or_pos xs.length with h0 | h0
      · exact h0
      · obtain ⟨b, o', ha, _⟩ := hA h0
        cases ha
    have e : xs = [] := List.eq_nil_of_length_eq_zero hn
    subst e
    have hrun : ∀ ty, (Builtin.append_ #[22, 22] ty #[v, .slice none 0 c]).run Tryd.prog w = .ok v w := fun ty => by
      rcases hown.2 with ⟨hv, hn0⟩ | ⟨g, cap, cur, hv, _, _, hnc, _⟩
      · rw [hv]
        simp [Builtin.append_, run_underlying Tryd.underlying22, sizeOf, typeInfo, hi0, Builtin.lenOf, Builtin.firstCells]
      · rw [hv]
        simp [Builtin.append_, run_underlying Tryd.underlying22, sizeOf, typeInfo, hi0, Builtin.lenOf, Builtin.firstCells, hnc, storeCells]
    unfold Oper.wp execOp
    simp only [ho, resolve, invoke, builtin, Sem.run_bind, Sem.run_pure, Result.andThen_ok, List.map_toArray, List.map_cons, List.map_nil, hs, hx]
    rw [show ([] : List Nat).length = 0 from rfl, hrun]
    exact h _ _ (by rw [List.append_nil]; exact hown) (World.grownBy.refl w _)

theorem enc_num {c : Nat} {n : Int} {bs : List Nat} (h1 : c ≠ 111) (h2 : c ≠ 116) {s m : Nat} (hs : Oc.nsize c = s) (hm : n = (m : Int)) : Oc.enc c n bs = Oc.nums s m := by
  subst hm
  unfold Oc.enc
  rw [if_neg h1, if_neg h2, hs]
  rfl
end Go.Proofs.YtlgljdefileeoaaDoor
/- Fields of layer 2 as bytes: octets.Write. -/
namespace Go.Proofs.YtlgljdefileeoaaDoor
open Go Go.RowKit
/-- A field as it lies: its number, its bytes' slice, its bytes. -/
structure Fld where
  n : Int
  A : Option Addr
  l : Nat
  c : Nat
  bs : List Nat
/-- Fields as they lie in a block. -/
structure FRow (w : World) (b o : Nat) (fs : List Fld) : Prop where
  n : ∀ i (h : i < fs.length), w.cell? ⟨b, o + 2 * i, none⟩ = some (.int .i64 fs[i].n)
  s : ∀ i (h : i < fs.length), w.cell? ⟨b, o + 2 * i + 1, none⟩ = some (.slice fs[i].A fs[i].l fs[i].c)
  r : ∀ f ∈ fs, Rd w (.slice f.A f.l f.c) f.bs ∧ f.bs.length = f.l
  lt : b < w.heap.size
theorem FRow.below {w w' : World} {B b o : Nat} {fs : List Fld} (h : FRow w b o fs) (hb : Below B w w') (hB : w.heap.size ≤ B) : FRow w' b o fs :=
  have e : ∀ i, w'.cell? ⟨b, i, none⟩ = w.cell? ⟨b, i, none⟩ := fun _i => World.cell?_of_block (hb.block b (Nat.lt_of_lt_of_le h.lt hB))
  ⟨fun i hi => (e _).trans (h.n i hi), fun i hi => (e _).trans (h.s i hi), fun f hf => ⟨(h.r f hf).1.below hb hB, (h.r f hf).2⟩, Nat.lt_of_lt_of_le h.lt hb.size⟩
namespace Oc
def okTo (s : List UInt8) (fs : List Fld) (k : Nat) : Prop := ∀ i (h1 : i < s.length) (h2 : i < fs.length), i < k → fits s[i].toNat fs[i].n fs[i].l = true
/-- the fields' bytes -/
def encs : List UInt8 → List Fld → List Nat
  | c :: s, f :: fs => enc c.toNat f.n f.bs ++ encs s fs
  | _, _ => []
theorem encs_take : ∀ (s : List UInt8) (fs : List Fld) (k : Nat) (h1 : k < s.length) (h2 : k < fs.length), encs (s.take (k + 1)) (fs.take (k + 1)) = encs (s.take k) (fs.take k) ++ enc s[k].toNat fs[k].n fs[k].bs
  | c :: s, f :: fs, 0, _, _ => by simp [encs]
  | c :: s, f :: fs, k + 1, h1, h2 => by
    have := encs_take s fs k (by simpa using h1) (by simpa using h2)
    simp [encs, this]
theorem enc_len (c : Nat) (n : Int) (bs : List Nat) (h : bs.length ≤ 1000) : (enc c n bs).length ≤ 1010 := by
  unfold enc
  by_cases h1 : c = 111
  · rw [if_pos h1]; omega
  rw [if_neg h1]
  by_cases h2 : c = 116
  · rw [if_pos h2, List.length_append, nums_len]; omega
  rw [if_neg h2, nums_len]
  obtain ⟨s, hs, h8⟩ := nsize_nat c
  omega
theorem encs_len : ∀ (s : List UInt8) (fs : List Fld), (∀ f ∈ fs, f.bs.length ≤ 1000) → (encs s fs).length ≤ 1010 * fs.length
  | [], _, _ => by simp [encs]
  | _ :: _, [], _ => by simp [encs]
  | c :: s, f :: fs, h => by
    have h1 := encs_len s fs fun f hf => h f (List.mem_cons_of_mem _ hf)
    have h2 := enc_len c.toNat f.n f.bs (h f (List.mem_cons_self ..))
    rw [encs, List.length_append, List.length_cons]
    omega
theorem okTo_succ {s : List UInt8} {fs : List Fld} {k : Nat} (h : okTo s fs k) (h1 : k < s.length) (h2 : k < fs.length) (hf : fits s[k].toNat fs[k].n fs[k].l = true) : okTo s fs (k + 1) := fun i a b c => by
  rcases Nat.lt_or_ge i k with hk | hk
  · exact h i a b hk
  · obtain rfl : i = k := by omega
    exact hf
end Oc
theorem Pad.alloc {w : World} {s : Value} {ys : List Nat} {wr : World} (h : Pad w.heap.size w s ys wr) (o : Obj) : Pad w.heap.size w s ys (wr.alloc o) := ⟨ownsRow_alloc h.own o, h.bel.alloc h.bel.size o⟩
theorem Pad.drew {B : Nat} {w : World} {s : Value} {ys : List Nat} {wr : World} (h : Pad B w s ys wr) : Pad B w s ys wr.drew := ⟨h.own.drew, below_drewN h.bel 1⟩
/-- What octets.Write answers. -/
def WritePost (s : ByteArray) (fs : List Fld) (aK aR : Addr) (w : World) (e : Ending) (w' : World) : Prop :=
  Below w.heap.size w w' ∧
  (Oc.known s.data.toList = false → e = .returned (.tuple #[.slice none 0 0, ev aK])) ∧
  (Oc.known s.data.toList = true → (fs.length ≠ s.size ∨ ¬ Oc.okTo s.data.toList fs s.size) → e = .returned (.tuple #[.slice none 0 0, ev aR])) ∧
  (Oc.known s.data.toList = true → fs.length = s.size → Oc.okTo s.data.toList fs s.size → ∃ v, e = .returned (.tuple #[v, .nilIface]) ∧ Pad w.heap.size w v (Oc.encs s.data.toList fs) w')
end Go.Proofs.YtlgljdefileeoaaDoor
/- The document's comparison of two rows of fields (cartageref02.Same). -/
namespace Go.Proofs.YtlgljdefileeoaaDoor
open Go Go.RowKit
/-- What a field says: its number and its bytes. -/
def Fld.says (f : Fld) : Int × List Nat := (f.n, f.bs)
end Go.Proofs.YtlgljdefileeoaaDoor
/- Fields as the document's fields (cartagelaw02.of). -/
namespace Go.Proofs.YtlgljdefileeoaaDoor
open Go Go.RowKit
def cellsF (fs : List Fld) : List Value := fs.flatMap fun f => [.int .i64 f.n, .slice f.A f.l f.c]
theorem cellsF_len (fs : List Fld) : (cellsF fs).length = fs.length * 2 := by
  induction fs with
  | nil => rfl
  | cons f fs ih => rw [cellsF, List.flatMap_cons, List.length_append, ← cellsF, ih]; simp; omega
theorem cellsF_take {fs : List Fld} {k : Nat} (h : k < fs.length) : cellsF (fs.take (k + 1)) = cellsF (fs.take k) ++ [.int .i64 fs[k].n, .slice fs[k].A fs[k].l fs[k].c] := by
  rw [List.take_succ_eq_append_getElem h, cellsF, List.flatMap_append]
  simp [cellsF]
theorem cellsF_get : ∀ {fs : List Fld} {i : Nat} (h : i < fs.length), (cellsF fs)[2 * i]? = some (.int .i64 fs[i].n) ∧ (cellsF fs)[2 * i + 1]? = some (.slice fs[i].A fs[i].l fs[i].c)
  | f :: fs, 0, _ => by simp [cellsF]
  | f :: fs, i + 1, h => by
    have := cellsF_get (fs := fs) (i := i) (by simpa using h)
    rw [show 2 * (i + 1) = 2 * i + 1 + 1 by omega]
    simpa [cellsF] using this
end Go.Proofs.YtlgljdefileeoaaDoor
/- Fields as bytes by the document's own Write (cartageref02.Write). -/
namespace Go.Proofs.YtlgljdefileeoaaDoor
open Go Go.RowKit
theorem Pad.step {w : World} {s : Value} {ys : List Nat} {wr w' : World} (h : Pad w.heap.size w s ys wr) (k : Below wr.heap.size wr w') : Pad w.heap.size w s ys w' :=
  ⟨h.own.kept (row := none) ⟨k.os, k.tape, k.output, k.size, fun i hi _ => k.block i hi⟩ (by cases s.ownBlock with | none => exact Or.inl rfl | some _ => exact Or.inr (by simp)),
   ⟨k.os.trans h.bel.os, k.tape.trans h.bel.tape, k.output.trans h.bel.output, Nat.le_trans h.bel.size k.size, fun i hi => (k.block i (Nat.lt_of_lt_of_le hi h.bel.size)).trans (h.bel.block i hi)⟩⟩
theorem Pad.drewN {B : Nat} {w : World} {s : Value} {ys : List Nat} {wr : World} (h : Pad B w s ys wr) (n : Nat) : Pad B w s ys (wr.drewN n) := ⟨h.own, below_drewN h.bel n⟩
theorem Others.of_below {a b : World} (h : Below a.heap.size a b) : Others a b := fun p _ _ _ _ e => (h.block p (Array.getElem?_eq_some_iff.1 e).1).trans e
namespace Oc
theorem known_at {s : ByteArray} {k : Nat} (h : known s.data.toList = true) (hk : k < s.size) : isL s[k] = true := by
  unfold known at h
  exact List.all_eq_true.1 h s[k] (by simp [ByteArray.getElem_eq_getElem_data])
/-- a letter is a number's, an object's or a text's -/
theorem letters {c : Nat} (h : 0 ≤ size c) : (∃ z : Nat, 0 < z ∧ z ≤ 8 ∧ size c = z ∧ nsize c = z ∧ mostOf z = most c ∧ c ≠ 111 ∧ c ≠ 116) ∨ c = 111 ∨ c = 116 := by
  by_cases h1 : c = 98
  · subst h1; exact Or.inl ⟨1, by decide, by decide, rfl, rfl, rfl, by decide, by decide⟩
  by_cases h2 : c = 119
  · subst h2; exact Or.inl ⟨4, by decide, by decide, rfl, rfl, rfl, by decide, by decide⟩
  by_cases h3 : c = 113
  · subst h3; exact Or.inl ⟨8, by decide, by decide, rfl, rfl, rfl, by decide, by decide⟩
  by_cases h4 : c = 111
  · exact Or.inr (Or.inl h4)
  by_cases h5 : c = 116
  · exact Or.inr (Or.inr h5)
  unfold size at h
  rw [if_neg h1, if_neg h2, if_neg h3, if_neg h4, if_neg h5] at h
  omega
end Oc
/-- What the document's Write answers. -/
def RWritePost (s : ByteArray) (fs : List Fld) (w : World) (e : Ending) (w' : World) : Prop :=
  Below w.heap.size w w' ∧
  (Oc.known s.data.toList = false → e = .returned (.tuple #[.slice none 0 0, .int .i64 7])) ∧
  (Oc.known s.data.toList = true → (fs.length ≠ s.size ∨ ¬ Oc.okTo s.data.toList fs s.size) → e = .returned (.tuple #[.slice none 0 0, .int .i64 1])) ∧
  (Oc.known s.data.toList = true → fs.length = s.size → Oc.okTo s.data.toList fs s.size → ∃ v, e = .returned (.tuple #[v, .int .i64 0]) ∧ Pad w.heap.size w v (Oc.encs s.data.toList fs) w')
end Go.Proofs.YtlgljdefileeoaaDoor
