/- What the walk of (*In).fields keeps: the fields read so far lie in a row of the call's own, their bytes in blocks of their own. -/
import Derived.Test.YtcnedkgadfegbaaDoorMOct11s
import Derived.Recover
import Derived.Lib.Builder
import Derived.Test.YtcnedkgadfegbaaDoorMBases
namespace Go.Proofs.YtcnedkgadfegbaaDoor
open Go Go.RowKit
def shN (s : ByteArray) : List Nat := s.data.toList.map (·.toNat)
theorem shN_len (s : ByteArray) : (shN s).length = s.size := by simp [shN]
theorem shN_get {s : ByteArray} {k : Nat} (h : k < s.size) : (shN s)[k]'(by rw [shN_len]; exact h) = s[k].toNat := by simp [shN, ByteArray.getElem_eq_getElem_data]
namespace Oc
theorem reads_ok_next {sh xs : List Nat} {k c n p m : Nat} {l : List (Nat × List Nat)} {x : List Nat} (h : reads (sh.take k) xs = .ok l p) (hk : k < sh.length) (hc : sh[k] = c) (hs : step c (xs.drop p) = .ok n x m) : reads (sh.take (k + 1)) xs = .ok (l ++ [(n, x)]) (p + m) := by
  rw [reads_take hk, h, Got.next, hc]
  simp only [hs]
theorem reads_bad_next {sh xs : List Nat} {k c p e : Nat} {l : List (Nat × List Nat)} (h : reads (sh.take k) xs = .ok l p) (hk : k < sh.length) (hc : sh[k] = c) (hs : step c (xs.drop p) = .bad e) : reads sh xs = .bad e := by
  refine reads_bad (k := k + 1) ?_
  rw [reads_take hk, h, Got.next, hc]
  simp only [hs]
end Oc
/-- A field whose bytes lie in a block of their own. -/
structure FOwn (B : Nat) (w : World) (f : Fld) : Prop where
  rd : Rd w (.slice f.A f.l f.c) f.bs
  len : f.bs.length = f.l
  own : 0 < f.l → ∃ g cs t, f.A = some ⟨g, 0, none⟩ ∧ B ≤ g ∧ Blk w g t cs ∧ t ≠ 82 ∧ t ≠ 67
def Kind (w : World) (row : Option Nat) : Prop := ∀ g, row = some g → ∃ cs t, Blk w g t cs ∧ (t = 82 ∨ t = 67)
theorem FOwn.step {B : Nat} {w w' : World} {f : Fld} {row : Option Nat} (h : FOwn B w f) (k : w.grownBy w' row) (hr : Kind w row) : FOwn B w' f := by
  have key : ∀ g cs t, Blk w g t cs → t ≠ 82 → t ≠ 67 → some g ≠ row := by
    rintro g cs t hB h1 h2 rfl
    obtain ⟨cs', t', hB', ht⟩ := hr g rfl
    have e := hB.symm.trans hB'
    injection e with e
    injection e with _ e _
    subst e
    exact ht.elim h1 h2
  refine ⟨?_, h.len, fun h0 => ?_⟩
  · obtain ⟨A', c', hv, hc, hA⟩ := h.rd
    refine ⟨A', c', hv, hc, fun h0 => ?_⟩
    obtain ⟨b, o, ha, hb, hx⟩ := hA h0
    injection hv with e1 e2 e3
    obtain ⟨g, cs, t, e4, _, hB, h1, h2⟩ := h.own (by rw [← h.len]; exact h0)
    rw [e1, ha] at e4
    injection e4 with e4
    injection e4 with e4 e5
    subst e4
    exact ⟨b, o, ha, Nat.lt_of_lt_of_le hb k.size, fun i hi => k.cell (hx i hi) (key b cs t hB h1 h2)⟩
  · obtain ⟨g, cs, t, e4, hg, hB, h1, h2⟩ := h.own h0
    exact ⟨g, cs, t, e4, hg, hB.grown k (key g cs t hB h1 h2), h1, h2⟩
theorem kind_none (w : World) : Kind w none := fun _ h => by cases h
theorem FOwn.below {B : Nat} {w w' : World} {f : Fld} (h : FOwn B w f) (hb : Below w.heap.size w w') : FOwn B w' f := h.step (only_of_below hb none) (kind_none w)
theorem kind_own {w : World} {B n : Nat} {v : Value} {cs : List Value} (h : w.ownsRow B 82 2 v n cs) : Kind w v.ownBlock := fun g hg => by
  rcases h.2 with ⟨rfl, _⟩ | ⟨g', cap, cur, rfl, _, hh, _⟩
  · cases hg
  · cases hg
    exact ⟨cur, _, hh, Or.inl rfl⟩
/-- The walk's state: k fields, and the bytes ys are left. -/
structure FX (w0 wf w : World) (i r : Nat) (v : Value) (k : Nat) (fs : List Fld) (ys : List Nat) : Prop where
  at_ : InAt w0 w i r ys
  row : w.ownsRow wf.heap.size 82 2 v k (cellsF fs)
  fld : ∀ f ∈ fs, FOwn wf.heap.size w f
  grw : wf.grownBy w (some r)
  old : r < wf.heap.size ∧ i < wf.heap.size ∧ w0.heap.size ≤ wf.heap.size
theorem InAt.kind {w0 w : World} {i r : Nat} {xs : List Nat} (h : InAt w0 w i r xs) : Kind w (some r) := fun g hg => by
  injection hg with hg
  subst hg
  obtain ⟨v, k, _⟩ := h
  exact ⟨_, _, k.r_, Or.inr rfl⟩
theorem own_ne {w : World} {B n r : Nat} {v : Value} {cs : List Value} {e : TypeId} (h : w.ownsRow B e 2 v n cs) (hr : r < B) : some r ≠ v.ownBlock := fun e => by
  have := (h.lt r e.symm).1
  omega
theorem FX.start {w0 w : World} {i r : Nat} {xs : List Nat} (h : InAt w0 w i r xs) : FX w0 w w i r (.slice none 0 0) 0 [] xs := by
  have h2 := h
  obtain ⟨v, k, hr, hw, h1, h3⟩ := h2
  exact ⟨h, ⟨by decide, .inl ⟨rfl, rfl⟩⟩, fun f hf => (by cases hf), World.grownBy.refl w _, k.r_.lt, k.i_.lt, hw.size⟩
section
variable {w0 wf w w' : World} {i r k : Nat} {v : Value} {fs : List Fld} {ys : List Nat}
theorem FX.read (h : FX w0 wf w i r v k fs ys) (hg : w.grownBy w' (some r)) {zs : List Nat} (hi : InAt w0 w' i r zs) : FX w0 wf w' i r v k fs zs :=
  ⟨hi, h.row.kept hg (by cases hv : v.ownBlock with | none => exact Or.inl rfl | some g => exact Or.inr (fun e => own_ne h.row h.old.1 (by rw [hv, e]))), fun f hf => (h.fld f hf).step hg h.at_.kind, only_trans h.grw hg, h.old⟩
theorem FX.below (h : FX w0 wf w i r v k fs ys) (hb : Below w.heap.size w w') : FX w0 wf w' i r v k fs ys :=
  ⟨h.at_.below hb, h.row.kept (only_of_below hb none) (by cases hv : v.ownBlock with | none => exact Or.inl rfl | some g => exact Or.inr (by simp)), fun f hf => (h.fld f hf).below hb, only_trans h.grw (only_of_below hb _), h.old⟩
theorem FX.app (h : FX w0 wf w i r v k fs ys) {v2 : Value} {f : Fld} (ho : w'.ownsRow wf.heap.size 82 2 v2 (k + 1) (cellsF fs ++ [.int .i64 f.n, .slice f.A f.l f.c])) (hg : w.grownBy w' v.ownBlock) (hf : FOwn wf.heap.size w f) : FX w0 wf w' i r v2 (k + 1) (fs ++ [f]) ys := by
  have hk := kind_own h.row
  have n1 := own_ne h.row h.old.1
  have n2 := own_ne h.row h.old.2.1
  obtain ⟨u, a, hr, hw, h1, h2⟩ := h.at_
  refine ⟨⟨u, ⟨a.i_.grown hg n2, a.r_.grown hg n1, a.ne⟩, hr, below_own hw h.row h.old.2.2 hg, h1, h2⟩, by simpa [cellsF] using ho, fun x hx => ?_, ?_, h.old⟩
  · rcases List.mem_append.1 hx with hx | hx
    · exact (h.fld x hx).step hg hk
    · rw [List.mem_singleton.1 hx]; exact hf.step hg hk
  · refine ⟨hg.os.trans h.grw.os, hg.tape.trans h.grw.tape, hg.output.trans h.grw.output, Nat.le_trans h.grw.size hg.size, fun j hj hne => ?_⟩
    rw [hg.block j (Nat.lt_of_lt_of_le hj h.grw.size) (own_ne h.row hj)]
    exact h.grw.block j hj hne
end
end Go.Proofs.YtcnedkgadfegbaaDoor
/- The walk of (*In).fields. -/
namespace Go.Proofs.YtcnedkgadfegbaaDoor
open Go Go.RowKit
/-- The error values that layer 2 knows. -/
def OSents (w : World) (a : Nat → Addr) : Prop := ∀ k, (k = 0 ∨ k = 1 ∨ k = 2 ∨ k = 3 ∨ k = 6) → SentAt w (sgs.getD k 0) (stexts.getD k []) (a k)
theorem OSents.below {w w' : World} {a : Nat → Addr} (h : OSents w a) {B : Nat} (hb : Below B w w') (hB : w.heap.size ≤ B) : OSents w' a := fun k hk => (h k hk).below hb hB
theorem Sents.o {w : World} {a : Nat → Addr} (h : Sents w a) : OSents w a := fun k hk => h k (by omega)
theorem fldO_info : (Tryd.prog.info? 82).map (fun i => (i.zero, i.size, i.bytes)) = some (some (.agg #[.int .i64 0, .slice none 0 0]), 2, 32) := by kernel_rfl
/-- What fields answers. -/
def FieldsPost (s : ByteArray) (xs : List Nat) (a : Nat → Addr) (w0 w : World) (i r : Nat) (e : Ending) (w' : World) : Prop :=
  (Oc.known s.data.toList = false → Fails w r (ev (a 6)) e w') ∧
  (Oc.known s.data.toList = true → ∀ c, Oc.reads (shN s) xs = .bad c → Fails w r (ev (a (c - 1))) e w') ∧
  (Oc.known s.data.toList = true → ∀ l p, Oc.reads (shN s) xs = .ok l p → ∃ v fs, e = .returned v ∧ fs.map Oc.says = l.map Oc.lays ∧ FX w0 w w' i r v s.size fs (xs.drop p))
theorem fails_from {w wr w' : World} {r : Nat} {er : Value} {e : Ending} (h : Fails wr r er e w') (g : w.grownBy wr (some r)) : Fails w r er e w' := ⟨h.1, h.2.1, only_trans g h.2.2⟩
theorem fld_num (B : Nat) (w : World) (n : Int) : FOwn B w ⟨n, none, 0, 0, []⟩ := ⟨⟨none, 0, rfl, Nat.le_refl _, fun h => absurd h (by simp)⟩, rfl, fun h => absurd h (by simp)⟩
theorem fld_own {B : Nat} {w : World} {A : Option Addr} {V c : Nat} {ys : List Nat} {B' : Nat} (h : Own B' w A V c ys 5) (hB : B ≤ B') : FOwn B w ⟨0, A, V, c, ys⟩ :=
  ⟨h.1, h.2.1, fun h0 => by obtain ⟨g, cs, e1, e2, e3⟩ := h.2.2 h0; exact ⟨g, cs, _, e1, Nat.le_trans hB e2, e3, by decide, by decide⟩⟩
theorem fld_oid {B : Nat} {w : World} (hB : B ≤ w.heap.size) {ys : List Nat} (hy : ys.length = 32) : FOwn B ((oidBox w).setRow w.heap.size (u8s ys)) ⟨0, some ⟨w.heap.size, 0, none⟩, 32, 32, ys⟩ := by
  have hb : Blk ((oidBox w).setRow w.heap.size (u8s ys)) w.heap.size 34 (u8s ys) := (Blk.new w _ _).row _
  refine ⟨⟨_, _, by rw [hy], by rw [hy]; exact Nat.le_refl _, fun _ => ⟨_, _, rfl, hb.lt, fun i hi => ?_⟩⟩, hy, fun _ => ⟨_, _, _, rfl, hB, hb, by decide, by decide⟩⟩
  rw [Nat.zero_add, hb.cell i, u8s_get _ _ hi]
theorem below_oid (w : World) (cs : Array Value) : Below w.heap.size w ((oidBox w).setRow w.heap.size cs) := below_row ((Below.refl _ _).alloc (Nat.le_refl _) _) (Nat.le_refl _) _
theorem step_num {c : Nat} (h1 : c ≠ 111) (h2 : c ≠ 116) (xs : List Nat) : Oc.step c xs = if xs.length < Oc.zs c then .bad 2 else if Oc.mostN c < Oc.val (xs.take (Oc.zs c)) then .bad 1 else .ok (Oc.val (xs.take (Oc.zs c))) [] (Oc.zs c) := by
  unfold Oc.step; rw [if_neg h1, if_neg h2]
theorem step_oid (xs : List Nat) : Oc.step 111 xs = if xs.length < 32 then .bad 2 else .ok 0 (xs.take 32) 32 := rfl
theorem step_text (xs : List Nat) : Oc.step 116 xs = if xs.length < 2 then .bad 2 else if xs.length < 2 + Oc.val (xs.take 2) then .bad 2 else .ok 0 ((xs.drop 2).take (Oc.val (xs.take 2))) (2 + Oc.val (xs.take 2)) := rfl
theorem says_snoc {fs : List Fld} {l : List (Nat × List Nat)} (h : fs.map Oc.says = l.map Oc.lays) {f : Fld} {n : Nat} {x : List Nat} (h1 : f.n = (n : Int)) (h2 : f.bs = x) : (fs ++ [f]).map Oc.says = (l ++ [(n, x)]).map Oc.lays := by
  rw [List.map_append, List.map_append, h]
  simp [Oc.says, Oc.lays, h1, h2]
theorem zs_pos {c : Nat} (h : 0 ≤ Oc.size c) (h1 : c ≠ 111) (h2 : c ≠ 116) : 0 < Oc.zs c ∧ Oc.zs c ≤ 8 ∧ Oc.nsize c = Oc.zs c := by
  rcases Oc.letter h with rfl | rfl | rfl | rfl | rfl
  · exact ⟨by decide, by decide, rfl⟩
  · exact ⟨by decide, by decide, rfl⟩
  · exact ⟨by decide, by decide, rfl⟩
  · exact absurd rfl h1
  · exact absurd rfl h2
theorem fieldsPost_bad {s : ByteArray} {xs : List Nat} {a : Nat → Addr} {w0 w : World} {i r c : Nat} {e : Ending} {w' : World} (hk : Oc.known s.data.toList = true) (hr : Oc.reads (shN s) xs = .bad c) (hf : Fails w r (ev (a (c - 1))) e w') : FieldsPost s xs a w0 w i r e w' :=
  ⟨fun h => (by rw [hk] at h; cases h), fun _ c' h => (by rw [hr] at h; injection h with h; subst h; exact hf), fun _ l p h => (by rw [hr] at h; cases h)⟩
/-- what the loop's relation says -/
def FRel (s : ByteArray) (xs : List Nat) (w0 wf wr : World) (i r : Nat) (v : Value) (k : Nat) : Prop :=
  ∃ l p fs, Oc.reads ((shN s).take k) xs = .ok l p ∧ fs.map Oc.says = l.map Oc.lays ∧ FX w0 wf wr i r v k fs (xs.drop p)
end Go.Proofs.YtcnedkgadfegbaaDoor
/- run: what is deferred, and run itself. -/
namespace Go.Proofs.YtcnedkgadfegbaaDoor
open Go Go.RowKit
theorem slots17 (x v : Value) : #[x] ++ (Array.replicate 17 undef).setIfInBounds 3 v = #[x, undef, undef, undef, v, undef, undef, undef, undef, undef, undef, undef, undef, undef, undef, undef, undef, undef] := by kernel_rfl
theorem stop_eql (r : Nat) (w : World) : (binOp .eql 20 (stopV r) .nilIface).run Tryd.prog w = .ok (.bool false) w := by kernel_rfl
theorem stop_assert (r : Nat) (w : World) : (Instr.typeAssert (stopV r) 20 94 true).run Tryd.prog w = .ok (.tuple #[.agg #[.pointer (some ⟨r, 0, none⟩)], .bool true]) w := by kernel_rfl
theorem stop_neq (r : Nat) (w : World) : (binOp .neq 65 (.pointer (some ⟨r, 0, none⟩)) (.pointer (some ⟨r, 0, none⟩))).run Tryd.prog w = .ok (.bool false) w := by
  cases h : Tryd.prog.info? 67 with
  | none =>
    have h2 : (Tryd.prog.info? 67).isSome = true := by kernel_rfl
    rw [h] at h2; cases h2
  | some j => exact Lib.run_neq_ptr_same w _ Tryd.underlying65 h
/-- the world in which the function that reads is called: run's variable, the In -/
abbrev runBox (w : World) (r : Nat) : World := (w.alloc (.cells #[.pointer (some ⟨r, 0, none⟩)] 65)).alloc (.cells #[.pointer (some ⟨r, 0, none⟩)] 93)
end Go.Proofs.YtcnedkgadfegbaaDoor
/- Take: what it answers, whatever reads. -/
namespace Go.Proofs.YtcnedkgadfegbaaDoor
open Go Go.RowKit
/-- all that stood before stands, but for the blocks of S -/
structure Kpt (S : Nat → Prop) (w w' : World) : Prop where
  os : w'.os = w.os
  tape : w'.tape = w.tape
  output : w'.output = w.output
  size : w.heap.size ≤ w'.heap.size
  block : ∀ b, b < w.heap.size → ¬ S b → w'.heap[b]? = w.heap[b]?
theorem Kpt.of_below {S : Nat → Prop} {w w' : World} (h : Below w.heap.size w w') : Kpt S w w' := ⟨h.os, h.tape, h.output, h.size, fun b hb _ => h.block b hb⟩
theorem Kpt.of_grown {S : Nat → Prop} {w w' : World} {r : Nat} (h : w.grownBy w' (some r)) (hr : S r) : Kpt S w w' := ⟨h.os, h.tape, h.output, h.size, fun b hb hs => h.block b hb (fun e => by injection e with e; subst e; exact hs hr)⟩
theorem Kpt.trans {S : Nat → Prop} {a b c : World} (h : Kpt S a b) (k : Kpt S b c) : Kpt S a c := ⟨k.os.trans h.os, k.tape.trans h.tape, k.output.trans h.output, Nat.le_trans h.size k.size, fun x hx hs => (k.block x (Nat.lt_of_lt_of_le hx h.size) hs).trans (h.block x hx hs)⟩
theorem Kpt.below {w w' : World} (h : Kpt (fun _ => False) w w') : Below w.heap.size w w' := ⟨h.os, h.tape, h.output, h.size, fun b hb => h.block b hb (fun h => h)⟩
/-- what has come to be since may turn -/
theorem Kpt.old {S T : Nat → Prop} {a b c : World} (h : Kpt S a b) (k : Kpt T b c) (hT : ∀ x, T x → x < a.heap.size → S x) : Kpt S a c :=
  ⟨k.os.trans h.os, k.tape.trans h.tape, k.output.trans h.output, Nat.le_trans h.size k.size, fun x hx hs => (k.block x (Nat.lt_of_lt_of_le hx h.size) (fun ht => hs (hT x ht hx))).trans (h.block x hx hs)⟩
theorem Kpt.blk {S : Nat → Prop} {w w' : World} (h : Kpt S w w') {g : Nat} {t : TypeId} {cs : Array Value} (hg : Blk w g t cs) (hs : ¬ S g) : Blk w' g t cs := (h.block g hg.lt hs).trans hg
theorem Kpt.cell {S : Nat → Prop} {w w' : World} (h : Kpt S w w') {p : Addr} {v : Value} (hp : w.cell? p = some v) (hs : ¬ S p.block) : w'.cell? p = some v := (World.cell?_of_block (h.block p.block (block_lt_of_cell hp) hs)).trans hp
theorem rdg_info : (Tryd.prog.info? 67).map (·.size) = some 4 := by kernel_rfl
/-- the world in which run is called: the reading, Take's variable -/
abbrev takeBox (w : World) (v : Value) : World := (w.alloc (.cells #[v, .bool true, .bool false, .nilIface] 67)).alloc (.cells #[.pointer (some ⟨w.heap.size, 0, none⟩)] 65)
theorem takeBox_size (w : World) (v : Value) : (takeBox w v).heap.size = w.heap.size + 2 := by simp
theorem runBox_size (w : World) (r : Nat) : (runBox w r).heap.size = w.heap.size + 2 := by simp
theorem below_takeRun (w : World) (v : Value) : Below w.heap.size w (runBox (takeBox w v) w.heap.size) :=
  ((((Below.refl _ _).alloc (Nat.le_refl _) _).alloc (by simp) _).alloc (by simp <;> omega) _).alloc (by simp <;> omega) _
theorem inAt_run {w0 w : World} {v : Value} {xs : List Nat} (hw : Below w0.heap.size w0 w) (hv : Rd w0 v xs) : InAt w0 (runBox (takeBox w v) w.heap.size) ((takeBox w v).heap.size + 1) w.heap.size xs := by
  refine ⟨v, ⟨?_, ?_, ?_⟩, hv, below_then hw (below_takeRun w v), hw.size, ?_⟩
  · have h := Blk.new ((takeBox w v).alloc (.cells #[.pointer (some ⟨w.heap.size, 0, none⟩)] 65)) 93 #[.pointer (some ⟨w.heap.size, 0, none⟩)]
    rwa [show ((takeBox w v).alloc (.cells #[.pointer (some ⟨w.heap.size, 0, none⟩)] 65)).heap.size = (takeBox w v).heap.size + 1 by simp] at h
  · exact (((Blk.new w _ _).alloc _).alloc _).alloc _
  · rw [takeBox_size]; omega
  · rw [takeBox_size]; have := hw.size; omega
theorem var_run (w : World) (v : Value) : Blk (runBox (takeBox w v) w.heap.size) (w.heap.size + 1) 65 #[.pointer (some ⟨w.heap.size, 0, none⟩)] := by
  have h := Blk.new (w.alloc (.cells #[v, .bool true, .bool false, .nilIface] 67)) 65 #[.pointer (some ⟨w.heap.size, 0, none⟩)]
  rw [show (w.alloc (.cells #[v, .bool true, .bool false, .nilIface] 67)).heap.size = w.heap.size + 1 by simp] at h
  exact (h.alloc _).alloc _
theorem var_run2 (w : World) (v : Value) : Blk (runBox (takeBox w v) w.heap.size) (w.heap.size + 2) 65 #[.pointer (some ⟨w.heap.size, 0, none⟩)] := by
  have h := Blk.new (takeBox w v) 65 #[.pointer (some ⟨w.heap.size, 0, none⟩)]
  rw [takeBox_size] at h
  exact h.alloc _
end Go.Proofs.YtcnedkgadfegbaaDoor
/- Take, whatever reads: what it answers. -/
namespace Go.Proofs.YtcnedkgadfegbaaDoor
open Go Go.RowKit
/-- What Take is told of a function that reads: it goes on to zs. -/
def ReadsTo (K : Nat) (cap : Array Value) (S : Nat → Prop) (w0 w : World) (xs zs : List Nat) (R : Nat → Value → World → Prop) : Prop :=
  ∀ (w2 : World) (i r : Nat), w.heap.size ≤ r → w.heap.size ≤ i → InAt w0 w2 i r xs → Below w.heap.size w w2 →
    Calls Tryd.prog K (#[.pointer (some ⟨i, 0, none⟩)] ++ cap) w2 fun e w' => ∃ u, e = .returned u ∧ InAt w0 w' i r zs ∧ Kpt (fun b => b = r ∨ S b) w2 w' ∧ R r u w'
/-- .. it ends by an error. -/
def ReadsBad (K : Nat) (cap : Array Value) (S : Nat → Prop) (w0 w : World) (xs : List Nat) (ae : Addr) : Prop :=
  ∀ (w2 : World) (i r : Nat), w.heap.size ≤ r → w.heap.size ≤ i → InAt w0 w2 i r xs → Below w.heap.size w w2 →
    Calls Tryd.prog K (#[.pointer (some ⟨i, 0, none⟩)] ++ cap) w2 fun e w' => e = .panicked [{ v := stopV r, recovered := false }] ∧ Dead w' r (ev ae) ∧ Kpt (fun b => b = r ∨ S b) w2 w'
section
variable {S : Nat → Prop} {w0 w w1 w2 : World} {v : Value}
theorem kpt_end (h1 : Kpt (fun b => b = w.heap.size ∨ S b) (runBox (takeBox w v) w.heap.size) w1) (h2 : w1.grownBy w2 (some w.heap.size)) : Kpt S w w2 :=
  Kpt.old (Kpt.of_below (below_takeRun w v)) (Kpt.trans h1 (Kpt.of_grown h2 (Or.inl rfl))) fun x hx hl => hx.elim (fun e => by omega) id
theorem kpt_var (hS : ∀ b, S b → b < w.heap.size) (h1 : Kpt (fun b => b = w.heap.size ∨ S b) (runBox (takeBox w v) w.heap.size) w1) : w1.cell? ⟨w.heap.size + 1, 0, none⟩ = some (.pointer (some ⟨w.heap.size, 0, none⟩)) :=
  (h1.blk (var_run w v) (fun e => by rcases e with e | e; omega; have := hS _ e; omega)).cell 0
theorem kpt_var2 (hS : ∀ b, S b → b < w.heap.size) (h1 : Kpt (fun b => b = w.heap.size ∨ S b) (runBox (takeBox w v) w.heap.size) w1) : w1.cell? ⟨(takeBox w v).heap.size, 0, none⟩ = some (.pointer (some ⟨w.heap.size, 0, none⟩)) := by
  rw [takeBox_size]
  exact (h1.blk (var_run2 w v) (fun e => by rcases e with e | e; omega; have := hS _ e; omega)).cell 0
end
end Go.Proofs.YtcnedkgadfegbaaDoor
/- A goal set aside: the walk stands still at it. -/
namespace Go.Proofs.YtcnedkgadfegbaaDoor
/-- A walk rests here. -/
def Paused (p : Prop) : Prop := p
theorem pause {p : Prop} (h : Paused p) : p := h
end Go.Proofs.YtcnedkgadfegbaaDoor
