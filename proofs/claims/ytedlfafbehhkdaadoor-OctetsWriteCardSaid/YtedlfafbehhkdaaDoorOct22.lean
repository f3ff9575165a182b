/- octets.Read and octets.Rest. -/
import Derived.Test.YtedlfafbehhkdaaDoorOct21
namespace Go.Proofs.YtedlfafbehhkdaaDoor
open Go Go.RowKit
theorem below_of_kpt {S : Nat → Prop} {a b c : World} (h : Below a.heap.size a b) (k : Kpt S b c) (hS : ∀ x, S x → a.heap.size ≤ x) : Below a.heap.size a c :=
  ⟨k.os.trans h.os, k.tape.trans h.tape, k.output.trans h.output, Nat.le_trans h.size k.size, fun x hx => (k.block x (Nat.lt_of_lt_of_le hx h.size) (fun e => by have := hS x e; omega)).trans (h.block x hx)⟩
section
variable (s : ByteArray) (xs : List Nat) (a : Nat → Addr) (A : Option Addr) (n c : Nat) (w : World)
abbrev shBox (w : World) (s : ByteArray) : World := w.alloc (.cells #[.string s] 9)
abbrev restBox (w : World) (s : ByteArray) : World := (shBox w s).alloc (.cells #[.slice none 0 0] 24)
theorem shBox_cell (w : World) (s : ByteArray) : (shBox w s).cell? ⟨w.heap.size, 0, none⟩ = some (.string s) := (Blk.new w 9 #[.string s]).cell 0
theorem restBox_cell (w : World) (s : ByteArray) : (restBox w s).cell? ⟨w.heap.size, 0, none⟩ = some (.string s) := ((Blk.new w 9 #[.string s]).alloc _).cell 0
theorem restBox_blk (w : World) (s : ByteArray) : Blk (restBox w s) (w.heap.size + 1) 24 #[.slice none 0 0] := by
  have h := Blk.new (shBox w s) 24 #[.slice none 0 0]
  rwa [show (shBox w s).heap.size = w.heap.size + 1 by simp] at h
theorem restBox_size (w : World) (s : ByteArray) : (restBox w s).heap.size = w.heap.size + 2 := by simp
theorem below_shBox (w : World) (s : ByteArray) : Below w.heap.size w (shBox w s) := (Below.refl _ _).alloc (Nat.le_refl _) _
theorem below_restBox (w : World) (s : ByteArray) : Below w.heap.size w (restBox w s) := (below_shBox w s).alloc (below_shBox w s).size _
set_option maxRecDepth 100000 in
theorem oread_any (hv : Rd w (.slice A n c) xs) (hs : s.size ≤ 1000) (hb : Oc.bytes xs) (hS : OSents w a) (hk : Oc.known s.data.toList = true) (l : List (Nat × List Nat)) (h : Oc.reads (shN s) xs = .ok l xs.length) :
    Calls Tryd.prog 11 #[.string s, .slice A n c] w fun e w' => ∃ A1 b c1 fs, e = .returned (.tuple #[.slice A1 fs.length c1, .nilIface]) ∧ (0 < fs.length → A1 = some ⟨b, 0, none⟩) ∧ FRow w' b 0 fs ∧ fs.map Oc.says = l.map Oc.lays ∧ Below w.heap.size w w' := by
  have hmf : ∀ (fn : Fn) (first cap : Array Value) (w : World), (Instr.makeFunc fn first cap).run Tryd.prog w = .ok (.func fn first cap) w := fun _ _ _ _ => rfl
  have hrd := read_ok s xs a w.heap.size w (shBox w s) hs hb hS (shBox_cell w s) hk l xs.length h
  rw [List.drop_length] at hrd
  have CT := takeF_ok 30 #[.pointer (some ⟨w.heap.size, 0, none⟩)] (fun _ => False) w (shBox w s) A n c xs (RF l) enter_read (below_shBox w s) hv (fun _ h => h.elim) hrd RF.step
  clear hrd hv hb hS hk h
  go_enter Tryd.func11, Tryd.ntmps11
  go_wp2_with (go_at_call 29; refine CT.mono ?_; rintro e w1 ⟨u, r, rfl, hr, hf, hkp⟩; obtain ⟨fs, hsy, hfin⟩ := hf; have HB : Hid (Below w.heap.size w w1) := Lib.hid (below_of_kpt (below_shBox w s) hkp (fun _ h => h.elim)); obtain ⟨A1, b, c1, rfl, hA, hrow⟩ := hfin.row (Nat.lt_of_lt_of_le (show 0 < (shBox w s).heap.size by simp) hkp.size); have HA := Lib.hid hA; have HR := Lib.hid hrow; have HSY := Lib.hid hsy; clear hkp hsy hfin hA hrow CT)
  go_ret2
  exact ⟨A1, b, c1, fs, rfl, HA.out, HR.out, HSY.out, HB.out⟩
set_option maxRecDepth 100000 in
theorem orest_any (hv : Rd w (.slice A n c) xs) (hs : s.size ≤ 1000) (hb : Oc.bytes xs) (hl : xs.length ≤ 1099511627776) (hS : OSents w a) (hk : Oc.known s.data.toList = true) (l : List (Nat × List Nat)) (p : Nat) (h : Oc.reads (shN s) xs = .ok l p) :
    Calls Tryd.prog 14 #[.string s, .slice A n c] w fun e w' => ∃ A1 b c1 A2 c2 fs, e = .returned (.tuple #[.slice A1 fs.length c1, .slice A2 (xs.drop p).length c2, .nilIface]) ∧ (0 < fs.length → A1 = some ⟨b, 0, none⟩) ∧ FRow w' b 0 fs ∧ fs.map Oc.says = l.map Oc.lays ∧ Rd w' (.slice A2 (xs.drop p).length c2) (xs.drop p) ∧ Below w.heap.size w w' := by
  have hmf : ∀ (fn : Fn) (first cap : Array Value) (w : World), (Instr.makeFunc fn first cap).run Tryd.prog w = .ok (.func fn first cap) w := fun _ _ _ _ => rfl
  have hrd := rest_ok s xs a w.heap.size (w.heap.size + 1) w (restBox w s) hs hb hl hS (restBox_cell w s) (restBox_blk w s) (by omega) hk l p h
  have CT := takeF_ok 32 #[.pointer (some ⟨w.heap.size, 0, none⟩), .pointer (some ⟨w.heap.size + 1, 0, none⟩)] (fun b => b = w.heap.size + 1) w (restBox w s) A n c xs (RR l (xs.drop p) (w.heap.size + 1)) enter_rest (below_restBox w s) hv (fun b h => by rw [restBox_size]; omega) hrd RR.step
  clear hrd hv hb hS hk h
  generalize xs.drop p = ys at CT ⊢
  go_enter Tryd.func14, Tryd.ntmps14
  go_wp2_with (go_at_call 29; refine CT.mono ?_; rintro e w1 ⟨u, r, rfl, hr, hf, hkp⟩; obtain ⟨fs, A2, c2, hsy, hfin, hc2, hfr, _⟩ := hf; have HB : Hid (Below w.heap.size w w1) := Lib.hid (below_of_kpt (below_restBox w s) hkp (fun _ h => by omega)); obtain ⟨A1, b, c1, rfl, hA, hrow⟩ := hfin.row (Nat.lt_of_lt_of_le (Nat.lt_of_lt_of_le (by rw [restBox_size]; omega) (Nat.le_refl (restBox w s).heap.size)) hkp.size); have HA := Lib.hid hA; have HR := Lib.hid hrow; have HSY := Lib.hid hsy; have HFR := Lib.hid hfr; clear hkp hsy hfin hA hrow CT hfr)
  go_quiet (fail)
  go_wp2
  go_ret3
  exact ⟨A1, b, c1, A2, c2, fs, rfl, HA.out, HR.out.below (below_drewN (Below.refl _ _) nq) (Nat.le_refl _), HSY.out, HFR.out.rd.below (below_drewN (Below.refl _ _) nq) (Nat.le_refl _), below_drewN HB.out nq⟩
theorem rest_bad (sh q : Nat) (w0 w : World) (hs : s.size ≤ 1000) (hb : Oc.bytes xs) (hS : OSents w0 a) (hsh : w.cell? ⟨sh, 0, none⟩ = some (.string s)) (ae : Addr) (h : ∀ w2 i r e w', FieldsPost s xs a w0 w2 i r e w' → Fails w2 r (ev ae) e w') :
    ReadsBad 32 #[.pointer (some ⟨sh, 0, none⟩), .pointer (some ⟨q, 0, none⟩)] (fun _ => False) w0 w xs ae := by
  intro w2 i r hr hri hi hbel
  change Calls Tryd.prog 32 #[.pointer (some ⟨i, 0, none⟩), .pointer (some ⟨sh, 0, none⟩), .pointer (some ⟨q, 0, none⟩)] w2 _
  have p1 : w2.cell? ⟨sh, 0, none⟩ = some (.string s) := (hbel.cell (block_lt_of_cell hsh)).trans hsh
  have CF := (fields_any s i r xs a w0 w2 hi hs hb hS).mono (h w2 i r)
  clear h hi hb hS hsh
  go_enter Tryd.func32, Tryd.ntmps32
  go_wp2_with (go_at_call 31; refine CF.mono ?_; rintro e w3 ⟨rfl, hd, hg⟩)
  exact ⟨rfl, rfl, hd, Kpt.of_grown hg (Or.inl rfl)⟩
set_option maxRecDepth 100000 in
theorem orest_bad (hv : Rd w (.slice A n c) xs) (hs : s.size ≤ 1000) (hb : Oc.bytes xs) (hS : OSents w a) (ae : Addr) (h : ∀ w2 i r e w', FieldsPost s xs a w w2 i r e w' → Fails w2 r (ev ae) e w') :
    Calls Tryd.prog 14 #[.string s, .slice A n c] w fun e w' => e = .returned (.tuple #[.slice none 0 0, .slice none 0 0, ev ae]) ∧ Below w.heap.size w w' := by
  have hmf : ∀ (fn : Fn) (first cap : Array Value) (w : World), (Instr.makeFunc fn first cap).run Tryd.prog w = .ok (.func fn first cap) w := fun _ _ _ _ => rfl
  have hrd := rest_bad s xs a w.heap.size (w.heap.size + 1) w (restBox w s) hs hb hS (restBox_cell w s) ae h
  have CT := takeF_bad 32 #[.pointer (some ⟨w.heap.size, 0, none⟩), .pointer (some ⟨w.heap.size + 1, 0, none⟩)] (fun _ => False) w (restBox w s) A n c xs ae enter_rest (below_restBox w s) hv (fun _ h => h.elim) hrd
  clear hrd hv hb hS h
  go_enter Tryd.func14, Tryd.ntmps14
  go_wp2_with (go_at_call 29; refine CT.mono ?_; rintro e w1 ⟨rfl, hkp⟩; have HB : Hid (Below w.heap.size w w1) := Lib.hid (below_of_kpt (below_restBox w s) hkp (fun _ h => h.elim)); have p1 : w1.cell? ⟨w.heap.size + 1, 0, none⟩ = some (.slice none 0 0) := (hkp.blk (restBox_blk w s) (fun h => h)).cell 0; clear hkp CT)
  go_quiet (fail)
  go_wp2
  go_ret3
  exact ⟨rfl, below_drewN HB.out nq⟩
end
end Go.Proofs.YtedlfafbehhkdaaDoor
