/- Take, whatever reads: what it answers. -/
import Derived.Test.YtdokojlgcplefaaDoorMOct16s
import Derived.Lib.ConvBytes
import Derived.Test.YtdokojlgcplefaaDoorMBases
import Derived.Test.YtdokojlgcplefaaDoorMLawKits
namespace Go.Proofs.YtdokojlgcplefaaDoor
open Go Go.RowKit
def ReadsTo (K : Nat) (cap : Array Value) (S : Nat → Prop) (w0 w : World) (xs zs : List Nat) (R : Nat → Value → World → Prop) : Prop :=
 ∀ (w2 : World) (i r : Nat), w.heap.size ≤ r → w.heap.size ≤ i → InAt w0 w2 i r xs → Below w.heap.size w w2 →
  Calls Tryd.prog K (#[.pointer (some ⟨i, 0, none⟩)] ++ cap) w2 fun e w' => ∃ u, e = .returned u ∧ InAt w0 w' i r zs ∧ Kpt (fun b => b = r ∨ S b) w2 w' ∧ R r u w'
def ReadsBad (K : Nat) (cap : Array Value) (S : Nat → Prop) (w0 w : World) (xs : List Nat) (ae : Addr) : Prop :=
 ∀ (w2 : World) (i r : Nat), w.heap.size ≤ r → w.heap.size ≤ i → InAt w0 w2 i r xs → Below w.heap.size w w2 →
  Calls Tryd.prog K (#[.pointer (some ⟨i, 0, none⟩)] ++ cap) w2 fun e w' => e = .panicked [{ v := stopV r, recovered := false }] ∧ Dead w' r (ev ae) ∧ Kpt (fun b => b = r ∨ S b) w2 w'
section
variable {S : Nat → Prop} {w0 w w1 w2 : World} {v : Value}
theorem kpt_end (h1 : Kpt (fun b => b = w.heap.size ∨ S b) (runBox (takeBox w v) w.heap.size) w1) (h2 : w1.grownBy w2 (some w.heap.size)) : Kpt S w w2 :=
 Kpt.old (Kpt.of_below (below_takeRun w v)) (Kpt.trans h1 (Kpt.of_grown h2 (Or.inl rfl))) fun x hx hl => hx.elim (fun e => by omega) id
theorem kpt_var (hS : ∀ b, S b → b < w.heap.size) (h1 : Kpt (fun b => b = w.heap.size ∨ S b) (runBox (takeBox w v) w.heap.size) w1) : w1.cell? ⟨w.heap.size + 1, 0, none⟩ = some (.pointer (some ⟨w.heap.size, 0, none⟩)) :=
 (h1.blk (var_run w v) (fun e => by rcases e with e | e; omega; have := hS _ e; omega)).cell 0
theorem kpt_var2 (hS : ∀ b, S b → b < w.heap.size) (h1 : Kpt (fun b => b = w.heap.size ∨ S b) (runBox (takeBox w v) w.heap.size) w1) : w1.cell? ⟨(takeBox w v).heap.size, 0, none⟩ = some (.pointer (some ⟨w.heap.size, 0, none⟩)) := by
 rw [takeBox_size]
 exact (h1.blk (var_run2 w v) (fun e => by rcases e with e | e; omega; have := hS _ e; omega)).cell 0
end
set_option maxRecDepth 100000 in
theorem takeF_ok (K : Nat) (cap : Array Value) (S : Nat → Prop) (w0 w : World) (A : Option Addr) (n c : Nat) (xs : List Nat) (R : Nat → Value → World → Prop) (hK : ∀ args w, (callFunc K args).run Tryd.prog w = .ok (.enter K args) w)
  (hw : Below w0.heap.size w0 w) (hv : Rd w0 (.slice A n c) xs) (hS : ∀ b, S b → b < w.heap.size) (hread : ReadsTo K cap S w0 w xs [] R) (hR : ∀ r u a b, R r u a → a.grownBy b (some r) → R r u b) :
  Calls Tryd.prog 61 #[.slice A n c, .func (.func K) #[] cap] w fun e w' => ∃ u r, e = .returned (.tuple #[u, .nilIface]) ∧ w.heap.size ≤ r ∧ R r u w' ∧ Kpt S w w' := by
 have hmf : ∀ (fn : Fn) (first cap : Array Value) (w : World), (Instr.makeFunc fn first cap).run Tryd.prog w = .ok (.func fn first cap) w := fun _ _ _ _ => rfl
 have CR := runF_ok K cap w.heap.size (takeBox w (.slice A n c)) (fun u w' => InAt w0 w' ((takeBox w (.slice A n c)).heap.size + 1) w.heap.size [] ∧ Kpt (fun b => b = w.heap.size ∨ S b) (runBox (takeBox w (.slice A n c)) w.heap.size) w' ∧ R w.heap.size u w') hK (hread _ _ _ (Nat.le_refl _) (by rw [takeBox_size]; omega) (inAt_run hw hv) (below_takeRun w _))
 have HS := Lib.hid hS
 have HRR := Lib.hid hR
 clear hread hS hR
 go_enter_defers Tryd.func61, Tryd.ntmps61
 go_wp2_with (go_at_call 74; refine CR.mono ?_; rintro e w1 ⟨u, rfl, hi, hk, hr⟩; have p0 : w1.cell? ⟨w.heap.size + 1, 0, none⟩ = some (.pointer (some ⟨w.heap.size, 0, none⟩)) := kpt_var HS.out hk; obtain ⟨vz, hz, ⟨Az, cz, rfl, _, _⟩, _⟩ := hi; have p1 : w1.cell? ⟨w.heap.size, 2, none⟩ = some (.bool false) := hz.r_.cell 2; have p2 : w1.cell? ⟨w.heap.size, 0, none⟩ = some (.slice Az 0 cz) := hz.r_.cell 0; have HZ := Lib.hid hz.r_; have HK := Lib.hid hk; have HR := Lib.hid hr; clear hz hk hr CR)
 refine leaves_cons (f := 73) (args := #[.pointer (some ⟨w.heap.size + 1, 0, none⟩)]) (by simp) (by simp [go_sem]) ?_
 refine (closeF_any (w.heap.size + 1) w.heap.size _ _ _ _ _ p0 HZ.out).mono ?_
 rintro e u' w'' ⟨rfl, rfl, hg⟩
 refine ⟨_, results_tmp2 rfl _ _ _, ?_⟩
 exact ⟨u, w.heap.size, rfl, Nat.le_refl _, HRR.out _ _ _ _ HR.out hg, kpt_end HK.out hg⟩
set_option maxRecDepth 100000 in
theorem takeF_bad (K : Nat) (cap : Array Value) (S : Nat → Prop) (w0 w : World) (A : Option Addr) (n c : Nat) (xs : List Nat) (ae : Addr) (hK : ∀ args w, (callFunc K args).run Tryd.prog w = .ok (.enter K args) w)
  (hw : Below w0.heap.size w0 w) (hv : Rd w0 (.slice A n c) xs) (hS : ∀ b, S b → b < w.heap.size) (hread : ReadsBad K cap S w0 w xs ae) :
  Calls Tryd.prog 61 #[.slice A n c, .func (.func K) #[] cap] w fun e w' => e = .returned (.tuple #[.slice none 0 0, ev ae]) ∧ Kpt S w w' := by
 have hmf : ∀ (fn : Fn) (first cap : Array Value) (w : World), (Instr.makeFunc fn first cap).run Tryd.prog w = .ok (.func fn first cap) w := fun _ _ _ _ => rfl
 have CR := runF_bad K cap w.heap.size (takeBox w (.slice A n c)) (fun w' => Dead w' w.heap.size (ev ae) ∧ Kpt (fun b => b = w.heap.size ∨ S b) (runBox (takeBox w (.slice A n c)) w.heap.size) w') hK (hread _ _ _ (Nat.le_refl _) (by rw [takeBox_size]; omega) (inAt_run hw hv) (below_takeRun w _)) (fun a h => kpt_var2 hS h.2) (fun a b h k => ⟨h.1.grown k, h.2.trans (Kpt.of_below k)⟩)
 have HS := Lib.hid hS
 clear hread hS
 go_enter_defers Tryd.func61, Tryd.ntmps61
 go_wp2_with (go_at_call 74; refine CR.mono ?_; rintro e w1 ⟨rfl, hd, hk⟩; have p0 : w1.cell? ⟨w.heap.size + 1, 0, none⟩ = some (.pointer (some ⟨w.heap.size, 0, none⟩)) := kpt_var HS.out hk; obtain ⟨vd, hd⟩ := hd; have p1 : w1.cell? ⟨w.heap.size, 2, none⟩ = some (.bool true) := hd.cell 2; have p2 : w1.cell? ⟨w.heap.size, 3, none⟩ = some (ev ae) := hd.cell 3; have HZ := Lib.hid hd; have HK := Lib.hid hk; clear hd hk CR)
 go_quiet (fail)
 go_wp2
 refine leaves_cons (f := 73) (args := #[.pointer (some ⟨w.heap.size + 1, 0, none⟩)]) (by simp) (by simp [go_sem]) ?_
 refine (closeF_any (w.heap.size + 1) w.heap.size _ _ _ _ (w1.drewN nq) p0 (HZ.out.drewN nq)).mono ?_
 rintro e u' w'' ⟨rfl, rfl, hg⟩
 refine ⟨_, results_tmp2 rfl _ _ _, ?_⟩
 exact ⟨rfl, kpt_end (HK.out.trans (Kpt.of_below (below_drewN (Below.refl _ _) nq))) hg⟩
end Go.Proofs.YtdokojlgcplefaaDoor
/- The functions that Read and Rest hand to Take. -/
namespace Go.Proofs.YtdokojlgcplefaaDoor
open Go Go.RowKit
structure FR (S : Nat → Prop) (w : World) (f : Fld) : Prop where
 rd : Rd w (.slice f.A f.l f.c) f.bs
 len : f.bs.length = f.l
 own : 0 < f.l → ∃ g, f.A = some ⟨g, 0, none⟩ ∧ ¬ S g ∧ g < w.heap.size
theorem Rd.kpt {S : Nat → Prop} {w w' : World} {g n c : Nat} {xs : List Nat} (h : Rd w (.slice (some ⟨g, 0, none⟩) n c) xs) (k : Kpt S w w') (hg : ¬ S g) : Rd w' (.slice (some ⟨g, 0, none⟩) n c) xs := by
 obtain ⟨A, c', hv, hc, hA⟩ := h
 injection hv with e1 e2 e3
 subst e1 e2 e3
 refine ⟨_, _, rfl, hc, fun h0 => ?_⟩
 obtain ⟨b, o, ha, hb, hx⟩ := hA h0
 injection ha with ha
 injection ha with e4 e5
 subst e4 e5
 exact ⟨_, _, rfl, Nat.lt_of_lt_of_le hb k.size, fun i hi => k.cell (hx i hi) hg⟩
theorem Rd.nil {w : World} {A : Option Addr} {c : Nat} (xs : List Nat) (h : xs = []) : Rd w (.slice A 0 c) xs := by subst h; exact ⟨A, c, rfl, Nat.zero_le _, fun h => absurd h (by simp)⟩
theorem FR.step {S : Nat → Prop} {w w' : World} {f : Fld} (h : FR S w f) (k : Kpt S w w') : FR S w' f := by
 refine ⟨?_, h.len, fun h0 => ?_⟩
 ·have hl := h.len
  have hr := h.rd
  have ho := h.own
  obtain ⟨n, A, l, c, bs⟩ := f
  dsimp only at hl hr ho ⊢
  rcases Nat.eq_zero_or_pos l with rfl | h0
  ·exact Rd.nil bs (List.eq_nil_of_length_eq_zero hl)
  ·obtain ⟨g, rfl, hg, _⟩ := ho h0
   exact hr.kpt k hg
 ·obtain ⟨g, e, hg, hlt⟩ := h.own h0
  exact ⟨g, e, hg, Nat.lt_of_lt_of_le hlt k.size⟩
theorem FOwn.fr {S : Nat → Prop} {B : Nat} {w : World} {f : Fld} (h : FOwn B w f) (hS : ∀ b, S b → b < B) : FR S w f :=
 ⟨h.rd, h.len, fun h0 => by
  obtain ⟨g, cs, t, e1, e2, hB, _⟩ := h.own h0
  exact ⟨g, e1, fun e => by have := hS g e; omega, hB.lt⟩⟩
structure Fin' (w : World) (S : Nat → Prop) (u : Value) (fs : List Fld) : Prop where
 out : ∃ A b c, u = .slice A fs.length c ∧ (0 < fs.length → A = some ⟨b, 0, none⟩ ∧ ¬ S b ∧ b < w.heap.size ∧ ∀ j v, (cellsF fs)[j]? = some v → w.cell? ⟨b, j, none⟩ = some v)
 fld : ∀ f ∈ fs, FR S w f
theorem Fin'.step {S : Nat → Prop} {w w' : World} {u : Value} {fs : List Fld} (h : Fin' w S u fs) (k : Kpt S w w') : Fin' w' S u fs := by
 obtain ⟨A, b, c, hu, h2⟩ := h.out
 refine ⟨⟨A, b, c, hu, fun h0 => ?_⟩, fun f hf => (h.fld f hf).step k⟩
 obtain ⟨e1, e2, e3, e4⟩ := h2 h0
 exact ⟨e1, e2, Nat.lt_of_lt_of_le e3 k.size, fun j v hj => k.cell (e4 j v hj) e2⟩
theorem Fin'.row {S : Nat → Prop} {w : World} {u : Value} {fs : List Fld} (h : Fin' w S u fs) (h0 : 0 < w.heap.size) : ∃ A b c, u = .slice A fs.length c ∧ (0 < fs.length → A = some ⟨b, 0, none⟩) ∧ FRow w b 0 fs := by
 obtain ⟨A, b, c, hu, h2⟩ := h.out
 rcases Nat.eq_zero_or_pos fs.length with hz | hz
 ·have e := List.eq_nil_of_length_eq_zero hz
  subst e
  exact ⟨A, 0, c, hu, fun h => absurd h (by simp), ⟨fun i hi => absurd hi (by simp), fun i hi => absurd hi (by simp), fun f hf => (by cases hf), h0⟩⟩
 ·obtain ⟨e1, e2, e3, e4⟩ := h2 hz
  exact ⟨A, b, c, hu, fun _ => e1, ⟨fun i hi => by rw [Nat.zero_add]; exact e4 _ _ (cellsF_get hi).1, fun i hi => by rw [Nat.zero_add]; exact e4 _ _ (cellsF_get hi).2, fun f hf => ⟨(h.fld f hf).rd, (h.fld f hf).len⟩, e3⟩⟩
theorem FX.fin {w0 wf w : World} {i r k : Nat} {v : Value} {fs : List Fld} {ys : List Nat} (h : FX w0 wf w i r v k fs ys) (hk : fs.length = k) {S : Nat → Prop} (hS : ∀ b, S b → b < wf.heap.size) : Fin' w S v fs := by
 subst hk
 refine ⟨?_, fun f hf => (h.fld f hf).fr hS⟩
 have hrow := h.row
 rcases h.row.2 with ⟨rfl, h0⟩ | ⟨g, cap, cur, rfl, hb, hh, _⟩
 ·exact ⟨none, 0, 0, by rw [h0], fun h => by omega⟩
 ·refine ⟨_, g, cap, rfl, fun _ => ⟨rfl, fun e => ?_, (Array.getElem?_eq_some_iff.1 hh).1, fun j v hj => ?_⟩⟩
  ·have := hS g e; omega
  ·have hj2 : j < (cellsF fs).length := (List.getElem?_eq_some_iff.1 hj).1
   rw [cellsF_len] at hj2
   rw [hrow.cellAt j (by omega)]
   exact hj
def RF (l : List (Nat × List Nat)) (r : Nat) (u : Value) (w : World) : Prop := ∃ fs, fs.map Oc.says = l.map Oc.lays ∧ Fin' w (· = r) u fs
theorem RF.step {l : List (Nat × List Nat)} (r : Nat) (u : Value) (a b : World) (h : RF l r u a) (k : a.grownBy b (some r)) : RF l r u b := by
 obtain ⟨fs, h1, h2⟩ := h
 exact ⟨fs, h1, h2.step (Kpt.of_grown k rfl)⟩
theorem says_len {fs : List Fld} {l : List (Nat × List Nat)} (h : fs.map Oc.says = l.map Oc.lays) : fs.length = l.length := by simpa using congrArg List.length h
section
variable (s : ByteArray) (xs : List Nat) (a : Nat → Addr) (sh : Nat) (w0 w : World)
end
end Go.Proofs.YtdokojlgcplefaaDoor
/- The function that Rest hands to Take. -/
namespace Go.Proofs.YtdokojlgcplefaaDoor
open Go Go.RowKit
def RR (l : List (Nat × List Nat)) (ys : List Nat) (q : Nat) (r : Nat) (u : Value) (w : World) : Prop :=
 ∃ fs A c, fs.map Oc.says = l.map Oc.lays ∧ Fin' w (fun b => b = r ∨ b = q) u fs ∧ w.cell? ⟨q, 0, none⟩ = some (.slice A ys.length c) ∧ FR (fun b => b = r ∨ b = q) w ⟨0, A, ys.length, c, ys⟩ ∧ q ≠ r
theorem RR.step {l : List (Nat × List Nat)} {ys : List Nat} {q : Nat} (r : Nat) (u : Value) (a b : World) (h : RR l ys q r u a) (k : a.grownBy b (some r)) : RR l ys q r u b := by
 obtain ⟨fs, A, c, h1, h2, h3, h4, h5⟩ := h
 have hk : Kpt (fun b => b = r ∨ b = q) a b := Kpt.of_grown k (Or.inl rfl)
 exact ⟨fs, A, c, h1, h2.step hk, k.cell h3 (fun e => h5 (by injection e)), h4.step hk, h5⟩
section
variable (s : ByteArray) (xs : List Nat) (a : Nat → Addr) (sh q : Nat) (w0 w : World)
theorem rest_ok (hs : s.size ≤ 1000) (hb : Oc.bytes xs) (hl : xs.length ≤ 1099511627776) (hS : OSents w0 a) (hsh : w.cell? ⟨sh, 0, none⟩ = some (.string s)) (hq : Blk w q 39 #[.slice none 0 0]) (hq0 : w0.heap.size ≤ q) (hk : Oc.known s.data.toList = true) (l : List (Nat × List Nat)) (p : Nat) (h : Oc.reads (shN s) xs = .ok l p) :
  ReadsTo 62 #[.pointer (some ⟨sh, 0, none⟩), .pointer (some ⟨q, 0, none⟩)] (fun b => b = q) w0 w xs [] (RR l (xs.drop p) q) := by
 intro w2 i r hr hri hi hbel
 change Calls Tryd.prog 62 #[.pointer (some ⟨i, 0, none⟩), .pointer (some ⟨sh, 0, none⟩), .pointer (some ⟨q, 0, none⟩)] w2 _
 have p1 : w2.cell? ⟨sh, 0, none⟩ = some (.string s) := (hbel.cell (block_lt_of_cell hsh)).trans hsh
 have CF := fields_any s i r xs a w0 w2 hi hs hb hS
 have H := Lib.hid (And.intro hk h)
 have HQ := Lib.hid (hq.below hbel hq.lt)
 have HQR : Hid (q ≠ r ∧ q < w2.heap.size ∧ r < w2.heap.size) := Lib.hid ⟨by have := hq.lt; omega, (hq.below hbel hq.lt).lt, hi.lt⟩
 have HQI : Hid (i ≠ q) := Lib.hid (by have := hq.lt; omega)
 have HLL : Hid ((xs.drop p).length ≤ 1099511627776) := Lib.hid (by rw [List.length_drop]; omega)
 clear hk h hi hb hS hsh hq
 obtain ⟨ys, hys⟩ : ∃ ys, ys = xs.drop p := ⟨_, rfl⟩
 rw [← hys] at HLL ⊢
 have HYS := Lib.hid hys
 have HT : Hid (ys.take ys.length = ys ∧ ys.drop ys.length = []) := Lib.hid ⟨List.take_length, List.drop_length⟩
 clear hys
 go_enter Tryd.func62, Tryd.ntmps62
 go_wp2_with (first
  | (go_at_call 63; refine CF.mono ?_; rintro e w3 ⟨_, _, hf⟩; obtain ⟨v, fs, rfl, hsy, hx⟩ := hf H.out.1 _ _ H.out.2; rw [← HYS.out] at hx; have HX := Lib.hid hx; have HSY := Lib.hid hsy; have CL := left_any i r ys w0 w3 hx.at_; have CN := next_ok i r ys.length ys w0 w3 hx.at_ (Nat.le_refl _); rw [HT.out.1, HT.out.2] at CN; clear hx hsy hf CF)
  | (go_at_call 65; refine CL.mono ?_; rintro e w' ⟨rfl, rfl⟩; clear CL)
  | (go_at_call 64; refine CN.mono ?_; rintro e w4 ⟨v4, rfl, hv, hi, hg⟩; have HI := Lib.hid hi; have HG := Lib.hid hg; have CC := clone_any v4 ys w4 (hv.below hi.bel.1 (Nat.le_refl _)) HLL.out; clear hg hi hv CN)
  | (go_at_call 27; refine CC.mono ?_; rintro e w5 ⟨A, c, rfl, hrd, hn, hbl⟩; have HR5 := Lib.hid hrd; have HN5 := Lib.hid hn; have HB5 := Lib.hid hbl; have HQ5 : Hid (Blk w5 q 39 #[.slice none 0 0]) := Lib.hid (((HQ.out.grown HX.out.grw (fun e => HQR.out.1 (by injection e))).grown HG.out (fun e => HQR.out.1 (by injection e))).below hbl (Nat.lt_of_lt_of_le (Nat.lt_of_lt_of_le HQR.out.2.1 HX.out.grw.size) HG.out.size)); have p5 : w5.cell? ⟨q, 0, none⟩ = some (.slice none 0 0) := HQ5.out.cell 0; have z5 := HQ5.out.frozen 0; clear hrd hn hbl CC))
 go_ret
 have k3 : Kpt (fun b => b = r ∨ b = q) w2 w3 := Kpt.of_grown HX.out.grw (Or.inl rfl)
 have k4 : Kpt (fun b => b = r ∨ b = q) w3 w4 := Kpt.of_grown HG.out (Or.inl rfl)
 have k5 : Kpt (fun b => b = r ∨ b = q) w4 w5 := Kpt.of_below HB5.out
 have hg6 : w5.grownBy (w5.setCell ⟨q, 0, none⟩ (.slice A ys.length c)) (some q) := only_setCell (p := ⟨q, 0, none⟩) (World.grownBy.refl w5 (some q)) (Or.inl rfl) _
 have k6 : Kpt (fun b => b = r ∨ b = q) w5 (w5.setCell ⟨q, 0, none⟩ (.slice A ys.length c)) := Kpt.of_grown hg6 (Or.inr rfl)
 have hsz : fs.length = s.size := by rw [says_len HSY.out, Oc.reads_len H.out.2, shN_len]
 have hf3 := HX.out.fin hsz (S := fun b => b = r ∨ b = q) (fun b e => by rcases e with e | e; rw [e]; exact HQR.out.2.2; rw [e]; exact HQR.out.2.1)
 refine ⟨v, rfl, ?_, (k3.trans (k4.trans (k5.trans k6))), fs, A, c, HSY.out, ((hf3.step k4).step k5).step k6, ?_, ?_, HQR.out.1⟩
 ·obtain ⟨v', k, hr', hw, h1, h2⟩ := HI.out.below HB5.out
  have hqi := HQI.out
  exact ⟨v', ⟨k.i_.far hqi _, k.r_.far (fun e => HQR.out.1 e.symm) _, k.ne⟩, hr', below_of_only hw hg6 hq0, h1, h2⟩
 ·exact (HQ5.out.set_ 0 _).cell 0
 ·refine FR.step ⟨HR5.out, rfl, fun h0 => ?_⟩ k6
  obtain ⟨g, cs, e1, e2, e3⟩ := HN5.out h0
  have z1 := HX.out.grw.size
  have z2 := HG.out.size
  have z3 := HQR.out
  exact ⟨g, e1, fun e => by rcases e with e | e <;> omega, e3.lt⟩
end
end Go.Proofs.YtdokojlgcplefaaDoor
/- octets.Read and octets.Rest. -/
namespace Go.Proofs.YtdokojlgcplefaaDoor
open Go Go.RowKit
theorem below_of_kpt {S : Nat → Prop} {a b c : World} (h : Below a.heap.size a b) (k : Kpt S b c) (hS : ∀ x, S x → a.heap.size ≤ x) : Below a.heap.size a c :=
 ⟨k.os.trans h.os, k.tape.trans h.tape, k.output.trans h.output, Nat.le_trans h.size k.size, fun x hx => (k.block x (Nat.lt_of_lt_of_le hx h.size) (fun e => by have := hS x e; omega)).trans (h.block x hx)⟩
section
variable (s : ByteArray) (xs : List Nat) (a : Nat → Addr) (A : Option Addr) (n c : Nat) (w : World)
abbrev shBox (w : World) (s : ByteArray) : World := w.alloc (.cells #[.string s] 9)
abbrev restBox (w : World) (s : ByteArray) : World := (shBox w s).alloc (.cells #[.slice none 0 0] 39)
theorem restBox_cell (w : World) (s : ByteArray) : (restBox w s).cell? ⟨w.heap.size, 0, none⟩ = some (.string s) := ((Blk.new w 9 #[.string s]).alloc _).cell 0
theorem restBox_blk (w : World) (s : ByteArray) : Blk (restBox w s) (w.heap.size + 1) 39 #[.slice none 0 0] := by
 have h := Blk.new (shBox w s) 39 #[.slice none 0 0]
 rwa [show (shBox w s).heap.size = w.heap.size + 1 by simp] at h
theorem restBox_size (w : World) (s : ByteArray) : (restBox w s).heap.size = w.heap.size + 2 := by simp
theorem below_shBox (w : World) (s : ByteArray) : Below w.heap.size w (shBox w s) := (Below.refl _ _).alloc (Nat.le_refl _) _
theorem below_restBox (w : World) (s : ByteArray) : Below w.heap.size w (restBox w s) := (below_shBox w s).alloc (below_shBox w s).size _
set_option maxRecDepth 100000 in
theorem orest_any (hv : Rd w (.slice A n c) xs) (hs : s.size ≤ 1000) (hb : Oc.bytes xs) (hl : xs.length ≤ 1099511627776) (hS : OSents w a) (hk : Oc.known s.data.toList = true) (l : List (Nat × List Nat)) (p : Nat) (h : Oc.reads (shN s) xs = .ok l p) :
  Calls Tryd.prog 48 #[.string s, .slice A n c] w fun e w' => ∃ A1 b c1 A2 c2 fs, e = .returned (.tuple #[.slice A1 fs.length c1, .slice A2 (xs.drop p).length c2, .nilIface]) ∧ (0 < fs.length → A1 = some ⟨b, 0, none⟩) ∧ FRow w' b 0 fs ∧ fs.map Oc.says = l.map Oc.lays ∧ Rd w' (.slice A2 (xs.drop p).length c2) (xs.drop p) ∧ Below w.heap.size w w' := by
 have hmf : ∀ (fn : Fn) (first cap : Array Value) (w : World), (Instr.makeFunc fn first cap).run Tryd.prog w = .ok (.func fn first cap) w := fun _ _ _ _ => rfl
 have hrd := rest_ok s xs a w.heap.size (w.heap.size + 1) w (restBox w s) hs hb hl hS (restBox_cell w s) (restBox_blk w s) (by omega) hk l p h
 have CT := takeF_ok 62 #[.pointer (some ⟨w.heap.size, 0, none⟩), .pointer (some ⟨w.heap.size + 1, 0, none⟩)] (fun b => b = w.heap.size + 1) w (restBox w s) A n c xs (RR l (xs.drop p) (w.heap.size + 1)) enter_rest (below_restBox w s) hv (fun b h => by rw [restBox_size]; omega) hrd RR.step
 clear hrd hv hb hS hk h
 generalize xs.drop p = ys at CT ⊢
 go_enter Tryd.func48, Tryd.ntmps48
 go_wp2_with (go_at_call 61; refine CT.mono ?_; rintro e w1 ⟨u, r, rfl, hr, hf, hkp⟩; obtain ⟨fs, A2, c2, hsy, hfin, hc2, hfr, _⟩ := hf; have HB : Hid (Below w.heap.size w w1) := Lib.hid (below_of_kpt (below_restBox w s) hkp (fun _ h => by omega)); obtain ⟨A1, b, c1, rfl, hA, hrow⟩ := hfin.row (Nat.lt_of_lt_of_le (Nat.lt_of_lt_of_le (by rw [restBox_size]; omega) (Nat.le_refl (restBox w s).heap.size)) hkp.size); have HA := Lib.hid hA; have HR := Lib.hid hrow; have HSY := Lib.hid hsy; have HFR := Lib.hid hfr; clear hkp hsy hfin hA hrow CT hfr)
 go_quiet (fail)
 go_wp2
 go_ret3
 exact ⟨A1, b, c1, A2, c2, fs, rfl, HA.out, HR.out.below (below_drewN (Below.refl _ _) nq) (Nat.le_refl _), HSY.out, HFR.out.rd.below (below_drewN (Below.refl _ _) nq) (Nat.le_refl _), below_drewN HB.out nq⟩
theorem rest_bad (sh q : Nat) (w0 w : World) (hs : s.size ≤ 1000) (hb : Oc.bytes xs) (hS : OSents w0 a) (hsh : w.cell? ⟨sh, 0, none⟩ = some (.string s)) (ae : Addr) (h : ∀ w2 i r e w', FieldsPost s xs a w0 w2 i r e w' → Fails w2 r (ev ae) e w') :
  ReadsBad 62 #[.pointer (some ⟨sh, 0, none⟩), .pointer (some ⟨q, 0, none⟩)] (fun _ => False) w0 w xs ae := by
 intro w2 i r hr hri hi hbel
 change Calls Tryd.prog 62 #[.pointer (some ⟨i, 0, none⟩), .pointer (some ⟨sh, 0, none⟩), .pointer (some ⟨q, 0, none⟩)] w2 _
 have p1 : w2.cell? ⟨sh, 0, none⟩ = some (.string s) := (hbel.cell (block_lt_of_cell hsh)).trans hsh
 have CF := (fields_any s i r xs a w0 w2 hi hs hb hS).mono (h w2 i r)
 clear h hi hb hS hsh
 go_enter Tryd.func62, Tryd.ntmps62
 go_wp2_with (go_at_call 63; refine CF.mono ?_; rintro e w3 ⟨rfl, hd, hg⟩)
 exact ⟨rfl, rfl, hd, Kpt.of_grown hg (Or.inl rfl)⟩
set_option maxRecDepth 100000 in
theorem orest_bad (hv : Rd w (.slice A n c) xs) (hs : s.size ≤ 1000) (hb : Oc.bytes xs) (hS : OSents w a) (ae : Addr) (h : ∀ w2 i r e w', FieldsPost s xs a w w2 i r e w' → Fails w2 r (ev ae) e w') :
  Calls Tryd.prog 48 #[.string s, .slice A n c] w fun e w' => e = .returned (.tuple #[.slice none 0 0, .slice none 0 0, ev ae]) ∧ Below w.heap.size w w' := by
 have hmf : ∀ (fn : Fn) (first cap : Array Value) (w : World), (Instr.makeFunc fn first cap).run Tryd.prog w = .ok (.func fn first cap) w := fun _ _ _ _ => rfl
 have hrd := rest_bad s xs a w.heap.size (w.heap.size + 1) w (restBox w s) hs hb hS (restBox_cell w s) ae h
 have CT := takeF_bad 62 #[.pointer (some ⟨w.heap.size, 0, none⟩), .pointer (some ⟨w.heap.size + 1, 0, none⟩)] (fun _ => False) w (restBox w s) A n c xs ae enter_rest (below_restBox w s) hv (fun _ h => h.elim) hrd
 clear hrd hv hb hS h
 go_enter Tryd.func48, Tryd.ntmps48
 go_wp2_with (go_at_call 61; refine CT.mono ?_; rintro e w1 ⟨rfl, hkp⟩; have HB : Hid (Below w.heap.size w w1) := Lib.hid (below_of_kpt (below_restBox w s) hkp (fun _ h => h.elim)); have p1 : w1.cell? ⟨w.heap.size + 1, 0, none⟩ = some (.slice none 0 0) := (hkp.blk (restBox_blk w s) (fun h => h)).cell 0; clear hkp CT)
 go_quiet (fail)
 go_wp2
 go_ret3
 exact ⟨rfl, below_drewN HB.out nq⟩
end
end Go.Proofs.YtdokojlgcplefaaDoor
/- The chapter's example (alive). -/
namespace Go.Proofs.YtdokojlgcplefaaDoor
open Go Go.RowKit
theorem onum_any (n : Int) (w : World) : Calls Tryd.prog 53 #[.int .i64 n] w fun e w' => e = .returned (.agg #[.int .i64 n, .slice none 0 0]) ∧ Below w.heap.size w w' := by
 have HB : Hid (Below w.heap.size w (w.alloc (.cells #[.int .i64 n, .slice none 0 0] 91))) := Lib.hid ((Below.refl _ _).alloc (Nat.le_refl _) _)
 have HK : Hid (Blk (w.alloc (.cells #[.int .i64 n, .slice none 0 0] 91)) w.heap.size 91 #[.int .i64 n, .slice none 0 0]) := Lib.hid (Blk.new w _ _)
 go_enter Tryd.func53, Tryd.ntmps53
 go_wp2
 exact bodyPost_ret (v := .agg #[.int .i64 n, .slice none 0 0]) (results_cell_row rfl _ _ w.heap.size 91 _ (0, 0) _ rfl HK.out Tryd.underlying91 rfl (by kernel_rfl)) rfl ⟨rfl, HB.out⟩
theorem below_bytesWorld (w : World) (e : TypeId) (s : ByteArray) : Below w.heap.size w (Lib.bytesWorld w e s) :=
 ⟨rfl, rfl, rfl, by rw [Lib.bytesWorld_size]; omega, fun i hi => Lib.bytesWorld_at_old w e s i hi⟩
end Go.Proofs.YtdokojlgcplefaaDoor
/- Layer 5, the small ones: must; how many sectors records and halves have; the document's own count. -/
namespace Go.Proofs.YtdokojlgcplefaaDoor
open Go Go.RowKit
namespace Hv
def need (n : Int) : Nat := if n < 1 ∨ 3000 < n then 0 else ((n + 41) / 32).toNat
theorem need_of {n : Nat} (h1 : 1 ≤ n) (h2 : n ≤ 3000) : need n = (n + 41) / 32 := by
 unfold need
 rw [if_neg (by omega)]
 omega
theorem need_none {n : Int} (h : n < 1 ∨ 3000 < n) : need n = 0 := by unfold need; rw [if_pos h]
theorem need_le (n : Int) : need n ≤ 95 := by
 unfold need
 split
 ·omega
 ·omega
def halfOf (n : Int) : Nat := if 0 < n then (n / 2).toNat else 0
end Hv
theorem must_nil (w : World) : Calls Tryd.prog 42 #[.nilIface] w fun e w' => e = .returned (.tuple #[]) ∧ w = w' := by
 go_enter Tryd.func42, Tryd.ntmps42
 go_wp2
 go_end0
 exact ⟨rfl, rfl⟩
theorem neq_ev (a : Addr) (w : World) : (binOp .neq 27 (ev a) .nilIface).run Tryd.prog w = .ok (.bool true) w := by kernel_rfl
theorem must_ev (a : Addr) (w : World) : Calls Tryd.prog 42 #[ev a] w fun e w' => e = .panicked [{ v := ev a, recovered := false }] ∧ w = w' := by
 have q0 := neq_ev a
 go_enter Tryd.func42, Tryd.ntmps42
 go_wp2
 exact ⟨rfl, rfl, rfl⟩
theorem need_any (n : Int) (w : World) (hn : (Lit.int .i64 n).wf = true) : Calls Tryd.prog 22 #[.int .i64 n] w fun e w' => e = .returned (.int .i64 (Hv.need n : Nat)) ∧ w = w' := by
 by_cases h1 : n < 1
 ·rw [Hv.need_none (Or.inl h1)]
  go_enter Tryd.func22, Tryd.ntmps22
  go_wp2
  go_ret
  exact ⟨rfl, rfl⟩
 ·by_cases h2 : 3000 < n
  ·rw [Hv.need_none (Or.inr h2)]
   go_enter Tryd.func22, Tryd.ntmps22
   go_wp2
   go_ret
   exact ⟨rfl, rfl⟩
  ·obtain ⟨m, rfl⟩ : ∃ m : Nat, n = m := ⟨n.toNat, by omega⟩
   have hm : ((Hv.need (m : Int) : Nat) : Int) = ((m : Int) + 41) / 32 := by rw [Hv.need_of (by omega) (by omega)]; omega
   rw [hm]
   go_enter Tryd.func22, Tryd.ntmps22
   go_wp2
   go_ret
   refine ⟨?_, rfl⟩
   show Ending.returned (.int .i64 ((10 + (m : Int) + 32 - 1) / 32)) = _
   rw [show 10 + (m : Int) + 32 - 1 = (m : Int) + 41 by omega]
theorem half_any (n : Int) (w : World) (hn : (Lit.int .i64 n).wf = true) : Calls Tryd.prog 19 #[.int .i64 n] w fun e w' => e = .returned (.int .i64 (Hv.halfOf n : Nat)) ∧ w = w' := by
  have h2 := hn
  simp [Lit.wf, IntKind.min, IntKind.max, IntKind.signed, IntKind.bits] at h2
  by_cases h1 : 0 < n
  · obtain ⟨m, rfl⟩ : ∃ m : Nat, n = m := ⟨n.toNat, by omega⟩
    have hm : ((Hv.halfOf (m : Int) : Nat) : Int) = (m : Int) / 2 := by unfold Hv.halfOf; rw [if_pos h1]; omega
    rw [hm]
    clear hn
    go_enter Tryd.func19, Tryd.ntmps19
    go_wp2
    go_ret
    refine ⟨?_, rfl⟩
    first
      | rfl
      | (show Ending.returned (.int .i64 (wrap64 ((m : Int).tdiv 2))) = _
         rw [Int.tdiv_eq_ediv_of_nonneg (by omega), IntWalk.wrap64_in _ (by omega)])
  · have hm : Hv.halfOf n = 0 := by unfold Hv.halfOf; rw [if_neg h1]
    rw [hm]
    clear hn
    by_cases h3 : n = 0
    · subst h3
      go_enter Tryd.func19, Tryd.ntmps19
      go_wp2
      go_ret
      exact ⟨rfl, rfl⟩
    · have i3 : n < 0 := by omega
      go_enter Tryd.func19, Tryd.ntmps19
      go_wp2
      go_ret
      refine ⟨?_, rfl⟩
      first
        | rfl
        | (show Ending.returned (.int .i64 (max n 0 / 2)) = _
           rw [show max n 0 = 0 by omega]
           rfl)
end Go.Proofs.YtdokojlgcplefaaDoor
