/- octets.Take of lists (of bytes), whatever reads them. -/
import Derived.Test.YtolfphfdeccleaaGreatDoorMOct14s
import Derived.Test.YtolfphfdeccleaaGreatDoorMPk11
import Derived.Deep.AppendLies
import Derived.Deep.WholeRow
namespace Go.Proofs.YtolfphfdeccleaaGreatDoor
open Go Go.RowKit
theorem catchL_idle (q : Nat) (w : World) :
    CallsD Tryz.prog 78 #[.pointer (some ⟨q, 0, none⟩)] .returning w fun e u' w' => e = .returned (.tuple #[]) ∧ u' = .returning ∧ w' = w := by
  refine callsD_of_wpS Tryz.func78 rfl fun c₀ cs hu => ?_
  apply wpS_seq
  apply wpS_region
  simp [wpOpsS, go_sem, recoverD, hu, Tryz.ntmps78, Exit.thenS]
  rw [slots17]
  refine wpS_of_wp ?_
  go_wp2
  exact ⟨rfl, _, by rw [← hu], _, results_none rfl _ _ _, rfl, rfl, rfl⟩
set_option maxRecDepth 100000 in
theorem catchL_stop (q r : Nat) (older : List PanicEntry) (w : World) (hq : w.cell? ⟨q, 0, none⟩ = some (.pointer (some ⟨r, 0, none⟩))) :
    CallsD Tryz.prog 78 #[.pointer (some ⟨q, 0, none⟩)] (.panicking ({ v := stopV r, recovered := false } :: older)) w fun e u' w' =>
      e = .returned (.tuple #[]) ∧ u' = .panicking ({ v := stopV r, recovered := true } :: older) ∧ Below w.heap.size w w' := by
  refine callsD_of_wpS Tryz.func78 rfl fun c₀ cs hu => ?_
  apply wpS_seq
  apply wpS_region
  simp [wpOpsS, go_sem, recoverD, hu, Tryz.ntmps78, Exit.thenS]
  rw [slots17]
  refine wpS_of_wp ?_
  have h1 := stop_eql r
  have h2 := stop_assert r
  have h3 := stop_neq r
  have hb : Hid (Below w.heap.size w (w.alloc (.cells #[.pointer (some ⟨r, 0, none⟩)] 122))) := Lib.hid ((Below.refl _ _).alloc (Nat.le_refl _) _)
  have hq2 : (w.alloc (.cells #[.pointer (some ⟨r, 0, none⟩)] 122)).cell? ⟨q, 0, none⟩ = some (.pointer (some ⟨r, 0, none⟩)) := (hb.out.cell (p := ⟨q, 0, none⟩) (block_lt_of_cell hq)).trans hq
  go_wp2
  refine ⟨rfl, .panicking ({ v := stopV r, recovered := true } :: older), rfl, .tuple #[], ?_, rfl, rfl, hb.out⟩
  exact results_none rfl _ _ _
theorem runL_ok (K : Nat) (cap : Array Value) (r : Nat) (w : World) (R : Value → World → Prop) (hK : ∀ args w, (callFunc K args).run Tryz.prog w = .ok (.enter K args) w)
    (hread : Calls Tryz.prog K (#[.pointer (some ⟨w.heap.size + 1, 0, none⟩)] ++ cap) (runBox w r) fun e w' => ∃ v, e = .returned v ∧ R v w') :
    Calls Tryz.prog 56 #[.pointer (some ⟨r, 0, none⟩), .func (.func K) #[] cap] w fun e w' => ∃ v, e = .returned v ∧ R v w' := by
  have hmf : ∀ (fn : Fn) (first cap : Array Value) (w : World), (Instr.makeFunc fn first cap).run Tryz.prog w = .ok (.func fn first cap) w := fun _ _ _ _ => rfl
  go_enter_defers Tryz.func56, Tryz.ntmps56
  go_wp2_with (refine hread.mono ?_; rintro e w1 ⟨v, rfl, hr⟩; have HR := Lib.hid hr; clear hr)
  refine leaves_cons (f := 78) (args := #[.pointer (some ⟨w.heap.size, 0, none⟩)]) (by simp) (by simp [go_sem]) ?_
  refine (catchL_idle w.heap.size _).mono ?_
  rintro e u' w'' ⟨rfl, rfl, rfl⟩
  refine ⟨_, results_tmp rfl _ _ _, ?_⟩
  exact ⟨v, rfl, HR.out⟩
theorem runL_bad (K : Nat) (cap : Array Value) (r : Nat) (w : World) (R : World → Prop) (hK : ∀ args w, (callFunc K args).run Tryz.prog w = .ok (.enter K args) w)
    (hread : Calls Tryz.prog K (#[.pointer (some ⟨w.heap.size + 1, 0, none⟩)] ++ cap) (runBox w r) fun e w' => e = .panicked [{ v := stopV r, recovered := false }] ∧ R w')
    (hq : ∀ a, R a → a.cell? ⟨w.heap.size, 0, none⟩ = some (.pointer (some ⟨r, 0, none⟩))) (hR : ∀ a b, R a → Below a.heap.size a b → R b) :
    Calls Tryz.prog 56 #[.pointer (some ⟨r, 0, none⟩), .func (.func K) #[] cap] w fun e w' => e = .returned (.slice none 0 0) ∧ R w' := by
  have hmf : ∀ (fn : Fn) (first cap : Array Value) (w : World), (Instr.makeFunc fn first cap).run Tryz.prog w = .ok (.func fn first cap) w := fun _ _ _ _ => rfl
  go_enter_defers Tryz.func56, Tryz.ntmps56
  go_wp2_with (refine hread.mono ?_; rintro e w1 ⟨rfl, hr⟩; have HR := Lib.hid hr; clear hr)
  refine leaves_cons (f := 78) (args := #[.pointer (some ⟨w.heap.size, 0, none⟩)]) (by simp) (by simp [go_sem]) ?_
  refine (catchL_stop w.heap.size r [] _ (hq _ HR.out)).mono ?_
  rintro e u' w'' ⟨rfl, rfl, hb⟩
  exact ⟨_, results_tmp rfl _ _ _, rfl, hR _ _ HR.out hb⟩
theorem closeL_any (q r : Nat) (v0 v1 v2 v3 : Value) (w : World) (hq : w.cell? ⟨q, 0, none⟩ = some (.pointer (some ⟨r, 0, none⟩))) (hr : Blk w r 112 #[v0, v1, v2, v3]) :
    CallsD Tryz.prog 55 #[.pointer (some ⟨q, 0, none⟩)] .returning w fun e u' w' => u' = .returning ∧ (e = .returned (.tuple #[]) ∧ w.grownBy w' (some r)) := by
  have HG : Hid (w.grownBy ((((w.setCell ⟨r, 0, none⟩ (.slice none 0 0)).setCell ⟨r, 1, none⟩ (.bool false)).setCell ⟨r, 2, none⟩ (.bool false)).setCell ⟨r, 3, none⟩ .nilIface) (some r)) := Lib.hid (only_setCell (p := ⟨r, 3, none⟩) (only_setCell (p := ⟨r, 2, none⟩) (only_setCell (p := ⟨r, 1, none⟩) (only_setCell (p := ⟨r, 0, none⟩) (World.grownBy.refl w (some r)) (Or.inl rfl) _) (Or.inl rfl) _) (Or.inl rfl) _) (Or.inl rfl) _)
  have c0 : w.cell? ⟨r, 0, none⟩ = some v0 := hr.cell 0
  have c1 : w.cell? ⟨r, 1, none⟩ = some v1 := hr.cell 1
  have c2 : w.cell? ⟨r, 2, none⟩ = some v2 := hr.cell 2
  have c3 : w.cell? ⟨r, 3, none⟩ = some v3 := hr.cell 3
  have z0 := hr.frozen 0
  have z1 := hr.frozen 1
  have z2 := hr.frozen 2
  have z3 := hr.frozen 3
  clear hr
  go_enter_d Tryz.func55, Tryz.ntmps55
  go_wp2
  go_end0
  exact ⟨rfl, HG.out⟩
set_option maxRecDepth 100000 in
theorem takeL_ok (K : Nat) (cap : Array Value) (S : Nat → Prop) (w0 w : World) (A : Option Addr) (n c : Nat) (xs : List Nat) (R : Nat → Value → World → Prop) (hK : ∀ args w, (callFunc K args).run Tryz.prog w = .ok (.enter K args) w)
    (hw : Below w0.heap.size w0 w) (hv : Rd w0 (.slice A n c) xs) (hS : ∀ b, S b → b < w.heap.size) (hread : ReadsTo K cap S w0 w xs [] R) (hR : ∀ r u a b, R r u a → a.grownBy b (some r) → R r u b) :
    Calls Tryz.prog 31 #[.slice A n c, .func (.func K) #[] cap] w fun e w' => ∃ u r, e = .returned (.tuple #[u, .nilIface]) ∧ w.heap.size ≤ r ∧ R r u w' ∧ Kpt S w w' := by
  have hmf : ∀ (fn : Fn) (first cap : Array Value) (w : World), (Instr.makeFunc fn first cap).run Tryz.prog w = .ok (.func fn first cap) w := fun _ _ _ _ => rfl
  have CR := runL_ok K cap w.heap.size (takeBox w (.slice A n c)) (fun u w' => InAt w0 w' ((takeBox w (.slice A n c)).heap.size + 1) w.heap.size [] ∧ Kpt (fun b => b = w.heap.size ∨ S b) (runBox (takeBox w (.slice A n c)) w.heap.size) w' ∧ R w.heap.size u w') hK (hread _ _ _ (Nat.le_refl _) (by rw [takeBox_size]; omega) (inAt_run hw hv) (below_takeRun w _))
  have HS := Lib.hid hS
  have HRR := Lib.hid hR
  clear hread hS hR
  go_enter_defers Tryz.func31, Tryz.ntmps31
  go_wp2_with (go_at_call 56; refine CR.mono ?_; rintro e w1 ⟨u, rfl, hi, hk, hr⟩; have p0 : w1.cell? ⟨w.heap.size + 1, 0, none⟩ = some (.pointer (some ⟨w.heap.size, 0, none⟩)) := kpt_var HS.out hk; obtain ⟨vz, hz, ⟨Az, cz, rfl, _, _⟩, _⟩ := hi; have p1 : w1.cell? ⟨w.heap.size, 2, none⟩ = some (.bool false) := hz.r_.cell 2; have p2 : w1.cell? ⟨w.heap.size, 0, none⟩ = some (.slice Az 0 cz) := hz.r_.cell 0; have HZ := Lib.hid hz.r_; have HK := Lib.hid hk; have HR := Lib.hid hr; clear hz hk hr CR)
  refine leaves_cons (f := 55) (args := #[.pointer (some ⟨w.heap.size + 1, 0, none⟩)]) (by simp) (by simp [go_sem]) ?_
  refine (closeL_any (w.heap.size + 1) w.heap.size _ _ _ _ _ p0 HZ.out).mono ?_
  rintro e u' w'' ⟨rfl, rfl, hg⟩
  refine ⟨_, results_tmp2 rfl _ _ _, ?_⟩
  exact ⟨u, w.heap.size, rfl, Nat.le_refl _, HRR.out _ _ _ _ HR.out hg, kpt_end HK.out hg⟩
set_option maxRecDepth 100000 in
theorem takeL_long (K : Nat) (cap : Array Value) (S : Nat → Prop) (w0 w : World) (A : Option Addr) (n c : Nat) (xs zs : List Nat) (aL : Addr) (hK : ∀ args w, (callFunc K args).run Tryz.prog w = .ok (.enter K args) w)
    (hw : Below w0.heap.size w0 w) (hv : Rd w0 (.slice A n c) xs) (hS : ∀ b, S b → b < w.heap.size) (hread : ReadsTo K cap S w0 w xs zs (fun _ _ _ => True)) (hz0 : 0 < zs.length) (hL : w0.cell? ⟨2, 0, none⟩ = some (ev aL)) :
    Calls Tryz.prog 31 #[.slice A n c, .func (.func K) #[] cap] w fun e w' => e = .returned (.tuple #[.slice none 0 0, ev aL]) ∧ Kpt S w w' := by
  have hmf : ∀ (fn : Fn) (first cap : Array Value) (w : World), (Instr.makeFunc fn first cap).run Tryz.prog w = .ok (.func fn first cap) w := fun _ _ _ _ => rfl
  have CR := runL_ok K cap w.heap.size (takeBox w (.slice A n c)) (fun u w' => InAt w0 w' ((takeBox w (.slice A n c)).heap.size + 1) w.heap.size zs ∧ Kpt (fun b => b = w.heap.size ∨ S b) (runBox (takeBox w (.slice A n c)) w.heap.size) w' ∧ True) hK (hread _ _ _ (Nat.le_refl _) (by rw [takeBox_size]; omega) (inAt_run hw hv) (below_takeRun w _))
  have HS := Lib.hid hS
  have i0 : (0 : Int) < (zs.length : Int) := by omega
  clear hread hS
  go_enter_defers Tryz.func31, Tryz.ntmps31
  go_wp2_with (go_at_call 56; refine CR.mono ?_; rintro e w1 ⟨u, rfl, hi, hk, _⟩; have p0 : w1.cell? ⟨w.heap.size + 1, 0, none⟩ = some (.pointer (some ⟨w.heap.size, 0, none⟩)) := kpt_var HS.out hk; have p3 : w1.cell? ⟨2, 0, none⟩ = some (ev aL) := (hi.bel.1.cell (block_lt_of_cell hL)).trans hL; obtain ⟨vz, hz, ⟨Az, cz, rfl, _, _⟩, _⟩ := hi; have p1 : w1.cell? ⟨w.heap.size, 2, none⟩ = some (.bool false) := hz.r_.cell 2; have p2 : w1.cell? ⟨w.heap.size, 0, none⟩ = some (.slice Az zs.length cz) := hz.r_.cell 0; have HZ := Lib.hid hz.r_; have HK := Lib.hid hk; clear hz hk CR)
  go_quiet (fail)
  go_wp2
  refine leaves_cons (f := 55) (args := #[.pointer (some ⟨w.heap.size + 1, 0, none⟩)]) (by simp) (by simp [go_sem]) ?_
  refine (closeL_any (w.heap.size + 1) w.heap.size _ _ _ _ (w1.drewN nq) p0 (HZ.out.drewN nq)).mono ?_
  rintro e u' w'' ⟨rfl, rfl, hg⟩
  refine ⟨_, results_tmp2 rfl _ _ _, ?_⟩
  exact ⟨rfl, kpt_end (HK.out.trans (Kpt.of_below (below_drewN (Below.refl _ _) nq))) hg⟩
set_option maxRecDepth 100000 in
theorem takeL_bad (K : Nat) (cap : Array Value) (S : Nat → Prop) (w0 w : World) (A : Option Addr) (n c : Nat) (xs : List Nat) (ae : Addr) (hK : ∀ args w, (callFunc K args).run Tryz.prog w = .ok (.enter K args) w)
    (hw : Below w0.heap.size w0 w) (hv : Rd w0 (.slice A n c) xs) (hS : ∀ b, S b → b < w.heap.size) (hread : ReadsBad K cap S w0 w xs ae) :
    Calls Tryz.prog 31 #[.slice A n c, .func (.func K) #[] cap] w fun e w' => e = .returned (.tuple #[.slice none 0 0, ev ae]) ∧ Kpt S w w' := by
  have hmf : ∀ (fn : Fn) (first cap : Array Value) (w : World), (Instr.makeFunc fn first cap).run Tryz.prog w = .ok (.func fn first cap) w := fun _ _ _ _ => rfl
  have CR := runL_bad K cap w.heap.size (takeBox w (.slice A n c)) (fun w' => Dead w' w.heap.size (ev ae) ∧ Kpt (fun b => b = w.heap.size ∨ S b) (runBox (takeBox w (.slice A n c)) w.heap.size) w') hK (hread _ _ _ (Nat.le_refl _) (by rw [takeBox_size]; omega) (inAt_run hw hv) (below_takeRun w _)) (fun a h => kpt_var2 hS h.2) (fun a b h k => ⟨h.1.grown k, h.2.trans (Kpt.of_below k)⟩)
  have HS := Lib.hid hS
  clear hread hS
  go_enter_defers Tryz.func31, Tryz.ntmps31
  go_wp2_with (go_at_call 56; refine CR.mono ?_; rintro e w1 ⟨rfl, hd, hk⟩; have p0 : w1.cell? ⟨w.heap.size + 1, 0, none⟩ = some (.pointer (some ⟨w.heap.size, 0, none⟩)) := kpt_var HS.out hk; obtain ⟨vd, hd⟩ := hd; have p1 : w1.cell? ⟨w.heap.size, 2, none⟩ = some (.bool true) := hd.cell 2; have p2 : w1.cell? ⟨w.heap.size, 3, none⟩ = some (ev ae) := hd.cell 3; have HZ := Lib.hid hd; have HK := Lib.hid hk; clear hd hk CR)
  go_quiet (fail)
  go_wp2
  refine leaves_cons (f := 55) (args := #[.pointer (some ⟨w.heap.size + 1, 0, none⟩)]) (by simp) (by simp [go_sem]) ?_
  refine (closeL_any (w.heap.size + 1) w.heap.size _ _ _ _ (w1.drewN nq) p0 (HZ.out.drewN nq)).mono ?_
  rintro e u' w'' ⟨rfl, rfl, hg⟩
  refine ⟨_, results_tmp2 rfl _ _ _, ?_⟩
  exact ⟨rfl, kpt_end (HK.out.trans (Kpt.of_below (below_drewN (Below.refl _ _) nq))) hg⟩
end Go.Proofs.YtolfphfdeccleaaGreatDoor
/- A pack read item by item: what all readers share. -/
namespace Go.Proofs.YtolfphfdeccleaaGreatDoor
open Go Go.RowKit
namespace Pk
/-- items read, and what is left -/
noncomputable def goR (kn : List Item) : Nat → List Item → List Nat → R (List Item × List Nat)
  | 0, out, xs => .ok (out, xs)
  | n + 1, out, xs => match step out kn xs with
    | .bad e => .bad e
    | .ok q => goR kn n (out ++ [q.1]) q.2
theorem go_of (kn : List Item) : ∀ (n : Nat) (out : List Item) (xs : List Nat), go kn n out xs = match goR kn n out xs with | .bad e => .bad e | .ok q => if q.2.length = 0 then .ok q.1 else .bad 3
  | 0, _, _ => rfl
  | n + 1, out, xs => by
    unfold go goR
    cases step out kn xs with
    | bad e => rfl
    | ok q => exact go_of kn n _ _
noncomputable def readR (kn : List Item) : List Nat → R (List Item × List Nat)
  | [] => .bad 2
  | n :: ys => if 64 < n then .bad 22 else goR kn n [] ys
theorem readR_cons (kn : List Item) (n : Nat) (ys : List Nat) : readR kn (n :: ys) = if 64 < n then .bad 22 else goR kn n [] ys := rfl
theorem decode_of (kn : List Item) {b : List Nat} (h : b.length ≤ 2000) : decode kn b = match readR kn b with | .bad e => .bad e | .ok q => if q.2.length = 0 then .ok q.1 else .bad 3 := by
  unfold decode
  rw [if_neg (by omega)]
  obtain _ | ⟨n, r⟩ := b
  · rfl
  · unfold readR
    simp only
    split
    · rfl
    · exact go_of kn n [] r
end Pk
theorem map_made (w : World) : (Instr.makeMap 72 none).run Tryz.prog w = .ok (.map (some w.heap.size)) (w.alloc (.map #[] 0)) := rfl
theorem finder_any (A : Option Addr) (n c : Nat) (w : World) :
    Calls Tryz.prog 33 #[.slice A n c] w fun e w' => e = .returned (.func (.func 57) #[] #[.pointer (some ⟨w.heap.size + 1, 0, none⟩), .pointer (some ⟨w.heap.size, 0, none⟩)]) ∧ w' = (w.alloc (.cells #[.slice A n c] 23)).alloc (.cells #[.map none] 71) := by
  have hmf : ∀ (fn : Fn) (first cap : Array Value) (w : World), (Instr.makeFunc fn first cap).run Tryz.prog w = .ok (.func fn first cap) w := fun _ _ _ _ => rfl
  go_enter Tryz.func33, Tryz.ntmps33
  go_wp2
  go_ret
  exact ⟨rfl, rfl⟩
/-- the texts of what is known, in the memory that the call began with -/
structure Known (w0 : World) (A : Option Addr) (c : Nat) (kn : List Pk.It) : Prop where
  row : RdL w0 (.slice A kn.length c) (kn.map (·.val))
  rd : ∀ p ∈ kn, Rd w0 p.val p.text ∧ Sha.Byte p.text ∧ p.depth = 0 ∧ p.text.length ≤ 1000
  few : kn.length ≤ 100
/-- the world in which the reader stands -/
abbrev rdrBox (w : World) (i : Nat) (A : Option Addr) (n c : Nat) : World :=
  ((((w.alloc (.map #[] 0)).alloc (.cells #[.slice A n c] 23)).alloc (.cells #[.map none] 71)).alloc (.cells #[.pointer (some ⟨i, 0, none⟩), .map (some w.heap.size), .func (.func 57) #[] #[.pointer (some ⟨w.heap.size + 2, 0, none⟩), .pointer (some ⟨w.heap.size + 1, 0, none⟩)]] 83))
theorem rdr_size (w : World) (i : Nat) (A : Option Addr) (n c : Nat) : (rdrBox w i A n c).heap.size = w.heap.size + 4 := by simp
theorem rdr_below (w : World) (i : Nat) (A : Option Addr) (n c : Nat) : Below w.heap.size w (rdrBox w i A n c) :=
  ((((Below.refl _ _).alloc (Nat.le_refl _) _).alloc (by simp) _).alloc (by simp <;> omega) _).alloc (by simp <;> omega) _
theorem rdr_start {w0 w : World} {i r : Nat} {xs : List Nat} {A : Option Addr} {c : Nat} {kn : List Pk.It} (hi : InAt w0 w i r xs) (hii : i < w.heap.size) (hk : Known w0 A c kn) : RdS w0 (rdrBox w i A kn.length c) i r (w.heap.size + 3) w.heap.size (w.heap.size + 2) (w.heap.size + 1) [] kn := by
  have s1 : (w.alloc (.map #[] 0)).heap.size = w.heap.size + 1 := by simp
  have s2 : ((w.alloc (.map #[] 0)).alloc (.cells #[.slice A kn.length c] 23)).heap.size = w.heap.size + 2 := by simp
  have s3 : (((w.alloc (.map #[] 0)).alloc (.cells #[.slice A kn.length c] 23)).alloc (.cells #[.map none] 71)).heap.size = w.heap.size + 3 := by simp
  have h1 := Blk.new (w.alloc (.map #[] 0)) 23 #[.slice A kn.length c]
  rw [s1] at h1
  have h2 := Blk.new ((w.alloc (.map #[] 0)).alloc (.cells #[.slice A kn.length c] 23)) 71 #[.map none]
  rw [s2] at h2
  have h3 := Blk.new (((w.alloc (.map #[] 0)).alloc (.cells #[.slice A kn.length c] 23)).alloc (.cells #[.map none] 71)) 83 #[.pointer (some ⟨i, 0, none⟩), .map (some w.heap.size), .func (.func 57) #[] #[.pointer (some ⟨w.heap.size + 2, 0, none⟩), .pointer (some ⟨w.heap.size + 1, 0, none⟩)]]
  rw [s3] at h3
  refine ⟨h3, ?_, fun p hp => (by cases hp), Or.inl (h2.alloc _), ⟨⟨A, c, (h1.alloc _).alloc _, hk.row⟩, hk.rd, hk.few⟩, by have := hi.lt; omega, by simp⟩
  have hm := MapO.made w
  refine MapO.ext (f := fun _ => none) ?_ (fun x _ => rfl)
  exact ((hm.below ((Below.refl _ _).alloc (Nat.le_refl _) _)).below ((Below.refl _ _).alloc (Nat.le_refl _) _)).below ((Below.refl _ _).alloc (Nat.le_refl _) _)
theorem fill_cell (zc : Array Value) (v : Value) (hv : v.cells = [v].toArray) : Instr.fill (fun i => some (i * 1, 1)) ((Array.range (1 * 1)).map (zc[· % zc.size]!)) [(0, v)] = some #[v] := by
  obtain ⟨old, ho⟩ : ∃ old : List Value, (Array.range (1 * 1)).map (zc[· % zc.size]!) = old.toArray := ⟨_, (Array.toArray_toList ..).symm⟩
  have hl : old.length = 1 := by
    have := congrArg Array.size ho
    simpa using this.symm
  rw [ho]
  have h := fill_part (fun i => some (i * 1, 1)) 0 0 1 v [] [v] old [] [] (by simp) hv rfl hl rfl
  simp only [List.nil_append, List.append_nil] at h
  rw [h]
  exact fill_done _ _
theorem bse_depth {out kn : List Pk.It} (ho : ∀ p ∈ out, p.depth ≤ 5) (hk : ∀ p ∈ kn, p.depth = 0) {id : List Nat} (p : Pk.It) (h : Pk.bse out kn id = some p) : p.depth ≤ 1000000 := by
  rcases Pk.bse_mem h with h | h
  · have := ho p h; omega
  · have := hk p h; omega
end Go.Proofs.YtolfphfdeccleaaGreatDoor
