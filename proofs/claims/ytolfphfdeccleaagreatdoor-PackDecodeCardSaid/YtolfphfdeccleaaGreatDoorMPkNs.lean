/- octets.Take of lists (of numbers), whatever reads them. -/
import Derived.Test.YtolfphfdeccleaaGreatDoorMOct14s
import Derived.Test.YtolfphfdeccleaaGreatDoorMPk14s
import Derived.Test.YtolfphfdeccleaaGreatDoorMPk13N
namespace Go.Proofs.YtolfphfdeccleaaGreatDoor
open Go Go.RowKit
theorem catchN_idle (q : Nat) (w : World) :
    CallsD Tryz.prog 85 #[.pointer (some ⟨q, 0, none⟩)] .returning w fun e u' w' => e = .returned (.tuple #[]) ∧ u' = .returning ∧ w' = w := by
  refine callsD_of_wpS Tryz.func85 rfl fun c₀ cs hu => ?_
  apply wpS_seq
  apply wpS_region
  simp [wpOpsS, go_sem, recoverD, hu, Tryz.ntmps85, Exit.thenS]
  rw [slots17]
  refine wpS_of_wp ?_
  go_wp2
  exact ⟨rfl, _, by rw [← hu], _, results_none rfl _ _ _, rfl, rfl, rfl⟩
set_option maxRecDepth 100000 in
theorem catchN_stop (q r : Nat) (older : List PanicEntry) (w : World) (hq : w.cell? ⟨q, 0, none⟩ = some (.pointer (some ⟨r, 0, none⟩))) :
    CallsD Tryz.prog 85 #[.pointer (some ⟨q, 0, none⟩)] (.panicking ({ v := stopV r, recovered := false } :: older)) w fun e u' w' =>
      e = .returned (.tuple #[]) ∧ u' = .panicking ({ v := stopV r, recovered := true } :: older) ∧ Below w.heap.size w w' := by
  refine callsD_of_wpS Tryz.func85 rfl fun c₀ cs hu => ?_
  apply wpS_seq
  apply wpS_region
  simp [wpOpsS, go_sem, recoverD, hu, Tryz.ntmps85, Exit.thenS]
  rw [slots17]
  refine wpS_of_wp ?_
  have h1 := stop_eql r
  have h2 := stop_assert r
  have h3 := stop_neq r
  have hb : Hid (Below w.heap.size w (w.alloc (.cells #[.pointer (some ⟨r, 0, none⟩)] 122))) := Lib.hid ((Below.refl _ _).alloc (Nat.le_refl _) _)
  have hq2 : (w.alloc (.cells #[.pointer (some ⟨r, 0, none⟩)] 122)).cell? ⟨q, 0, none⟩ = some (.pointer (some ⟨r, 0, none⟩)) := (hb.out.cell (p := ⟨q, 0, none⟩) (block_lt_of_cell hq)).trans hq
  go_wp2
  refine ⟨rfl, .panicking ({ v := stopV r, recovered := true } :: older), rfl, .tuple #[], ?_, rfl, rfl, hb.out⟩
  exact results_none rfl _ _ _
theorem runN_ok (K : Nat) (cap : Array Value) (r : Nat) (w : World) (R : Value → World → Prop) (hK : ∀ args w, (callFunc K args).run Tryz.prog w = .ok (.enter K args) w)
    (hread : Calls Tryz.prog K (#[.pointer (some ⟨w.heap.size + 1, 0, none⟩)] ++ cap) (runBox w r) fun e w' => ∃ v, e = .returned v ∧ R v w') :
    Calls Tryz.prog 65 #[.pointer (some ⟨r, 0, none⟩), .func (.func K) #[] cap] w fun e w' => ∃ v, e = .returned v ∧ R v w' := by
  have hmf : ∀ (fn : Fn) (first cap : Array Value) (w : World), (Instr.makeFunc fn first cap).run Tryz.prog w = .ok (.func fn first cap) w := fun _ _ _ _ => rfl
  go_enter_defers Tryz.func65, Tryz.ntmps65
  go_wp2_with (refine hread.mono ?_; rintro e w1 ⟨v, rfl, hr⟩; have HR := Lib.hid hr; clear hr)
  refine leaves_cons (f := 85) (args := #[.pointer (some ⟨w.heap.size, 0, none⟩)]) (by simp) (by simp [go_sem]) ?_
  refine (catchN_idle w.heap.size _).mono ?_
  rintro e u' w'' ⟨rfl, rfl, rfl⟩
  refine ⟨_, results_tmp rfl _ _ _, ?_⟩
  exact ⟨v, rfl, HR.out⟩
theorem runN_bad (K : Nat) (cap : Array Value) (r : Nat) (w : World) (R : World → Prop) (hK : ∀ args w, (callFunc K args).run Tryz.prog w = .ok (.enter K args) w)
    (hread : Calls Tryz.prog K (#[.pointer (some ⟨w.heap.size + 1, 0, none⟩)] ++ cap) (runBox w r) fun e w' => e = .panicked [{ v := stopV r, recovered := false }] ∧ R w')
    (hq : ∀ a, R a → a.cell? ⟨w.heap.size, 0, none⟩ = some (.pointer (some ⟨r, 0, none⟩))) (hR : ∀ a b, R a → Below a.heap.size a b → R b) :
    Calls Tryz.prog 65 #[.pointer (some ⟨r, 0, none⟩), .func (.func K) #[] cap] w fun e w' => e = .returned (.slice none 0 0) ∧ R w' := by
  have hmf : ∀ (fn : Fn) (first cap : Array Value) (w : World), (Instr.makeFunc fn first cap).run Tryz.prog w = .ok (.func fn first cap) w := fun _ _ _ _ => rfl
  go_enter_defers Tryz.func65, Tryz.ntmps65
  go_wp2_with (refine hread.mono ?_; rintro e w1 ⟨rfl, hr⟩; have HR := Lib.hid hr; clear hr)
  refine leaves_cons (f := 85) (args := #[.pointer (some ⟨w.heap.size, 0, none⟩)]) (by simp) (by simp [go_sem]) ?_
  refine (catchN_stop w.heap.size r [] _ (hq _ HR.out)).mono ?_
  rintro e u' w'' ⟨rfl, rfl, hb⟩
  exact ⟨_, results_tmp rfl _ _ _, rfl, hR _ _ HR.out hb⟩
theorem closeN_any (q r : Nat) (v0 v1 v2 v3 : Value) (w : World) (hq : w.cell? ⟨q, 0, none⟩ = some (.pointer (some ⟨r, 0, none⟩))) (hr : Blk w r 112 #[v0, v1, v2, v3]) :
    CallsD Tryz.prog 64 #[.pointer (some ⟨q, 0, none⟩)] .returning w fun e u' w' => u' = .returning ∧ (e = .returned (.tuple #[]) ∧ w.grownBy w' (some r)) := by
  have HG : Hid (w.grownBy ((((w.setCell ⟨r, 0, none⟩ (.slice none 0 0)).setCell ⟨r, 1, none⟩ (.bool false)).setCell ⟨r, 2, none⟩ (.bool false)).setCell ⟨r, 3, none⟩ .nilIface) (some r)) := Lib.hid (only_setCell (p := ⟨r, 3, none⟩) (only_setCell (p := ⟨r, 2, none⟩) (only_setCell (p := ⟨r, 1, none⟩) (only_setCell (p := ⟨r, 0, none⟩) (World.grownBy.refl w (some r)) (Or.inl rfl) _) (Or.inl rfl) _) (Or.inl rfl) _) (Or.inl rfl) _)
  have c0 : w.cell? ⟨r, 0, none⟩ = some v0 := hr.cell 0
  have c1 : w.cell? ⟨r, 1, none⟩ = some v1 := hr.cell 1
  have c2 : w.cell? ⟨r, 2, none⟩ = some v2 := hr.cell 2
  have c3 : w.cell? ⟨r, 3, none⟩ = some v3 := hr.cell 3
  have z0 := hr.frozen 0
  have z1 := hr.frozen 1
  have z2 := hr.frozen 2
  have z3 := hr.frozen 3
  clear hr
  go_enter_d Tryz.func64, Tryz.ntmps64
  go_wp2
  go_end0
  exact ⟨rfl, HG.out⟩
set_option maxRecDepth 100000 in
theorem takeN_ok (K : Nat) (cap : Array Value) (S : Nat → Prop) (w0 w : World) (A : Option Addr) (n c : Nat) (xs : List Nat) (R : Nat → Value → World → Prop) (hK : ∀ args w, (callFunc K args).run Tryz.prog w = .ok (.enter K args) w)
    (hw : Below w0.heap.size w0 w) (hv : Rd w0 (.slice A n c) xs) (hS : ∀ b, S b → b < w.heap.size) (hread : ReadsTo K cap S w0 w xs [] R) (hR : ∀ r u a b, R r u a → a.grownBy b (some r) → R r u b) :
    Calls Tryz.prog 37 #[.slice A n c, .func (.func K) #[] cap] w fun e w' => ∃ u r, e = .returned (.tuple #[u, .nilIface]) ∧ w.heap.size ≤ r ∧ R r u w' ∧ Kpt S w w' := by
  have hmf : ∀ (fn : Fn) (first cap : Array Value) (w : World), (Instr.makeFunc fn first cap).run Tryz.prog w = .ok (.func fn first cap) w := fun _ _ _ _ => rfl
  have CR := runN_ok K cap w.heap.size (takeBox w (.slice A n c)) (fun u w' => InAt w0 w' ((takeBox w (.slice A n c)).heap.size + 1) w.heap.size [] ∧ Kpt (fun b => b = w.heap.size ∨ S b) (runBox (takeBox w (.slice A n c)) w.heap.size) w' ∧ R w.heap.size u w') hK (hread _ _ _ (Nat.le_refl _) (by rw [takeBox_size]; omega) (inAt_run hw hv) (below_takeRun w _))
  have HS := Lib.hid hS
  have HRR := Lib.hid hR
  clear hread hS hR
  go_enter_defers Tryz.func37, Tryz.ntmps37
  go_wp2_with (go_at_call 65; refine CR.mono ?_; rintro e w1 ⟨u, rfl, hi, hk, hr⟩; have p0 : w1.cell? ⟨w.heap.size + 1, 0, none⟩ = some (.pointer (some ⟨w.heap.size, 0, none⟩)) := kpt_var HS.out hk; obtain ⟨vz, hz, ⟨Az, cz, rfl, _, _⟩, _⟩ := hi; have p1 : w1.cell? ⟨w.heap.size, 2, none⟩ = some (.bool false) := hz.r_.cell 2; have p2 : w1.cell? ⟨w.heap.size, 0, none⟩ = some (.slice Az 0 cz) := hz.r_.cell 0; have HZ := Lib.hid hz.r_; have HK := Lib.hid hk; have HR := Lib.hid hr; clear hz hk hr CR)
  refine leaves_cons (f := 64) (args := #[.pointer (some ⟨w.heap.size + 1, 0, none⟩)]) (by simp) (by simp [go_sem]) ?_
  refine (closeN_any (w.heap.size + 1) w.heap.size _ _ _ _ _ p0 HZ.out).mono ?_
  rintro e u' w'' ⟨rfl, rfl, hg⟩
  refine ⟨_, results_tmp2 rfl _ _ _, ?_⟩
  exact ⟨u, w.heap.size, rfl, Nat.le_refl _, HRR.out _ _ _ _ HR.out hg, kpt_end HK.out hg⟩
set_option maxRecDepth 100000 in
theorem takeN_long (K : Nat) (cap : Array Value) (S : Nat → Prop) (w0 w : World) (A : Option Addr) (n c : Nat) (xs zs : List Nat) (aL : Addr) (hK : ∀ args w, (callFunc K args).run Tryz.prog w = .ok (.enter K args) w)
    (hw : Below w0.heap.size w0 w) (hv : Rd w0 (.slice A n c) xs) (hS : ∀ b, S b → b < w.heap.size) (hread : ReadsTo K cap S w0 w xs zs (fun _ _ _ => True)) (hz0 : 0 < zs.length) (hL : w0.cell? ⟨2, 0, none⟩ = some (ev aL)) :
    Calls Tryz.prog 37 #[.slice A n c, .func (.func K) #[] cap] w fun e w' => e = .returned (.tuple #[.slice none 0 0, ev aL]) ∧ Kpt S w w' := by
  have hmf : ∀ (fn : Fn) (first cap : Array Value) (w : World), (Instr.makeFunc fn first cap).run Tryz.prog w = .ok (.func fn first cap) w := fun _ _ _ _ => rfl
  have CR := runN_ok K cap w.heap.size (takeBox w (.slice A n c)) (fun u w' => InAt w0 w' ((takeBox w (.slice A n c)).heap.size + 1) w.heap.size zs ∧ Kpt (fun b => b = w.heap.size ∨ S b) (runBox (takeBox w (.slice A n c)) w.heap.size) w' ∧ True) hK (hread _ _ _ (Nat.le_refl _) (by rw [takeBox_size]; omega) (inAt_run hw hv) (below_takeRun w _))
  have HS := Lib.hid hS
  have i0 : (0 : Int) < (zs.length : Int) := by omega
  clear hread hS
  go_enter_defers Tryz.func37, Tryz.ntmps37
  go_wp2_with (go_at_call 65; refine CR.mono ?_; rintro e w1 ⟨u, rfl, hi, hk, _⟩; have p0 : w1.cell? ⟨w.heap.size + 1, 0, none⟩ = some (.pointer (some ⟨w.heap.size, 0, none⟩)) := kpt_var HS.out hk; have p3 : w1.cell? ⟨2, 0, none⟩ = some (ev aL) := (hi.bel.1.cell (block_lt_of_cell hL)).trans hL; obtain ⟨vz, hz, ⟨Az, cz, rfl, _, _⟩, _⟩ := hi; have p1 : w1.cell? ⟨w.heap.size, 2, none⟩ = some (.bool false) := hz.r_.cell 2; have p2 : w1.cell? ⟨w.heap.size, 0, none⟩ = some (.slice Az zs.length cz) := hz.r_.cell 0; have HZ := Lib.hid hz.r_; have HK := Lib.hid hk; clear hz hk CR)
  go_quiet (fail)
  go_wp2
  refine leaves_cons (f := 64) (args := #[.pointer (some ⟨w.heap.size + 1, 0, none⟩)]) (by simp) (by simp [go_sem]) ?_
  refine (closeN_any (w.heap.size + 1) w.heap.size _ _ _ _ (w1.drewN nq) p0 (HZ.out.drewN nq)).mono ?_
  rintro e u' w'' ⟨rfl, rfl, hg⟩
  refine ⟨_, results_tmp2 rfl _ _ _, ?_⟩
  exact ⟨rfl, kpt_end (HK.out.trans (Kpt.of_below (below_drewN (Below.refl _ _) nq))) hg⟩
set_option maxRecDepth 100000 in
theorem takeN_bad (K : Nat) (cap : Array Value) (S : Nat → Prop) (w0 w : World) (A : Option Addr) (n c : Nat) (xs : List Nat) (ae : Addr) (hK : ∀ args w, (callFunc K args).run Tryz.prog w = .ok (.enter K args) w)
    (hw : Below w0.heap.size w0 w) (hv : Rd w0 (.slice A n c) xs) (hS : ∀ b, S b → b < w.heap.size) (hread : ReadsBad K cap S w0 w xs ae) :
    Calls Tryz.prog 37 #[.slice A n c, .func (.func K) #[] cap] w fun e w' => e = .returned (.tuple #[.slice none 0 0, ev ae]) ∧ Kpt S w w' := by
  have hmf : ∀ (fn : Fn) (first cap : Array Value) (w : World), (Instr.makeFunc fn first cap).run Tryz.prog w = .ok (.func fn first cap) w := fun _ _ _ _ => rfl
  have CR := runN_bad K cap w.heap.size (takeBox w (.slice A n c)) (fun w' => Dead w' w.heap.size (ev ae) ∧ Kpt (fun b => b = w.heap.size ∨ S b) (runBox (takeBox w (.slice A n c)) w.heap.size) w') hK (hread _ _ _ (Nat.le_refl _) (by rw [takeBox_size]; omega) (inAt_run hw hv) (below_takeRun w _)) (fun a h => kpt_var2 hS h.2) (fun a b h k => ⟨h.1.grown k, h.2.trans (Kpt.of_below k)⟩)
  have HS := Lib.hid hS
  clear hread hS
  go_enter_defers Tryz.func37, Tryz.ntmps37
  go_wp2_with (go_at_call 65; refine CR.mono ?_; rintro e w1 ⟨rfl, hd, hk⟩; have p0 : w1.cell? ⟨w.heap.size + 1, 0, none⟩ = some (.pointer (some ⟨w.heap.size, 0, none⟩)) := kpt_var HS.out hk; obtain ⟨vd, hd⟩ := hd; have p1 : w1.cell? ⟨w.heap.size, 2, none⟩ = some (.bool true) := hd.cell 2; have p2 : w1.cell? ⟨w.heap.size, 3, none⟩ = some (ev ae) := hd.cell 3; have HZ := Lib.hid hd; have HK := Lib.hid hk; clear hd hk CR)
  go_quiet (fail)
  go_wp2
  refine leaves_cons (f := 64) (args := #[.pointer (some ⟨w.heap.size + 1, 0, none⟩)]) (by simp) (by simp [go_sem]) ?_
  refine (closeN_any (w.heap.size + 1) w.heap.size _ _ _ _ (w1.drewN nq) p0 (HZ.out.drewN nq)).mono ?_
  rintro e u' w'' ⟨rfl, rfl, hg⟩
  refine ⟨_, results_tmp2 rfl _ _ _, ?_⟩
  exact ⟨rfl, kpt_end (HK.out.trans (Kpt.of_below (below_drewN (Below.refl _ _) nq))) hg⟩
end Go.Proofs.YtolfphfdeccleaaGreatDoor
/- Depths: how deep each object of any bytes is told. -/
namespace Go.Proofs.YtolfphfdeccleaaGreatDoor
open Go Go.RowKit
/-- how Decode ends -/
def DecN (w : World) (kn : List Pk.It) (a : Nat → Addr) (xs : List Nat) (e : Ending) (w' : World) : Prop :=
  match Pk.decode (kn.map Pk.It.item) xs with
  | .bad c => e = .returned (.tuple #[nilV, ecode a c]) ∧ Below w.heap.size w w'
  | .ok l => ∃ (v : Value) (out : List Pk.It), out.map Pk.It.item = l ∧ e = .returned (.tuple #[v, .nilIface]) ∧ (∃ B, w.heap.size ≤ B ∧ w'.ownsRow B 3 1 v out.length (out.map fun p => Value.int .i64 (p.depth : Int))) ∧ Below w.heap.size w w'
theorem enter_eachN (args : Array Value) (w : World) : (callFunc 38 args).run Tryz.prog w = .ok (.enter 38 args) w := by kernel_rfl
set_option maxRecDepth 100000 in
set_option maxHeartbeats 4000000 in
theorem eachON_any {A : Option Addr} {c : Nat} {kn : List Pk.It} (a : Nat → Addr) (xs : List Nat) (Ab : Option Addr) (nb cb : Nat) (w : World) (hv : Rd w (.slice Ab nb cb) xs) (hb : Sha.Byte xs) (hz : xs.length ≤ 1000000) (hk : Known w A c kn) (ht : Tabs w) (hS : KSents w a) :
    Calls Tryz.prog 20 #[.slice Ab nb cb, .slice A kn.length c, .func (.func 21) #[] #[]] w (DecN w kn a xs) := by
  have hn : nb = xs.length := by obtain ⟨_, _, hv, _⟩ := hv; injection hv
  obtain ⟨w2, hw2⟩ : ∃ w2, w2 = (w.alloc (.cells #[.slice A kn.length c] 23)).alloc (.cells #[.func (.func 21) #[] #[]] 54) := ⟨_, rfl⟩
  have b2 : Below w.heap.size w w2 := hw2 ▸ ((Below.refl _ _).alloc (Nat.le_refl _) _).alloc (by simp) _
  have s2 : w2.heap.size = w.heap.size + 2 := by rw [hw2]; simp
  have hkb : Blk w2 w.heap.size 23 #[.slice A kn.length c] := by rw [hw2]; exact (Blk.new w _ _).alloc _
  have hab : Blk w2 (w.heap.size + 1) 54 #[.func (.func 21) #[] #[]] := by
    rw [hw2]
    have h := Blk.new (w.alloc (.cells #[.slice A kn.length c] 23)) 54 #[.func (.func 21) #[] #[]]
    rwa [World.size_alloc] at h
  have hmf : ∀ (fn : Fn) (first cap : Array Value) (w : World), (Instr.makeFunc fn first cap).run Tryz.prog w = .ok (.func fn first cap) w := fun _ _ _ _ => rfl
  have e2 := hw2.symm
  by_cases h2000 : 2000 < xs.length
  · have HD : Hid (Pk.decode (kn.map Pk.It.item) xs = .bad 13) := Lib.hid (by unfold Pk.decode; rw [if_pos h2000])
    have pL : w2.cell? ⟨12, 0, none⟩ = some (ev (a 12)) := (b2.cell (block_lt_of_cell (hS 12 (by omega)).var)).trans (hS 12 (by omega)).var
    have g1 : (2000 : Int) < (nb : Int) := by omega
    have HB2 := Lib.hid b2
    clear hw2 b2 hkb hab hS ht hk hv hb h2000 hn hz s2
    go_enter Tryz.func20, Tryz.ntmps20
    go_wp2
    go_quiet (fail)
    go_wp2
    go_ret2
    unfold DecN
    rw [HD.out]
    exact ⟨rfl, below_drewN HB2.out _⟩
  have HDE : Hid (Pk.decode (kn.map Pk.It.item) xs = match Pk.readR (kn.map Pk.It.item) xs with | .bad e => .bad e | .ok q => if q.2.length = 0 then .ok q.1 else .bad 3) := Lib.hid (Pk.decode_of _ (by omega))
  have g1 : ¬ (2000 : Int) < (nb : Int) := by omega
  have CE : ∀ (w3 : World) (i r : Nat), w2.heap.size ≤ r → w2.heap.size ≤ i → InAt w w3 i r xs → Below w2.heap.size w2 w3 → Calls Tryz.prog 38 (#[.pointer (some ⟨i, 0, none⟩)] ++ #[.pointer (some ⟨w.heap.size, 0, none⟩), .pointer (some ⟨w.heap.size + 1, 0, none⟩)]) w3 (EachN w w3 i r kn a xs) := fun w3 i r hr hi hin hb3 =>
    eachN_any a xs hb hin (by obtain ⟨v, h, _⟩ := hin; exact h.i_.lt) (hkb.below hb3 hkb.lt) (hab.below hb3 hab.lt) (by constructor <;> omega) hk ht hS
  unfold EachN at CE
  have HB2 := Lib.hid b2
  have HKB : Hid (∀ c' : Nat, Pk.readR (kn.map Pk.It.item) xs = .bad c' → Pk.decode (kn.map Pk.It.item) xs = .bad c') := Lib.hid (fun c' h => by rw [HDE.out, h])
  have e2 := hw2.symm
  cases hrr : Pk.readR (kn.map Pk.It.item) xs with
  | bad c' =>
    simp only [hrr] at CE
    have HD := Lib.hid (HKB.out c' hrr)
    have CT := takeN_bad 38 #[.pointer (some ⟨w.heap.size, 0, none⟩), .pointer (some ⟨w.heap.size + 1, 0, none⟩)] (fun _ => False) w w2 Ab nb cb xs (a (c' - 1)) enter_eachN b2 hv (fun _ h => h.elim) (fun w3 i r hr hi hin hb3 => (CE w3 i r hr hi hin hb3).mono fun e w' h => ⟨h.1, h.2.1, ⟨h.2.2.os, h.2.2.tape, h.2.2.output, h.2.2.size, fun b hb hn => h.2.2.block b hb (fun e => hn (Or.inl e))⟩⟩)
    clear CE hrr hw2 b2 hkb hab hS ht hk hv hb h2000 hn hz s2 HDE HKB
    go_enter Tryz.func20, Tryz.ntmps20
    go_wp2_with (go_at_call 37; refine pause ?_)
    unfold Paused
    refine CT.mono ?_
    rintro e w5 ⟨rfl, hk5⟩
    have HB5 := Lib.hid (below_next HB2.out hk5.below)
    clear hk5 CT
    go_wp2
    go_ret2
    unfold DecN
    rw [HD.out]
    exact ⟨rfl, HB5.out⟩
  | ok q =>
    simp only [hrr] at CE
    obtain ⟨its, rest⟩ := q
    have hD := HDE.out
    rw [hrr] at hD
    simp only at CE hD
    by_cases h0 : rest.length = 0
    · rw [if_pos h0] at hD
      obtain rfl : rest = [] := List.eq_nil_of_length_eq_zero h0
      have HD := Lib.hid hD
      have CT := takeN_ok 38 #[.pointer (some ⟨w.heap.size, 0, none⟩), .pointer (some ⟨w.heap.size + 1, 0, none⟩)] (fun _ => False) w w2 Ab nb cb xs (fun r u w' => ∃ out, out.map Pk.It.item = its ∧ LstN w' r u out) enter_eachN b2 hv (fun _ h => h.elim) (fun w3 i r hr hi hin hb3 => (CE w3 i r hr hi hin hb3).mono fun e w' ⟨v, out, h1, h2, h3, h4, h5⟩ => ⟨v, h2, h3, ⟨h4.os, h4.tape, h4.output, h4.size, fun b hb hn => h4.block b hb (fun e => hn (Or.inl e))⟩, out, h1, h5⟩) (fun r u x y ⟨out, h1, h2⟩ hg => ⟨out, h1, h2.only hg⟩)
      clear CE hrr hw2 hkb hab hS ht hk hv hb h2000 hn hz HDE HKB hD h0 b2
      have HS2 := Lib.hid s2
      clear s2
      go_enter Tryz.func20, Tryz.ntmps20
      go_wp2_with (go_at_call 37; refine pause ?_)
      unfold Paused
      refine CT.mono ?_
      rintro e w5 ⟨u, r, rfl, hr, ⟨out, ho, hl⟩, hk5⟩
      have HF : Hid (DecN w kn a xs (.returned (.tuple #[u, .nilIface])) w5) := Lib.hid (by
        unfold DecN
        rw [HD.out]
        obtain ⟨⟨B, hB, hown⟩, hrd⟩ := hl
        exact ⟨u, out, ho, rfl, ⟨B, by have h1 := HS2.out; omega, hown⟩, below_next HB2.out hk5.below⟩)
      clear hl hk5 CT hr
      go_wp2
      go_ret2
      exact HF.out
    · rw [if_neg h0] at hD
      have HD := Lib.hid hD
      have CT := takeN_long 38 #[.pointer (some ⟨w.heap.size, 0, none⟩), .pointer (some ⟨w.heap.size + 1, 0, none⟩)] (fun _ => False) w w2 Ab nb cb xs rest (a 2) enter_eachN b2 hv (fun _ h => h.elim) (fun w3 i r hr hi hin hb3 => (CE w3 i r hr hi hin hb3).mono fun e w' ⟨v, out, h1, h2, h3, h4, h5⟩ => ⟨v, h2, h3, ⟨h4.os, h4.tape, h4.output, h4.size, fun b hb hn => h4.block b hb (fun e => hn (Or.inl e))⟩, trivial⟩) (by omega) (hS 2 (by omega)).var
      clear CE hrr hw2 hkb hab hS ht hk hv hb h2000 hn hz HDE HKB hD h0 b2 s2
      go_enter Tryz.func20, Tryz.ntmps20
      go_wp2_with (go_at_call 37; refine pause ?_)
      unfold Paused
      refine CT.mono ?_
      rintro e w5 ⟨rfl, hk5⟩
      have HB5 := Lib.hid (below_next HB2.out hk5.below)
      clear hk5 CT
      go_wp2
      go_ret2
      unfold DecN
      rw [HD.out]
      exact ⟨rfl, HB5.out⟩
theorem decodeN_any {A : Option Addr} {c : Nat} {kn : List Pk.It} (a : Nat → Addr) (xs : List Nat) (Ab : Option Addr) (nb cb : Nat) (w : World) (hv : Rd w (.slice Ab nb cb) xs) (hb : Sha.Byte xs) (hz : xs.length ≤ 1000000) (hk : Known w A c kn) (ht : Tabs w) (hS : KSents w a) :
    Calls Tryz.prog 9 #[.slice Ab nb cb, .slice A kn.length c] w (DecN w kn a xs) := by
  have CE := eachON_any a xs Ab nb cb w hv hb hz hk ht hS
  clear hv hb hz hk ht hS
  unfold DecN at CE
  go_enter Tryz.func9, Tryz.ntmps9
  cases hd : Pk.decode (kn.map Pk.It.item) xs with
  | bad c' =>
    rw [hd] at CE
    simp only at CE
    have HD := Lib.hid hd
    clear hd
    go_wp2_with (go_at_call 20; refine CE.mono ?_; rintro e w' ⟨rfl, hb⟩; have HB := Lib.hid hb; clear hb)
    go_ret2
    unfold DecN
    rw [HD.out]
    exact ⟨rfl, HB.out⟩
  | ok l =>
    rw [hd] at CE
    simp only at CE
    have HD := Lib.hid hd
    clear hd
    go_wp2_with (go_at_call 20; refine CE.mono ?_; rintro e w' ⟨v, out, ho, rfl, hl, hb⟩; have HO := Lib.hid ho; have HL := Lib.hid hl; have HB := Lib.hid hb; clear ho hl hb)
    go_ret2
    unfold DecN
    rw [HD.out]
    exact ⟨v, out, HO.out, rfl, HL.out, HB.out⟩
end Go.Proofs.YtolfphfdeccleaaGreatDoor
