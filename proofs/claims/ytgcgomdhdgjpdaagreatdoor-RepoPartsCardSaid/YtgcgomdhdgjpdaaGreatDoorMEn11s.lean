/- Is an entry right, but for its length: entry.Updates, entry.objects, entry.formed. -/
import Derived.Test.YtgcgomdhdgjpdaaGreatDoorMEn8s
import Derived.Test.YtgcgomdhdgjpdaaGreatDoorMRp2s
import Derived.Test.YtgcgomdhdgjpdaaGreatDoorMOb3s
import Derived.Test.YtgcgomdhdgjpdaaGreatDoorMLawOpenEns
import Derived.Test.YtgcgomdhdgjpdaaGreatDoorMShaSpreads
import Derived.Test.YtgcgomdhdgjpdaaGreatDoorMShaEnds
import Derived.Lib.SlBytesConst
import Derived.Below
import Derived.ChangeSame
import Derived.ReadAgain
import Derived.ChangeOld
import Derived.RowKit
import Derived.OpenShut
import Derived.Test.YtgcgomdhdgjpdaaGreatDoorCards
import Derived.Test.YtgcgomdhdgjpdaaGreatDoorTie
import Derived.ProofKit
import Derived.Deep.DeepHandedRow
import Derived.Lib.LaidTab
import Derived.Stop.LaidErr
import Derived.Test.YtgcgomdhdgjpdaaGreatDoorMLawOpen3s
import Derived.Test.YtgcgomdhdgjpdaaGreatDoorMOct4s
import Derived.Deep.DeepLaidRun
namespace Go.Proofs.YtgcgomdhdgjpdaaGreatDoor
open Go Go.RowKit
set_option maxRecDepth 100000 in
set_option maxHeartbeats 1000000 in
theorem updates_any (us : List En.Up) (A : Option Addr) (n c : Nat) (w : World) (hx : RdK w (.slice A n c) n (cellsU us)) (hl : n = us.length) (hf : ∀ u ∈ us, u.Fit) (hm : MaxAt w) (hn : n ≤ 1000) :
  Calls Tryz.prog 74 #[.slice A n c] w fun e w' => e = .returned (.bool (En.upsOk us)) ∧ Below w.heap.size w w' := by
 have CO := onceU_any us A n c w hx hl hf hm hn
 have HK : Hid (En.upsOk us = (decide (1 ≤ n) && (decide (n ≤ 8) && En.once (us.map En.upKey)))) := Lib.hid (by rw [hl]; rfl)
 clear hx hl hf hm
 by_cases h1 : n < 1
 ·have i1 : (n : Int) < 1 := by omega
  have HF : Hid (En.upsOk us = false) := Lib.hid (by rw [HK.out, decide_eq_false (by omega)]; rfl)
  clear h1 CO
  go_enter Tryz.func74, Tryz.ntmps74
  go_wp2
  go_ret
  exact ⟨by rw [HF.out]; rfl, Below.refl _ _⟩
 have i1 : ¬ (n : Int) < 1 := by omega
 by_cases h2 : 8 < n
 ·have i2 : (8 : Int) < (n : Int) := by omega
  have HF : Hid (En.upsOk us = false) := Lib.hid (by rw [HK.out, decide_eq_false (show ¬ n ≤ 8 by omega)]; simp)
  clear h1 h2 CO
  go_enter Tryz.func74, Tryz.ntmps74
  go_wp2
  go_ret
  exact ⟨by rw [HF.out]; rfl, Below.refl _ _⟩
 have i2 : ¬ (8 : Int) < (n : Int) := by omega
 have HF : Hid (En.upsOk us = En.once (us.map En.upKey)) := Lib.hid (by rw [HK.out, decide_eq_true (show 1 ≤ n by omega), decide_eq_true (show n ≤ 8 by omega)]; rfl)
 generalize En.once (us.map En.upKey) = r at HF CO
 clear h1 h2 hn
 go_enter Tryz.func74, Tryz.ntmps74
 go_wp2_with (go_at_call 100; refine pause ?_)
 unfold Paused
 refine CO.mono ?_
 rintro e w' ⟨rfl, hb⟩
 have HB := Lib.hid hb
 clear hb CO
 go_wp2
 go_ret
 exact ⟨by rw [HF.out]; rfl, HB.out⟩
set_option maxRecDepth 100000 in
set_option maxHeartbeats 1000000 in
theorem objects_any (ts : List En.Bt) (A : Option Addr) (n c : Nat) (a : Nat → Addr) (w : World) (hx : BtT w A n ts) (hS : ESents w a) :
  Calls Tryz.prog 75 #[.slice A n c] w fun e w' => e = .returned (.bool (En.objsOk (ts.map (·.text)))) ∧ Below w.heap.size w w' := by
 have HK : Hid (En.objsOk (ts.map (·.text)) = (decide (n ≤ 64) && En.once ((ts.map (·.text)).map En.obKey))) := Lib.hid (by unfold En.objsOk; rw [List.length_map, ← hx.len])
 by_cases h2 : 64 < n
 ·have i2 : (64 : Int) < (n : Int) := by omega
  have HF : Hid (En.objsOk (ts.map (·.text)) = false) := Lib.hid (by rw [HK.out, decide_eq_false (show ¬ n ≤ 64 by omega)]; rfl)
  clear h2 hx
  go_enter Tryz.func75, Tryz.ntmps75
  go_wp2
  go_ret
  exact ⟨by rw [HF.out]; rfl, Below.refl _ _⟩
 have i2 : ¬ (64 : Int) < (n : Int) := by omega
 have CO := onceT_any ts A n c a w hx hS (by omega)
 have HF : Hid (En.objsOk (ts.map (·.text)) = En.once ((ts.map (·.text)).map En.obKey)) := Lib.hid (by rw [HK.out, decide_eq_true (show n ≤ 64 by omega)]; rfl)
 generalize En.once ((ts.map (·.text)).map En.obKey) = r at HF CO
 clear h2 hx
 go_enter Tryz.func75, Tryz.ntmps75
 go_wp2_with (go_at_call 103; refine pause ?_)
 unfold Paused
 refine CO.mono ?_
 rintro e w' ⟨rfl, hb⟩
 have HB := Lib.hid hb
 clear hb CO
 go_wp2
 go_ret
 exact ⟨by rw [HF.out]; rfl, HB.out⟩
structure EnB (w w1 : World) (e : En.E) (ca : Array Value) (U : Option Addr) (cu : Nat) (O : Option Addr) (co : Nat) (ts : List En.Bt) : Prop where
 bel : Below w.heap.size w w1
 box : Blk w1 w.heap.size 32 ca
 ent : EnC w1 e ca U cu O co ts
theorem EnB.of {w : World} {e : En.E} {ca : Array Value} {U O : Option Addr} {cu co : Nat} {ts : List En.Bt} (h : EnC w e ca U cu O co ts) : EnB w (w.alloc (.cells ca 32)) e ca U cu O co ts :=
 ⟨(Below.refl _ _).alloc (Nat.le_refl _) _, Blk.new w _ _, h.below ((Below.refl _ _).alloc (Nat.le_refl _) _)⟩
section
variable {w w1 w2 : World} {e : En.E} {ca : Array Value} {U O : Option Addr} {cu co : Nat} {ts : List En.Bt}
theorem EnB.below (h : EnB w w1 e ca U cu O co ts) (hb : Below w1.heap.size w1 w2) : EnB w w2 e ca U cu O co ts := ⟨below_next h.bel hb, h.box.below hb h.box.lt, h.ent.below hb⟩
theorem EnB.c0 (h : EnB w w1 e ca U cu O co ts) : w1.cell? ⟨w.heap.size, 0, none⟩ = some (.int .i64 e.client) := (h.box.cell 0).trans (by rw [h.ent.cells]; rfl)
theorem EnB.c1 (h : EnB w w1 e ca U cu O co ts) : w1.cell? ⟨w.heap.size, 1, none⟩ = some (.int .i64 e.number) := (h.box.cell 1).trans (by rw [h.ent.cells]; rfl)
theorem EnB.c2 (h : EnB w w1 e ca U cu O co ts) : w1.cell? ⟨w.heap.size, 2, none⟩ = some (.int .i64 e.answer) := (h.box.cell 2).trans (by rw [h.ent.cells]; rfl)
theorem EnB.c3 (h : EnB w w1 e ca U cu O co ts) : w1.cell? ⟨w.heap.size, 3, none⟩ = some (.slice U e.ups.length cu) := (h.box.cell 3).trans (by rw [h.ent.cells]; rfl)
theorem EnB.c4 (h : EnB w w1 e ca U cu O co ts) : w1.cell? ⟨w.heap.size, 4, none⟩ = some (.slice O e.objs.length co) := (h.box.cell 4).trans (by rw [h.ent.cells]; rfl)
theorem EnC.size (h : EnC w e ca U cu O co ts) : ca.size = 5 := by rw [h.cells]; rfl
theorem EnC.one (h : EnC w e ca U cu O co ts) : ca.all (·.oneCell') = true := by rw [h.cells]; simp [Value.oneCell']
theorem EnC.nobj (h : EnC w e ca U cu O co ts) : e.objs.length = ts.length := by rw [← h.txt, List.length_map]
end
theorem ent_load {ca : Array Value} (h : ca.size = 5) : (Tryz.prog.info? 32).map (·.size) = some ca.size := by rw [h]; kernel_rfl
set_option maxRecDepth 100000 in
set_option maxHeartbeats 4000000 in
theorem formed_any (e : En.E) (ca : Array Value) (U O : Option Addr) (cu co : Nat) (ts : List En.Bt) (a : Nat → Addr) (w : World) (h : EnC w e ca U cu O co ts) (hS : ESents w a) (hm : MaxAt w) (hn : e.ups.length ≤ 1000) :
  Calls Tryz.prog 58 #[.agg ca] w fun r w' => r = .returned (.bool (En.formed e)) ∧ Below w.heap.size w w' := by
 obtain ⟨w1, hw1⟩ : ∃ w1, w1 = w.alloc (.cells ca 32) := ⟨_, rfl⟩
 have hb : EnB w w1 e ca U cu O co ts := hw1 ▸ EnB.of h
 have p0 := hb.c0
 have p1 := hb.c1
 have p2 := hb.c2
 have p3 := hb.c3
 have p4 := hb.c4
 have CU := updates_any e.ups U e.ups.length cu w1 hb.ent.ups rfl hb.ent.fit (hm.below hb.bel (Nat.le_refl _)) hn
 have CO : ∀ w2, Below w1.heap.size w1 w2 → Calls Tryz.prog 75 #[.slice O e.objs.length co] w2 _ := fun w2 h2 => objects_any ts O e.objs.length co a w2 (by have := (hb.below h2).ent.objs; exact this) (hS.at_ (hb.below h2).bel)
 rw [h.txt] at CO
 have HB := Lib.hid hb.bel
 have HP4 := Lib.hid (fun w2 (h2 : Below w1.heap.size w1 w2) => (hb.below h2).c4)
 have HK : Hid (En.formed e = (decide (0 ≤ e.client) && (decide (e.client < 8) && (decide (1 ≤ e.number) && (decide (e.number ≤ 1099511627776) && (decide (0 ≤ e.answer) && (decide (e.answer ≤ 10) && (if e.answer = 0 then En.upsOk e.ups && En.objsOk e.objs else decide (e.ups.length = 0) && decide (e.objs.length = 0))))))))) := Lib.hid rfl
 have e1 := hw1.symm
 generalize En.formed e = R at HK ⊢
 generalize En.upsOk e.ups = r1 at HK CU
 generalize En.objsOk e.objs = r2 at HK CO
 generalize e.ups.length = nu at HK p3 CU hn
 generalize e.objs.length = no at HK p4 CO HP4
 generalize e.client = x at HK p0
 generalize e.number = y at HK p1
 generalize e.answer = z at HK p2
 clear h hS hm hb hw1
 go_enter Tryz.func58, Tryz.ntmps58
 by_cases h1 : x < 0
 ·skip
  have HF : Hid (R = false) := Lib.hid (by rw [HK.out, decide_eq_false (show ¬ 0 ≤ x by omega)]; simp)
  clear CU CO HP4 p1 p2 p3 p4
  go_wp2
  go_ret
  exact ⟨by rw [HF.out]; rfl, HB.out⟩
 by_cases h2 : 8 ≤ x
 ·skip
  have HF : Hid (R = false) := Lib.hid (by rw [HK.out, decide_eq_false (show ¬ x < 8 by omega)]; simp)
  clear CU CO HP4 p1 p2 p3 p4
  go_wp2
  go_ret
  exact ⟨by rw [HF.out]; rfl, HB.out⟩
 by_cases h3 : y < 1
 ·skip
  have HF : Hid (R = false) := Lib.hid (by rw [HK.out, decide_eq_false (show ¬ 1 ≤ y by omega)]; simp)
  clear CU CO HP4 p2 p3 p4
  go_wp2
  go_ret
  exact ⟨by rw [HF.out]; rfl, HB.out⟩
 by_cases h4 : 1099511627776 < y
 ·skip
  have HF : Hid (R = false) := Lib.hid (by rw [HK.out, decide_eq_false (show ¬ y ≤ 1099511627776 by omega)]; simp)
  clear CU CO HP4 p2 p3 p4
  go_wp2
  go_ret
  exact ⟨by rw [HF.out]; rfl, HB.out⟩
 by_cases h5 : z < 0
 ·skip
  have HF : Hid (R = false) := Lib.hid (by rw [HK.out, decide_eq_false (show ¬ 0 ≤ z by omega)]; simp)
  clear CU CO HP4 p3 p4
  go_wp2
  go_ret
  exact ⟨by rw [HF.out]; rfl, HB.out⟩
 by_cases h6 : 10 < z
 ·skip
  have HF : Hid (R = false) := Lib.hid (by rw [HK.out, decide_eq_false (show ¬ z ≤ 10 by omega)]; simp)
  clear CU CO HP4 p3 p4
  go_wp2
  go_ret
  exact ⟨by rw [HF.out]; rfl, HB.out⟩
 have HF : Hid (R = (if z = 0 then r1 && r2 else decide (nu = 0) && decide (no = 0))) := Lib.hid (by
  rw [HK.out, decide_eq_true (show 0 ≤ x by omega), decide_eq_true (show x < 8 by omega), decide_eq_true (show 1 ≤ y by omega), decide_eq_true (show y ≤ 1099511627776 by omega), decide_eq_true (show 0 ≤ z by omega), decide_eq_true (show z ≤ 10 by omega)]
  simp)
 by_cases hz : z = 0
 ·have b0 : (z != 0) = false := by simp [hz]
  have HF2 : Hid (R = (r1 && r2)) := Lib.hid (by rw [HF.out, if_pos hz])
  clear hz HF HK
  go_wp2_with (go_at_call 74; refine pause ?_)
  unfold Paused
  refine CU.mono ?_
  rintro r w2 ⟨rfl, hb2⟩
  have HB2 := Lib.hid (below_next HB.out hb2)
  have p4b := HP4.out w2 hb2
  have CO2 := CO w2 hb2
  clear CU CO hb2 HP4 p0 p1 p2 p3 p4
  cases r1
  ·go_wp2
   go_ret
   exact ⟨by rw [HF2.out]; rfl, HB2.out⟩
  ·skip
   go_wp2_with (go_at_call 75; refine pause ?_)
   unfold Paused
   refine CO2.mono ?_
   rintro r w3 ⟨rfl, hb3⟩
   have HB3 := Lib.hid (below_next HB2.out hb3)
   clear CO2 hb3
   go_wp2
   go_ret
   exact ⟨by rw [HF2.out]; rfl, HB3.out⟩
 ·have b0 : (z != 0) = true := by simp [hz]
  have HF2 : Hid (R = (decide (nu = 0) && decide (no = 0))) := Lib.hid (by rw [HF.out, if_neg hz])
  clear hz HF HK CU CO HP4
  by_cases hu : nu = 0
  ·have bu : ((nu : Int) == 0) = true := by simp [hu]
   by_cases ho : no = 0
   ·have bo : ((no : Int) == 0) = true := by simp [ho]
    have HF3 : Hid (R = true) := Lib.hid (by rw [HF2.out, decide_eq_true hu, decide_eq_true ho]; rfl)
    clear hu ho HF2
    go_wp2
    go_ret
    exact ⟨by rw [HF3.out]; rfl, HB.out⟩
   ·have bo : ((no : Int) == 0) = false := by simp [ho]
    have HF3 : Hid (R = false) := Lib.hid (by rw [HF2.out, decide_eq_false ho]; simp)
    clear hu ho HF2
    go_wp2
    go_ret
    exact ⟨by rw [HF3.out]; rfl, HB.out⟩
  ·have bu : ((nu : Int) == 0) = false := by simp [hu]
   have HF3 : Hid (R = false) := Lib.hid (by rw [HF2.out, decide_eq_false hu]; rfl)
   clear hu HF2
   go_wp2
   go_ret
   exact ⟨by rw [HF3.out]; rfl, HB.out⟩
end Go.Proofs.YtgcgomdhdgjpdaaGreatDoor
/- A journal in memory; two journals compared. -/
namespace Go.Proofs.YtgcgomdhdgjpdaaGreatDoor
open Go Go.RowKit Go.Maps
structure Jt where
 e : En.E
 cs : Array Value
 U : Option Addr
 cu : Nat
 O : Option Addr
 co : Nat
 ts : List En.Bt
structure JrT (w : World) (A : Option Addr) (n : Nat) (js : List Jt) : Prop where
 len : n = js.length
 row : 0 < n → ∃ b o, A = some ⟨b, o, none⟩ ∧ b < w.heap.size ∧ ∀ k j, js[k]? = some j → w.rangeAt b (o + k * 5) j.cs.toList
 ok : ∀ j ∈ js, EnC w j.e j.cs j.U j.cu j.O j.co j.ts
 lim : ∀ j ∈ js, j.e.ups.length ≤ 1000 ∧ j.e.objs.length ≤ 100000
theorem JrT.below {w w' : World} {A : Option Addr} {n : Nat} {js : List Jt} (h : JrT w A n js) (hb : Below w.heap.size w w') : JrT w' A n js :=
 ⟨h.len, fun h0 => by
  obtain ⟨b, o, ha, hl, hx⟩ := h.row h0
  exact ⟨b, o, ha, Nat.lt_of_lt_of_le hl hb.size, fun k j hj i v hi => (hb.cell (p := ⟨b, _, none⟩) hl).trans (hx k j hj i v hi)⟩, fun j hj => (h.ok j hj).below hb, h.lim⟩
theorem take_next_e {ts us : List Jt} {k : Nat} (h1 : k < ts.length) (h2 : k < us.length) (h : (ts.take k).map (·.e) = (us.take k).map (·.e)) (e : ts[k].e = us[k].e) : (ts.take (k + 1)).map (·.e) = (us.take (k + 1)).map (·.e) := by
 rw [List.take_succ_eq_append_getElem h1, List.take_succ_eq_append_getElem h2, List.map_append, List.map_append, h]
 simp [e]
def zJ : Array Value := #[.int .i64 0, .int .i64 0, .int .i64 0, .slice none 0 0, .slice none 0 0]
theorem eg_same (args : Array Value) (w : World) : (callFunc 28 args).run Tryz.prog w = .ok (.enter 28 args) w := by kernel_rfl
theorem EnC.five {w : World} {e : En.E} {cs : Array Value} {U O : Option Addr} {cu co : Nat} {ts : List En.Bt} (h : EnC w e cs U cu O co ts) : cs.size = 5 := by rw [h.cells]; rfl
theorem EnC.oneJ {w : World} {e : En.E} {cs : Array Value} {U O : Option Addr} {cu co : Nat} {ts : List En.Bt} (h : EnC w e cs U cu O co ts) : cs.all (·.oneCell') = true := by rw [h.cells]; simp [Value.oneCell']
set_option maxRecDepth 100000 in
set_option maxHeartbeats 4000000 in
theorem eqJ_any (A B : Option Addr) (n m c d : Nat) (ts us : List Jt) (w : World) (ht : JrT w A n ts) (hu : JrT w B m us) (hn : n ≤ 100000) :
  Calls Tryz.prog 27 #[.slice A n c, .slice B m d, .func (.func 28) #[] #[]] w fun e w' => e = .returned (.bool (eqv (ts.map (·.e)) (us.map (·.e)))) ∧ Below w.heap.size w w' := by
 have HT := Lib.hid ht
 have HU := Lib.hid hu
 by_cases hl : n = m
 ·have b0 : ((n : Int) != (m : Int)) = false := by simp; omega
  subst hl
  have HN := Lib.hid hn
  clear ht hu hn
  go_enter Tryz.func27, Tryz.ntmps27
  go_wp2
  go_loopw [17] (fun i wr => ∃ k : Nat, k ≤ n ∧ i = .int .i64 k ∧ Hid ((ts.take k).map (·.e) = (us.take k).map (·.e) ∧ Below w.heap.size w wr)) (fun i _ => n - (intOf i).toNat)
  case atStart => exact ⟨0, Nat.zero_le _, rfl, Lib.hid ⟨rfl, Below.refl _ _⟩⟩
  case round =>
   obtain ⟨k, hk, rfl, HK⟩ := hrel
   rcases Nat.lt_or_ge k n with hlt | hlt
   rotate_left
   ·obtain rfl : k = n := by omega
    have ik : ¬ ((k : Nat) : Int) < k := by omega
    have HF : Hid (eqv (ts.map (·.e)) (us.map (·.e)) = true) := Lib.hid (eqv_true (by
     have h := HK.out.1
     rw [List.take_of_length_le (by rw [← HT.out.len]; exact Nat.le_refl _), List.take_of_length_le (by rw [← HU.out.len]; exact Nat.le_refl _)] at h
     exact h))
    clear hk hlt
    go_wp2
    go_ret
    exact ⟨by rw [HF.out]; rfl, HK.out.2⟩
   have h1 : k < ts.length := by rw [← HT.out.len]; exact hlt
   have h2 : k < us.length := by rw [← HU.out.len]; exact hlt
   have HTW := HT.out.below HK.out.2
   have HUW := HU.out.below HK.out.2
   obtain ⟨b1, o1, rfl, _, g1⟩ := HTW.row (by omega)
   obtain ⟨b2, o2, rfl, l2, g2⟩ := HUW.row (by omega)
   have c1 := g1 k ts[k] (List.getElem?_eq_getElem h1)
   have c2 := g2 k us[k] (List.getElem?_eq_getElem h2)
   have r1 := HTW.ok ts[k] (List.getElem_mem h1)
   have r2 := HUW.ok us[k] (List.getElem_mem h2)
   have y1 := HT.out.lim ts[k] (List.getElem_mem h1)
   have HS := Lib.hid (fun e => take_next_e h1 h2 HK.out.1 e)
   have HNE := Lib.hid (show ts[k].e ≠ us[k].e → eqv (ts.map (·.e)) (us.map (·.e)) = false from fun hne => eqv_false fun e => hne (by
    have h3 := congrArg (fun l => l[k]?) e
    simpa [List.getElem?_eq_getElem h1, List.getElem?_eq_getElem h2] using h3))
   generalize ts[k] = t at c1 r1 y1 HS HNE
   generalize us[k] = u at c2 r2 HS HNE
   have HC1 : Hid (wr.rangeAt b1 (o1 + k * 5) t.cs.toList) := Lib.hid c1
   have HC2 : Hid (wr.rangeAt b2 (o2 + k * 5) u.cs.toList) := Lib.hid c2
   have HL2 := Lib.hid l2
   have HR1 := Lib.hid r1
   have HR2 := Lib.hid r2
   have HY := Lib.hid y1
   have i0 : ((k : Nat) : Int) < n := by omega
   have i1 : (0 : Int) ≤ ((k : Nat) : Int) := by omega
   have i2 : ((n : Nat) : Int) ≤ 100000 := by have := HN.out; omega
   have HLT := Lib.hid hlt
   have eg := eg_same
   clear g1 g2 y1 h1 h2 hk hlt c1 c2 r1 r2 l2 HTW HUW
   go_wp2_with (with_reducible (show wpList _ _ _ (Oper.mk _ (Op.load 32 _) _ _ _ _ :: _) _ _); refine pause ?_)
   unfold Paused
   refine wpList_mid_w (by rfl) 32 (.tmp 20) (by rfl) b1 (o1 + k * 5) (by rfl) t.cs.toList _ HC1.out Tryz.underlying32 (by rfl) (by rw [Array.length_toList]; exact ent_load HR1.out.five) ?_
   go_wp2_with (with_reducible (show wpList _ _ _ (Oper.mk _ (Op.store 32 _ _) _ _ _ _ :: _) _ _); refine pause ?_)
   unfold Paused
   change wpList _ _ _ _ _ (wr.alloc (.cells zJ 32))
   refine wpList_store_row (by rfl) 32 (.tmp 8) (.tmp 21) (by rfl) wr.heap.size t.cs (by rfl) (by rfl) 32 zJ (Blk.new wr _ _) (ent_load HR1.out.five) (by rw [HR1.out.five]; rfl) HR1.out.oneJ ?_
   have b6 : Below wr.heap.size wr ((wr.alloc (.cells zJ 32)).setRow wr.heap.size t.cs) := below_row ((Below.refl _ _).alloc (Nat.le_refl _) _) (Nat.le_refl _) _
   have HI6 : Hid (Blk ((wr.alloc (.cells zJ 32)).setRow wr.heap.size t.cs) wr.heap.size 32 t.cs) := Lib.hid ((Blk.new wr _ _).row _)
   have HC6 : Hid (((wr.alloc (.cells zJ 32)).setRow wr.heap.size t.cs).rangeAt b2 (o2 + k * 5) u.cs.toList) := Lib.hid (fun i v hi => (b6.cell (p := ⟨b2, _, none⟩) HL2.out).trans (HC2.out i v hi))
   have HB6 := Lib.hid b6
   clear b6 HC1 HC2
   generalize (wr.alloc (.cells zJ 32)).setRow wr.heap.size t.cs = w6 at HI6 HC6 HB6 ⊢
   simp only [Act.put]
   go_wp2_with (with_reducible (show wpList _ _ _ (Oper.mk _ (Op.load 32 _) _ _ _ _ :: _) _ _); refine pause ?_)
   unfold Paused
   refine wpList_mid_w (by rfl) 32 (.tmp 24) (by rfl) b2 (o2 + k * 5) (by rfl) u.cs.toList _ HC6.out Tryz.underlying32 (by rfl) (by rw [Array.length_toList]; exact ent_load HR2.out.five) ?_
   go_wp2_with (with_reducible (show wpList _ _ _ (Oper.mk _ (Op.store 32 _ _) _ _ _ _ :: _) _ _); refine pause ?_)
   unfold Paused
   change wpList _ _ _ _ _ (w6.alloc (.cells zJ 32))
   refine wpList_store_row (by rfl) 32 (.tmp 9) (.tmp 25) (by rfl) w6.heap.size u.cs (by rfl) (by rfl) 32 zJ (Blk.new w6 _ _) (ent_load HR2.out.five) (by rw [HR2.out.five]; rfl) HR2.out.oneJ ?_
   have b7 : Below w6.heap.size w6 ((w6.alloc (.cells zJ 32)).setRow w6.heap.size u.cs) := below_row ((Below.refl _ _).alloc (Nat.le_refl _) _) (Nat.le_refl _) _
   have HI7 : Hid (Blk ((w6.alloc (.cells zJ 32)).setRow w6.heap.size u.cs) w6.heap.size 32 u.cs) := Lib.hid ((Blk.new w6 _ _).row _)
   have HI7' : Hid (Blk ((w6.alloc (.cells zJ 32)).setRow w6.heap.size u.cs) wr.heap.size 32 t.cs) := Lib.hid (HI6.out.below b7 HI6.out.lt)
   have HB7 := Lib.hid (below_then HB6.out b7)
   clear b7 HC6 HI6 HB6
   generalize (w6.alloc (.cells zJ 32)).setRow w6.heap.size u.cs = w7 at HI7 HI7' HB7 ⊢
   generalize w6.heap.size = g7 at HI7 ⊢
   simp only [Act.put]
   have CE := esame_any t.e u.e t.cs u.cs t.U t.O u.U u.O t.cu t.co u.cu u.co t.ts u.ts w7 (HR1.out.below HB7.out) (HR2.out.below HB7.out) HY.out.1 HY.out.2
   go_wp2_with (with_reducible (show wpList _ _ _ (Oper.mk _ (Op.load 32 _) _ _ _ _ :: _) _ _); refine pause ?_)
   unfold Paused
   refine wpList_row_w (by rfl) 32 (.tmp 8) (by rfl) wr.heap.size (by rfl) 32 t.cs _ HI7'.out Tryz.underlying32 (by rfl) (ent_load HR1.out.five) ?_
   go_wp2_with (with_reducible (show wpList _ _ _ (Oper.mk _ (Op.load 32 _) _ _ _ _ :: _) _ _); refine pause ?_)
   unfold Paused
   refine wpList_row_w (by rfl) 32 (.tmp 9) (by rfl) g7 (by rfl) 32 u.cs _ HI7.out Tryz.underlying32 (by rfl) (ent_load HR2.out.five) ?_
   go_wp2_with (go_at_call 28; refine pause ?_)
   unfold Paused
   refine CE.mono ?_
   rintro e w9 ⟨rfl, hb9⟩
   have HB9 := Lib.hid (below_next HK.out.2 (below_then HB7.out hb9))
   clear CE hb9 HI7 HI7' HB7
   rcases Classical.em (t.e = u.e) with e | e
   ·have HKN := Lib.hid (HS.out e)
    rw [eqv_true e]
    clear e HS HNE
    go_wp2
    go_roundw
    case rel => exact ⟨k + 1, HLT.out, by go_num, Lib.hid ⟨HKN.out, HB9.out⟩⟩
    case measure => have h5 := HLT.out; simp [intOf]; omega
   ·have HF := Lib.hid (HNE.out e)
    rw [eqv_false e]
    clear e HS HNE
    go_wp2
    go_ret
    exact ⟨by rw [HF.out]; rfl, HB9.out⟩
 ·have b0 : ((n : Int) != (m : Int)) = true := by simp; omega
  have HF : Hid (eqv (ts.map (·.e)) (us.map (·.e)) = false) := Lib.hid (eqv_false fun e => hl (by rw [ht.len, hu.len]; simpa using congrArg List.length e))
  clear ht hu hn hl
  go_enter Tryz.func27, Tryz.ntmps27
  go_wp2
  go_ret
  exact ⟨by rw [HF.out]; rfl, Below.refl _ _⟩
end Go.Proofs.YtgcgomdhdgjpdaaGreatDoor
/- Arguments of laws, opened: rows of entries. -/
namespace Go.Proofs.YtgcgomdhdgjpdaaGreatDoor
open Go Go.RowKit Go.WideShapes Go.ChangeShapes
def JtGood (W : World) (j : Jt) : Prop := EnC W j.e j.cs j.U j.cu j.O j.co j.ts ∧ j.e.objs.length ≤ j.co
structure JrO (w : World) (A : Option Addr) (n : Nat) (js : List Jt) : Prop where
 len : n = js.length
 row : 0 < n → ∃ b o, A = some ⟨b, o, none⟩ ∧ b < w.heap.size ∧ ∀ k j, js[k]? = some j → w.rangeAt b (o + k * 5) j.cs.toList
 ok : ∀ j ∈ js, JtGood w j
theorem JrO.below {w w' : World} {A : Option Addr} {n : Nat} {js : List Jt} (h : JrO w A n js) (hb : Below w.heap.size w w') : JrO w' A n js :=
 ⟨h.len, fun h0 => by
  obtain ⟨b, o, ha, hl, hx⟩ := h.row h0
  exact ⟨b, o, ha, Nat.lt_of_lt_of_le hl hb.size, fun k j hj i v hi => (hb.cell (p := ⟨b, _, none⟩) hl).trans (hx k j hj i v hi)⟩, fun j hj => ⟨(h.ok j hj).1.below hb, (h.ok j hj).2⟩⟩
set_option maxRecDepth 100000 in
theorem open_jents {H : Type} {enc : TypeId × Value → H} {W : World} {held : Bool} {r : Reach} {b0 : Nat} {v : Value} {d : DataW H} {ps : List MemPlace} (hval : Value.okWide Tryz.prog W r b0 22 v)
  (hd : DataW.Trod enc Tryz.prog W 0 (fun _ => true) held 22 v d ps) : ∃ (A : Option Addr) (n c : Nat) (js : List Jt), v = .slice A n c ∧ JrO W A n js ∧ (0 < n → ∃ elems spare, d = .slice elems spare ∧ n ≤ elems.length + spare.length) := by
 obtain ⟨fuel, hf⟩ := hd
 rw [slice_cells Tryz.underlying22 hval] at hf
 rcases DataW.trod_slice Tryz.underlying22 hf with ⟨hc, _⟩ | ⟨a, len, cap, elems, rest, m, _, hc, hd, hba, hlc, hcm, hlen, hel, _⟩
 ·obtain rfl : v = .slice none 0 0 := by simpa using hc
  exact ⟨none, 0, 0, [], rfl, ⟨rfl, fun h => absurd h (by omega), fun l hl => (by cases hl)⟩, fun h => absurd h (by omega)⟩
 ·obtain rfl : v = .slice (some a) len cap := by simpa using hc
  rw [show Tryz.prog.cellsOf 32 = 5 by kernel_rfl] at hel
  obtain ⟨xs, hl, hg, hr⟩ := rdk_of (W := W) (fun j : Jt => j.cs.toList) 5 (JtGood W) (fun x h => by rw [Array.length_toList]; exact h.1.five) (by omega) a len cap hlc (fun i hi => by
   have h := hel i hi
   rw [List.getElem?_eq_getElem (by omega)] at h
   simp only [Option.bind_eq_some_iff] at h
   obtain ⟨cs, hcs, hy⟩ := h
   obtain ⟨e, U, cu, O, co, ts, hl5, hE, hoc⟩ := open_entT hy
   refine ⟨⟨e, cs.toArray, U, cu, O, co, ts⟩, ⟨hE, hoc⟩, fun j x hx => ?_⟩
   have hx' : cs[j]? = some x := by simpa using hx
   exact cells_at hcs j x hx' (by have := (List.getElem?_eq_some_iff.1 hx').1; omega))
  obtain ⟨A', c', hv', _, hA⟩ := hr
  injection hv' with e1 e2 e3
  refine ⟨some a, len, cap, xs, rfl, ⟨hl.symm, fun h0 => ?_, fun l hl => hg l hl⟩, fun _ => ⟨_, _, congrArg Prod.fst hd, by rw [List.length_map, List.length_map]; omega⟩⟩
  obtain ⟨b, o, ha, hb, hx⟩ := hA h0
  refine ⟨b, o, e1.trans ha, hb, fun i l hi j u hu => ?_⟩
  have hil := (List.getElem?_eq_some_iff.1 hi).1
  have hj : j < 5 := by have := (List.getElem?_eq_some_iff.1 hu).1; rw [Array.length_toList, (hg l (List.mem_of_getElem? hi)).1.five] at this; exact this
  have h := hx (5 * i + j) u (by
   rw [flat_get (fun j : Jt => j.cs.toList) 5 xs (fun x hx => by rw [Array.length_toList]; exact (hg x hx).1.five) i hil j hj]
   rw [(List.getElem?_eq_some_iff.1 hi).2]; exact hu)
  rw [show o + i * 5 + j = o + (5 * i + j) by omega]
  exact h
end Go.Proofs.YtgcgomdhdgjpdaaGreatDoor
/- The walk of sha.Hex: a digest as 64 figures. -/
namespace Go.Proofs.YtgcgomdhdgjpdaaGreatDoor
open Go Go.RowKit
end Go.Proofs.YtgcgomdhdgjpdaaGreatDoor
/- The last step of a law's row, once for all laws: a call that answers true and leaves every block that stood before as it was meets 'true; each argument reads as it read', whatever the arguments' types are. -/
namespace Go.Proofs.YtgcgomdhdgjpdaaGreatDoor
open Go Go.RowKit Go.WideShapes Go.ChangeShapes
section
variable {H : Type} {enc : TypeId × Value → H} {P : Program} {w w' : World}
theorem sameAt_of_below (hb : Below w.heap.size w w') {p : MemPlace} (hp : p.block < w.heap.size) : w.sameAt w' p := by
 cases p with
 | cell b off => exact hb.cell (p := ⟨b, off, none⟩) hp
 | map b => exact hb.block b hp
theorem all_stay (hb : Below w.heap.size w w') : ∀ {ts : List TypeId} {vs : List Value} {ds : List (DataW H)} {ps : List MemPlace},
  DataW.TrodAll enc P w 0 (fun _ => true) true ts vs ds ps → (∀ p ∈ ps, p.block < w.heap.size) → DataW.TrodAll enc P w' 0 (fun _ => true) true ts vs ds ps
 | [], [], [], _, h, _ => h
 | _ :: _, _ :: _, _ :: _, _, ⟨p, q, ⟨n, h1⟩, h2, e⟩, hs =>
  ⟨p, q, ⟨n, DataW.trod_carry n _ _ _ h1 (fun x hx => sameAt_of_below hb (hs x (by rw [e]; exact List.mem_append_left _ hx)))⟩,
   all_stay hb h2 (fun x hx => hs x (by rw [e]; exact List.mem_append_right _ hx)), e⟩
theorem law_post (hlo : laidOutB P = true) (hmr : mapsRowed P = true)
  (hsl : ((List.range P.types.size).all fun t => match P.underlying t with | some (.slice e) => decide (0 < P.cellsOf e) | _ => true) = true)
  {f : Func} {s : ChangeSpec} {tb : TypeId} (hv : s.vars = []) (hrt : f.resultTypes = #[tb]) (htb : P.underlying tb = some .bool) (hT : ∀ t ∈ f.params.toList, t < P.types.size)
  {apart fresh handsOn again : Bool} {args : Array Value} {ds gs : List (DataW H)} {before : List MemPlace}
  (hfn : (s.fn H (ds ++ gs)).results = [.lit (.bool true)] ∧ (s.fn H (ds ++ gs)).args = ds ∧ (s.fn H (ds ++ gs)).vars = [])
  (hW : DataW.Whole enc P f.params.toList s.vars apart w args.toList ds gs before) (hb : Below w.heap.size w w') :
  s.post enc P f apart fresh handsOn again w args (.bool true) w' := by
 have hlt := hW.lt
 have hW0 := hW
 obtain ⟨p, q, h1, h2, he, hz, hn⟩ := hW
 rw [hv] at h2
 obtain ⟨rfl, rfl⟩ : gs = [] ∧ q = [] := by
  cases gs with
  | nil => exact ⟨rfl, h2⟩
  | cons g r => exact h2.elim
 rw [List.append_nil] at he
 subst he
 have hst := all_stay hb h1 hlt
 have hsp := DataW.TrodAll.respare (spare' := fun b => decide (b < w.heap.size)) (kids_rows hlo hmr) (slices_full_of P hsl) hT hst (fun x hx => by simpa using hlt x hx)
 have hres : ∀ (b : Nat) (sp : Nat → Bool) (hd : Bool), DataW.TrodAll enc P w' b sp hd f.resultTypes.toList ((Value.bool true).resultList f.resultTypes.size) (s.fn H (ds ++ [])).results [] := by
  intro b sp hd
  rw [hrt, hfn.1]
  exact trodAll_mk1 (shut_bool htb true)
 refine ⟨ds, [], before, [], before, [], hW0, hres _ _ _, by rw [hfn.2.1]; exact hsp, by rw [hv, hfn.2.2]; rfl, hb.frame _, fun _ => ⟨ok_one hrt rfl (okWide_bool_mk htb true), .lit (.bool true) :: ds, [], before, ⟨before, [], ?_, by rw [hv]; rfl, by simp, ?_, hn⟩, fun x hx _ => hx⟩⟩
 ·rw [hrt]
  exact ⟨[], before, shut_bool htb true, hst, by simp⟩
 ·intro b off hp
  rw [hb.frozen (p := ⟨b, off, none⟩) (hlt _ hp)]
  exact hz b off hp
end
end Go.Proofs.YtgcgomdhdgjpdaaGreatDoor
/- What every law of layer 1 shares at its row: the two tables out of the listed variables, a world for the witness, the last step. -/
namespace Go.Proofs.YtgcgomdhdgjpdaaGreatDoor
open Go Go.RowKit Go.WideShapes Go.ChangeShapes Go.ChangeAt
theorem own : ownKnob Tryz.prog.godebug = none := by kernel_rfl
theorem gStart : Tryz.prog.globalNamed "cartage/sha.start" = some 22 := by kernel_rfl
theorem gRounds : Tryz.prog.globalNamed "cartage/sha.rounds" = some 23 := by kernel_rfl
theorem gStartType : (Tryz.prog.globals[22]?).map (·.type) = some 113 := by kernel_rfl
theorem gRoundsType : (Tryz.prog.globals[23]?).map (·.type) = some 136 := by kernel_rfl
theorem cells8 : Tryz.prog.cellsOf 113 = 8 := by kernel_rfl
theorem cells64 : Tryz.prog.cellsOf 136 = 64 := by kernel_rfl
theorem cells1 : Tryz.prog.cellsOf 112 = 1 := by kernel_rfl
theorem list_start : (Rows.laid_cartage_sha_start : DataW Unit) = Lib.tabData .u32 (Sha.H0.map Int.ofNat) := by kernel_rfl
theorem list_rounds : (Rows.laid_cartage_sha_rounds : DataW Unit) = Lib.tabData .u32 (Sha.K.map Int.ofNat) := by kernel_rfl
def putCells (cs : Array Value) : Obj → Obj
 | .cells _ t fr => .cells cs t fr
 | o => o
theorem laidOut : laidOutB Tryz.prog = true := by kernel_rfl
theorem mapsRowed_ : mapsRowed Tryz.prog = true := by kernel_rfl
theorem slicesFull : ((List.range Tryz.prog.types.size).all fun t => match Tryz.prog.underlying t with | some (.slice e) => decide (0 < Tryz.prog.cellsOf e) | _ => true) = true := by kernel_rfl
noncomputable def lowE : Nat := (World.holding Tryz.prog default ⟨#[], #[], []⟩).heap.size
theorem laidMet_drop {P : Program} {w : World} : ∀ (i : Nat) {l : List (String × DataW Unit)}, laidMet P l w → laidMet P (l.drop i) w
 | 0, _, h => h
 | _ + 1, [], h => h
 | i + 1, _ :: _, h => laidMet_drop i h.tail
theorem sent_of (W : World) (l : List (String × DataW Unit)) (h : laidMet Tryz.prog l W) (i : Nat) (n : String) (text : List UInt8) (g : Nat)
  (hi : l[i]? = some (n, .iface "*errors.errorString" (.ptr (.agg [.lit (.string text)])))) (hg : Tryz.prog.globalNamed n = some g) (ht : (Tryz.prog.globals[g]?).map (·.type) = some 35) : ∃ a, SentAt W g text a := by
 obtain ⟨r, hr⟩ := laidMet_at i h hi
 exact sent_of_laid hr hg ht
end Go.Proofs.YtgcgomdhdgjpdaaGreatDoor
