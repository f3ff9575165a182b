/- closure's walk: all that is reached, each once. -/
import Derived.Test.YtgcgomdhdgjpdaaGreatDoorMCl4
import Derived.StillTail
import Derived.StillTactics
import Derived.Test.YtgcgomdhdgjpdaaGreatDoorMOb30s
import Derived.Test.YtgcgomdhdgjpdaaGreatDoorMLawOpen3s
import Derived.Laws.IdiomCopy
import Derived.Deep.MidRow
namespace Go.Proofs.YtgcgomdhdgjpdaaGreatDoor
open Go Go.RowKit
theorem cl_make_reach (w : World) : (Instr.makeMap 159 none).run Tryz.prog w = .ok (.map (some w.heap.size)) (w.alloc (.map #[] 0)) := by kernel_rfl
def WalkPost (objs roots : List (List Nat)) (w : World) (e : Ending) (w' : World) : Prop :=
 ∃ ma ns, e = .returned (.map (some ma)) ∧ MapO w' ma ns.length (fun id => (Cl.at_ ns id).map (Cl.ndV objs)) ∧ (∀ p ∈ ns, ∃ B, w'.ownsRow B 41 32 p.val (Cl.lks objs p.id).length (cellsP (Cl.lks objs p.id))) ∧ (∀ p ∈ ns, Id32 p.id) ∧ (∀ x, x ∈ ns.map (·.id) ↔ Cl.Rch objs roots x) ∧ ns.length ≤ 1000 ∧ w.heap.size ≤ ma ∧ Below w.heap.size w w'
def WL (objs roots : List (List Nat)) (its : List Cl.T) (w0 wr : World) (ms nms ma bA bS bL B : Nat) (k : Nat) : Prop :=
 ∃ v ns, WK objs roots its w0 wr ms nms ma bA bS bL B v ns ∧ k ≤ ns.length ∧ (∀ x ∈ roots, x ∈ ns.map (·.id)) ∧ ∀ j p, j < k → ns[j]? = some p → ∀ x ∈ Cl.lks objs p.id, x ∈ ns.map (·.id)
theorem WL.done {objs roots : List (List Nat)} {its : List Cl.T} {w0 wr : World} {ms nms ma bA bS bL B : Nat} {v : Value} {ns : List Cl.Nd} (h : WK objs roots its w0 wr ms nms ma bA bS bL B v ns) (hr : ∀ x ∈ roots, x ∈ ns.map (·.id)) (hl : ∀ j p, j < ns.length → ns[j]? = some p → ∀ x ∈ Cl.lks objs p.id, x ∈ ns.map (·.id)) (hN : (Cl.pool objs roots).length ≤ 1000) (hm : w0.heap.size ≤ ma) :
  WalkPost objs roots w0 (.returned (.map (some ma))) wr := by
 refine ⟨ma, ns, rfl, h.mp, fun p hp => ⟨B, h.lk p hp⟩, h.ids, fun x => ⟨fun hx => ?_, fun hx => ?_⟩, h.few hN, hm, h.bel⟩
 ·obtain ⟨p, hp, rfl⟩ := List.mem_map.1 hx
  exact h.rch p hp
 ·induction hx with
  | root hx => exact hr _ hx
  | link _ hk ih =>
   obtain ⟨p, hp, he⟩ := List.mem_map.1 ih
   obtain ⟨j, hj⟩ := List.mem_iff_getElem?.1 hp
   rw [← he] at hk
   exact hl j p (List.getElem?_eq_some_iff.1 hj).1 hj _ hk
theorem cl_enter (args : Array Value) (w : World) : (callFunc 110 args).run Tryz.prog w = .ok (.enter 110 args) w := by kernel_rfl
theorem cl_byte {xs : List Nat} (h : Oc.bytes xs) : Sha.Byte xs := fun i => by
 by_cases hi : i < xs.length
 ·rw [List.getD_eq_getElem?_getD, List.getElem?_eq_getElem hi, Option.getD_some]
  exact h _ (List.getElem_mem hi)
 ·rw [List.getD_eq_getElem?_getD, List.getElem?_eq_none (by omega)]
  decide
theorem cl_take {ys : List Nat} (h : Oc.bytes ys) (hl : 32 ≤ ys.length) : Id32 (ys.take 32) := ⟨by rw [List.length_take]; omega, cl_byte (Oc.bytes_take h 32)⟩
theorem entsGo_fit : ∀ (f : Nat) (es : List Ent) (ys : List Nat) (r : List Ent), Oc.bytes ys → (∀ e ∈ es, Id32 e.id) → entsGo f es ys = some r → ∀ e ∈ r, Id32 e.id
 | f, es, [], r, _, he, h => by
  have h1 : some es = some r := by rw [← h]; cases f <;> rfl
  injection h1 with h1
  rw [← h1]; exact he
 | 0, es, _ :: _, r, _, _, h => by cases h
 | f + 1, es, n :: ys, r, hb, he, h => by
  have hy : Oc.bytes ys := fun x hx => hb x (List.mem_cons_of_mem _ hx)
  rw [entsGo] at h
  split at h
  ·cases h
  ·rename_i hl
   refine entsGo_fit f _ _ r (Oc.bytes_drop hy _) (fun e hm => ?_) h
   rcases List.mem_append.1 hm with hm | hm
   ·exact he e hm
   ·rw [List.mem_singleton.1 hm]
    exact cl_take (Oc.bytes_drop hy n) (by rw [List.length_drop]; omega)
theorem parsGo_fit : ∀ (n : Nat) (ps : List (List Nat)) (ys : List Nat) (q : List (List Nat) × List Nat), Oc.bytes ys → (∀ p ∈ ps, Id32 p) → parsGo n ps ys = some q → (∀ p ∈ q.1, Id32 p) ∧ Oc.bytes q.2
 | 0, ps, ys, q, hb, hp, h => by
  rw [parsGo] at h
  injection h with h
  rw [← h]; exact ⟨hp, hb⟩
 | n + 1, ps, ys, q, hb, hp, h => by
  rw [parsGo] at h
  split at h
  ·cases h
  ·rename_i hl
   refine parsGo_fit n _ _ q (Oc.bytes_drop hb 32) (fun p hm => ?_) h
   rcases List.mem_append.1 hm with hm | hm
   ·exact hp p hm
   ·rw [List.mem_singleton.1 hm]
    exact cl_take hb (by omega)
theorem parse_fit {t : List Nat} {o : Ob} (hb : Oc.bytes t) (h : Ob.parse t = .ok o) : o.Fit := by
 obtain _ | ⟨c, ys⟩ := t
 ·cases h
 have hy : Oc.bytes ys := fun x hx => hb x (List.mem_cons_of_mem _ hx)
 have hz : Id32 zid := zid_id
 rw [Ob.parse] at h
 split at h
 ·obtain ⟨e, _⟩ := fin_ok h
  subst e
  exact ⟨cl_byte hy, fun e he => (by cases he), hz, fun p hp => (by cases hp)⟩
 ·split at h
  ·split at h
   ·cases h
   ·rename_i es he
    obtain ⟨e, _⟩ := fin_ok h
    subst e
    exact ⟨fun i => (by simp), entsGo_fit _ _ _ _ hy (fun e he => (by cases he)) he, hz, fun p hp => (by cases hp)⟩
  ·split at h
   ·split at h
    ·cases h
    ·rename_i hl
     split at h
     ·cases h
     ·rename_i q hq
      obtain ⟨e, _⟩ := fin_ok h
      subst e
      obtain ⟨h1, h2⟩ := parsGo_fit _ _ _ _ (Oc.bytes_drop hy 33) (fun p hp => (by cases hp)) hq
      exact ⟨cl_byte h2, fun e he => (by cases he), cl_take hy (by omega), h1⟩
   ·split at h
    ·split at h
     ·cases h
     ·rename_i hl
      obtain ⟨e, _⟩ := fin_ok h
      subst e
      exact ⟨cl_byte (Oc.bytes_drop hy 32), fun e he => (by cases he), cl_take hy (by omega), fun p hp => (by cases hp)⟩
    ·cases h
theorem fit_links {o : Ob} (hf : o.Fit) : ∀ p ∈ o.links, Id32 p := fun p hp => by
 unfold Ob.links at hp
 simp only [List.mem_append] at hp
 rcases hp with (hp | hp) | hp
 ·obtain ⟨e, he, rfl⟩ := List.mem_map.1 hp
  exact hf.ents e he
 ·split at hp
  ·rw [List.mem_singleton.1 hp]; exact hf.target
  ·cases hp
 ·exact hf.pars p hp
theorem pool_few {objs roots : List (List Nat)} (hb : ∀ t ∈ objs, Sha.Byte t) : (Cl.pool objs roots).length ≤ roots.length + 9 * objs.length := by
 unfold Cl.pool
 rw [List.length_append]
 have h := Cl.flat_le (f := fun t => match Cl.ob t with | none => [] | some o => o.links) (k := 9) (l := objs) (fun t ht => by
  cases ho : Cl.ob t with
  | none => simp
  | some o =>
   obtain ⟨hz, hp⟩ := Cl.ob_some ho
   have h1 := links_small (parse_fit (Oc.bytes_of (hb t ht)) hp)
   rw [(parse_laid (Oc.bytes_of (hb t ht)) hp).1] at h1
   show o.links.length ≤ 9
   omega)
 exact Nat.add_le_add_left h _
theorem lks_few {objs : List (List Nat)} (hb : ∀ t ∈ objs, Sha.Byte t) (id : List Nat) : (Cl.lks objs id).length ≤ 9 := by
 unfold Cl.lks Cl.obAt
 cases hs : Cl.stk objs id with
 | none => simp
 | some t =>
  cases ho : Cl.ob t with
  | none => simp [ho]
  | some o =>
   obtain ⟨hz, hp⟩ := Cl.ob_some ho
   have ht := hb t (Cl.stk_mem hs).1
   have h1 := links_small (parse_fit (Oc.bytes_of ht) hp)
   rw [(parse_laid (Oc.bytes_of ht) hp).1] at h1
   simp [ho]
   omega
theorem cl_still_mid {P : Program} {op : Oper} {a : Act} {w : World} {K : Act → Prop} (ty : TypeId) (x : Operand) (ho : op.op = .load ty x)
  (b o : Nat) (hx : a.eval x = .pointer (some ⟨b, o, none⟩)) (cs : List Value) (d : TypeDesc) (hc : w.rangeAt b o cs)
  (hu : P.underlying ty = some d) (hd : d.isRow = true) (hi : (P.info? ty).map (·.size) = some cs.length)
  (h : K (a.put op.dst (.agg cs.toArray))) : op.still P a w K := by
 unfold Oper.still execOp
 simp only [ho, hx, Sem.run_bind, run_loadAt_mid w b o ty cs d hc hu hd hi, Result.andThen_ok]
 exact ⟨rfl, h⟩
theorem cl_field2 (b : Bool) (k : Int) (v : Value) (hv : ∃ A n c, v = .slice A n c) (w : World) : (Instr.field 191 (.agg #[.bool b, .int .i64 k, v]) 2).run Tryz.prog w = .ok v w := by
 obtain ⟨A, n, c, rfl⟩ := hv
 kernel_rfl
theorem links_id32 {objs : List (List Nat)} (hb : ∀ t ∈ objs, Sha.Byte t) {id x : List Nat} (h : x ∈ Cl.lks objs id) : Id32 x := by
 obtain ⟨t, ht, o, ho, hx⟩ := Cl.lks_mem h
 obtain ⟨hz, hp⟩ := Cl.ob_some ho
 exact fit_links (parse_fit (Oc.bytes_of (hb t ht)) hp) x hx
set_option maxRecDepth 100000 in
set_option maxHeartbeats 8000000 in
theorem walk_any (a : Nat → Addr) (A : Option Addr) (c : Nat) (roots : List (List Nat)) (its : List Cl.T) (ms nms : Nat) (w0 w : World) (h0 : Below w0.heap.size w0 w) (hm : MapO w ms nms (fun id => (Cl.fst its id).map (·.val))) (hrd : ∀ p ∈ its, Rd w0 p.val p.text ∧ Sha.Byte p.text) (hS : CSents w0 a) (hN : (Cl.pool (its.map (·.text)) roots).length ≤ 1000) (hri : ∀ x ∈ roots, Id32 x) (hn : roots.length ≤ 1000) (hR : RdK w (.slice A roots.length c) roots.length (cellsP roots)) :
  Calls Tryz.prog 82 #[.map (some ms), .slice A roots.length c] w (WalkPost (its.map (·.text)) roots w) := by
 obtain ⟨objs, hob⟩ : ∃ objs, objs = its.map (·.text) := ⟨_, rfl⟩
 have HBO : Hid (∀ t ∈ objs, Sha.Byte t) := Lib.hid (fun t ht => by rw [hob] at ht; obtain ⟨p, hp, rfl⟩ := List.mem_map.1 ht; exact (hrd p hp).2)
 rw [← hob] at hN ⊢
 obtain ⟨n, hnn⟩ : ∃ n, n = roots.length := ⟨_, rfl⟩
 rw [← hnn] at hn hR ⊢
 have s1 : (w.alloc (.cells #[.map (some ms)] 160)).heap.size = w.heap.size + 1 := by simp
 have s2 : ((w.alloc (.cells #[.map (some ms)] 160)).alloc (.map #[] 0)).heap.size = w.heap.size + 2 := by simp
 have s3 : (((w.alloc (.cells #[.map (some ms)] 160)).alloc (.map #[] 0)).alloc (.cells #[.map none] 159)).heap.size = w.heap.size + 3 := by simp
 obtain ⟨w3, hw3⟩ : ∃ w3, w3 = (((w.alloc (.cells #[.map (some ms)] 160)).alloc (.map #[] 0)).alloc (.cells #[.map none] 159)).setCell ⟨w.heap.size + 2, 0, none⟩ (.map (some (w.heap.size + 1))) := ⟨_, rfl⟩
 have g3 : (((w.alloc (.cells #[.map (some ms)] 160)).alloc (.map #[] 0)).alloc (.cells #[.map none] 159)).grownBy w3 (some (w.heap.size + 2)) := hw3 ▸ grown_cell _ _ _ _
 have z3 : w3.heap.size = w.heap.size + 3 := by rw [hw3]; simp [World.setCell]
 have bA0 : Below w.heap.size w ((w.alloc (.cells #[.map (some ms)] 160)).alloc (.map #[] 0)) := ((Below.refl _ _).alloc (Nat.le_refl _) _).alloc (by rw [s1]; omega) _
 have bA1 : Below w.heap.size w (((w.alloc (.cells #[.map (some ms)] 160)).alloc (.map #[] 0)).alloc (.cells #[.map none] 159)) := bA0.alloc (by rw [s2]; omega) _
 have b3 : Below w.heap.size w w3 := cl_grow bA1 g3 (fun x hx => by injection hx with hx; omega)
 have hbS : Blk w3 w.heap.size 160 #[.map (some ms)] := (((Blk.new w 160 #[.map (some ms)]).alloc _).alloc _).grown g3 (fun e => by injection e with e; omega)
 have hbA : Blk w3 (w.heap.size + 2) 159 #[.map (some (w.heap.size + 1))] := by
  have h := (Blk.new ((w.alloc (.cells #[.map (some ms)] 160)).alloc (.map #[] 0)) 159 #[.map none]).set_ 0 (.map (some (w.heap.size + 1)))
  rw [s2] at h
  rw [hw3]; exact h
 have hma : MapO w3 (w.heap.size + 1) 0 (fun id => (Cl.at_ [] id).map (Cl.ndV objs)) := by
  have h := MapO.made (w.alloc (.cells #[.map (some ms)] 160))
  rw [s1] at h
  exact ((h.below ((Below.refl _ _).alloc (Nat.le_refl _) _)).kept g3 (fun e => by injection e with e; omega)).ext fun x _ => rfl
 have hmlt := hm.lt
 have b4 : Below w3.heap.size w3 (w3.alloc (.cells #[.slice none 0 0] 106)) := (Below.refl _ _).alloc (Nat.le_refl _) _
 have HK : Hid (WK objs roots its w (w3.alloc (.cells #[.slice none 0 0] 106)) ms nms (w.heap.size + 1) (w.heap.size + 2) w.heap.size (w.heap.size + 3) (w.heap.size + 4) (.slice none 0 0) []) := Lib.hid (by
  have hbL := Blk.new w3 106 #[.slice none 0 0]
  rw [z3] at hbL
  refine ⟨((hm.below b3).below b4), hma.below b4, hbA.below b4 hbA.lt, hbS.below b4 hbS.lt, hbL, World.ownsRow_nil _ _ _ _, fun p hp => (by cases hp), fun x hx => (by simp [Value.ownBlock] at hx), ?_, ?_, List.nodup_nil, fun p hp => (by cases hp), fun p hp => (by cases hp), below_next b3 b4⟩
  ·have : (w3.alloc (.cells #[.slice none 0 0] 106)).heap.size = w.heap.size + 4 := by simp [z3]
   omega
  ·omega)
 have HX : Hid (IdS (w3.alloc (.cells #[.slice none 0 0] 106)) A roots (w.heap.size + 1) (w.heap.size + 3) (.slice none 0 0)) := Lib.hid (fun h0 => by
  obtain ⟨A', c', hv, _, hA⟩ := hR
  injection hv with e1 e2 e3
  obtain ⟨b, o, ha, hl, hx⟩ := hA (by omega)
  refine ⟨b, o, by rw [e1, ha], Nat.lt_of_lt_of_le hl (below_next b3 b4).size, by omega, by omega, by simp [Value.ownBlock], fun j u hj => ?_⟩
  exact ((below_next b3 b4).cell (p := ⟨b, o + j, none⟩) hl).trans (hx j u hj))
 have CA := cl_add_any (ns := []) a A n c roots HK.out hob (fun p hp => ⟨(hrd p hp).1.below h0 (Nat.le_refl _), (hrd p hp).2⟩) (hS.at_ h0) hN hnn hri (fun x hx => Cl.Rch.root hx) HX.out hn
 unfold AddPost at CA
 have CB := fun (wr : World) (v : Value) (ns : List Cl.Nd) (A : Option Addr) (n c : Nat) (xs : List (List Nat)) (hk : WK objs roots its w wr ms nms (w.heap.size + 1) (w.heap.size + 2) w.heap.size (w.heap.size + 3) (w.heap.size + 4) v ns) (hn : n = xs.length) (h1 : ∀ x ∈ xs, Id32 x) (h2 : ∀ x ∈ xs, Cl.Rch objs roots x) (h3 : IdS wr A xs (w.heap.size + 1) (w.heap.size + 3) v) (h4 : n ≤ 1000) => cl_add_any a A n c xs hk hob (fun p hp => ⟨(hrd p hp).1.below h0 (Nat.le_refl _), (hrd p hp).2⟩) (hS.at_ h0) hN hn h1 h2 h3 h4
 have HCB := Lib.hid CB
 have HPL := Lib.hid hN
 have HLI : Hid (∀ id x, x ∈ Cl.lks objs id → Id32 x) := Lib.hid (fun id x hx => links_id32 HBO.out hx)
 have mk := cl_make_reach (w.alloc (.cells #[.map (some ms)] 160))
 have eg := cl_enter
 have e3 := hw3.symm
 have p3 : (((w.alloc (.cells #[.map (some ms)] 160)).alloc (.map #[] 0)).alloc (.cells #[.map none] 159)).cell? ⟨w.heap.size + 2, 0, none⟩ = some (.map none) := by
  have h := Blk.new ((w.alloc (.cells #[.map (some ms)] 160)).alloc (.map #[] 0)) 159 #[.map none]
  rw [s2] at h
  exact h.cell 0
 have f3 : (((w.alloc (.cells #[.map (some ms)] 160)).alloc (.map #[] 0)).alloc (.cells #[.map none] 159)).frozen? ⟨w.heap.size + 2, 0, none⟩ = false := by
  have h := Blk.new ((w.alloc (.cells #[.map (some ms)] 160)).alloc (.map #[] 0)) 159 #[.map none]
  rw [s2] at h
  exact h.frozen 0
 have HLF : Hid (∀ id, (Cl.lks objs id).length ≤ 9) := Lib.hid (fun id => lks_few HBO.out id)
 clear h0 hm hrd hS hN hri hn hR hob s1 s2 s3 hw3 g3 bA0 bA1 b3 hbS hbA hma hmlt b4 CB HBO hnn
 go_enter Tryz.func82, Tryz.ntmps82
 go_wp2_with (go_at_call 110; refine pause ?_)
 unfold Paused
 refine CA.mono ?_
 rintro e w5 ⟨v5, ns5, rfl, hk5, hr5⟩
 rw [List.nil_append] at hk5 hr5
 obtain ⟨bA, hbA⟩ : ∃ x, x = w.heap.size + 2 := ⟨_, rfl⟩
 obtain ⟨bL, hbL⟩ : ∃ x, x = w.heap.size + 3 := ⟨_, rfl⟩
 obtain ⟨B, hB⟩ : ∃ x, x = w.heap.size + 4 := ⟨_, rfl⟩
 obtain ⟨ma, hma⟩ : ∃ x, x = w.heap.size + 1 := ⟨_, rfl⟩
 have eA : w.heap.size + 1 + 1 = bA := by rw [hbA]
 rw [← hbA, ← hbL, ← hB, ← hma] at hk5 HCB
 have HWL : Hid (WL objs roots its w w5 ms nms ma bA w.heap.size bL B 0) := Lib.hid ⟨v5, ns5, hk5, Nat.zero_le _, hr5, fun j p hj => absurd hj (Nat.not_lt_zero _)⟩
 have HMA : Hid (w.heap.size ≤ ma) := Lib.hid (by omega)
 rw [eA, ← hbL]
 clear hk5 hr5 CA HK HX mk p3 f3 e3 hbA hbL hB hma eA
 go_wp2
 go_loopw [8] (fun i wr => ∃ k : Nat, k ≤ 1000 ∧ i = .int .i64 k ∧ Hid (WL objs roots its w wr ms nms ma bA w.heap.size bL B k)) (fun i _ => 1001 - (intOf i).toNat)
 case atStart => exact ⟨0, Nat.zero_le _, rfl, HWL⟩
 case round =>
  obtain ⟨k, hk, rfl, HW⟩ := hrel
  obtain ⟨v, ns, hwk, hkn, hro, hli⟩ := HW.out
  have hfew := hwk.few HPL.out
  obtain ⟨Av, cv, hvv⟩ := cl_own_slice hwk.own
  subst hvv
  have pL : wr.cell? ⟨bL, 0, none⟩ = some (.slice Av ns.length cv) := hwk.bl.cell 0
  have HWK := Lib.hid hwk
  have HRO := Lib.hid hro
  have HLIK := Lib.hid hli
  obtain ⟨nl, hnl⟩ : ∃ n, n = ns.length := ⟨_, rfl⟩
  rw [← hnl] at pL HWK hkn hfew
  have HNL := Lib.hid hnl
  have pA : wr.cell? ⟨bA, 0, none⟩ = some (.map (some ma)) := hwk.ba.cell 0
  clear hro hli hnl hwk HW
  by_cases hlt : k < nl
  ·have hkl : k < ns.length := by rw [← HNL.out]; exact hlt
   obtain ⟨p, hp⟩ : ∃ p, ns[k]? = some p := ⟨ns[k], List.getElem?_eq_getElem hkl⟩
   have hpm := List.mem_of_getElem? hp
   have HID := Lib.hid (HWK.out.ids p hpm)
   have HROW := HWK.out.own
   have hrk : RdK wr (.slice Av nl cv) ns.length (cellsP (ns.map (·.id))) := rdk_own HROW
   obtain ⟨A', c', hv', _, hA'⟩ := hrk
   injection hv' with e1 e2 e3
   obtain ⟨b, o, hAb, hbl, hx⟩ := hA' (by omega)
   rw [← e1] at hAb
   subst hAb
   have HRG : Hid (wr.drew.rangeAt b (o + k * 32) (cellsB p.id)) := Lib.hid (fun j u hu => by
    rw [Nat.add_assoc]
    exact hx (k * 32 + j) u (cellsP_at (xs := ns.map (·.id)) (fun y hy => by obtain ⟨q, hq, rfl⟩ := List.mem_map.1 hy; exact HWK.out.ids q hq) (by rw [List.length_map]; exact hkl) (by rw [List.getD_eq_getElem?_getD, List.getElem?_map, hp]; exact hu)))
   have HWD := Lib.hid (HWK.out.below (w' := wr.drew) (below_drewN (Below.refl _ wr) 1))
   obtain ⟨Ap, cp, hpv⟩ := cl_own_slice (HWK.out.lk p hpm)
   have hat : ∃ q, Cl.at_ ns p.id = some q ∧ q.id = p.id ∧ q ∈ ns := by
    obtain ⟨q, hq⟩ := Option.isSome_iff_exists.1 (Cl.at_iff.2 (List.mem_map.2 ⟨p, hpm, rfl⟩))
    exact ⟨q, hq, ((Cl.at_mem hq).2).symm, (Cl.at_mem hq).1⟩
   obtain ⟨q, hq, hqi, hqm⟩ := hat
   obtain ⟨Aq, cq, hqv⟩ := cl_own_slice (HWK.out.lk q hqm)
   rw [hqi] at hqv
   have q6 := HWD.out.mp.look Tryz.underlying159 (nd_zero wr.drew) HID.out
   rw [hq] at q6
   simp only [Option.map_some, Option.getD_some] at q6
   unfold Cl.ndV ndC at q6
   rw [hqv, hqi] at q6
   have q7 : ∀ w', (Instr.field 191 (.agg #[.bool (Cl.the objs p.id), .int .i64 (Cl.knd objs p.id), .slice Aq (Cl.lks objs p.id).length cq]) 2).run Tryz.prog w' = .ok (.slice Aq (Cl.lks objs p.id).length cq) w' := fun w' => cl_field2 _ _ _ ⟨_, _, _, rfl⟩ w'
   have q6' : (Instr.lookup 159 (.map (some ma)) (.agg (cellsB p.id).toArray) false).run Tryz.prog wr.drew = .ok (.agg #[.bool (Cl.the objs p.id), .int .i64 (Cl.knd objs p.id), .slice Aq (Cl.lks objs p.id).length cq]) wr.drew := q6
   have CC := HCB.out wr.drew (.slice (some ⟨b, o, none⟩) nl cv) ns Aq (Cl.lks objs p.id).length cq (Cl.lks objs p.id) HWD.out rfl (fun x hx => HLI.out p.id x hx) (fun x hx => Cl.Rch.link (HWK.out.rch p hpm) hx) (fun h0 => by
    have hown := HWD.out.lk q hqm
    rw [hqv, hqi] at hown
    obtain ⟨A2, c2, hv2, _, hA2⟩ := rdk_own hown
    injection hv2 with f1 f2 f3
    obtain ⟨b2, o2, h1, h2, h3⟩ := hA2 h0
    rw [← f1] at h1
    have hob : (Value.slice Aq (Cl.lks objs p.id).length cq).ownBlock = some b2 := by
     rcases hown.2 with ⟨hv3, hn3⟩ | ⟨g, cap, cur, hv3, _⟩
     ·omega
     ·rw [hv3]
      injection hv3 with k1 k2 k3
      rw [h1] at k1
      injection k1 with k1
      injection k1 with k1 _
      rw [k1]
      rfl
    have hin := own_in hown hob
    have hord := HWD.out.ord
    exact ⟨b2, o2, h1, h2, by omega, by omega, fun e => HWD.out.off b2 e q hqm (by rw [hqv]; exact hob), h3⟩) (by have := HLF.out p.id; omega)
   unfold AddPost at CC
   have HPI := Lib.hid hp
   have i1 : ((k : Nat) : Int) < nl := by omega
   have i2 : (0 : Int) ≤ ((k : Nat) : Int) := by omega
   have i3 : ((k : Nat) : Int) < 1000 := by omega
   have HLT : Hid (k < nl ∧ nl ≤ 1000) := Lib.hid ⟨hlt, hfew⟩
   have pLd : wr.drew.cell? ⟨bL, 0, none⟩ = some (.slice (some ⟨b, o, none⟩) nl cv) := pL
   have pAd : wr.drew.cell? ⟨bA, 0, none⟩ = some (.map (some ma)) := pA
   generalize (Cl.lks objs p.id).length = np at q6' q7 CC
   generalize Cl.the objs p.id = tb at q6' q7
   generalize Cl.knd objs p.id = kb at q6' q7
   clear hkl hp HROW hx hbl hA' e1 e2 e3 hpv hq hqi hqm hqv q6 hlt hk hkn hfew hpm
   go_wp2_with fail
   refine wp_region_still_tail 8 (by kernel_rfl) (by kernel_rfl) ?_
   change wpStill _ _ wr.drew _ _ _
   dsimp only [List.take, List.drop]
   iterate 5 still_step
   refine wpStill_step (fun K hK => ?_)
   rw [if_pos (by rfl)]
   refine cl_still_mid 41 (.tmp 24) rfl b (o + k * 32) rfl (cellsB p.id) _ HRG.out Tryz.underlying41 (by rfl) (by rw [cellsP1_len HID.out]; exact cl_oid_load) ?_
   refine hK _ ?_
   clear hK K
   iterate 2 still_step
   refine wpStill_nil ?_
   try simp only [Act.put, List.getElem_toArray, List.getElem_cons_zero, List.getElem_cons_succ, List.setIfInBounds_toArray, List.set_cons_zero, List.set_cons_succ]
   change wpList _ _ _ _ _ wr.drew
   go_wp2_with (go_at_call 110; refine pause ?_)
   unfold Paused
   refine CC.mono ?_
   rintro e w6 ⟨v6, ns6, rfl, hk6, hx6⟩
   have HN6 : Hid (WL objs roots its w w6 ms nms ma bA w.heap.size bL B (k + 1)) := Lib.hid ⟨v6, ns ++ ns6, hk6, by rw [List.length_append, ← HNL.out]; have := HLT.out; omega, fun x hx => by rw [List.map_append]; exact List.mem_append_left _ (HRO.out x hx), fun j p' hj hp' x hx => by
    by_cases e : j = k
    ·subst e
     rw [List.getElem?_append_left (by rw [← HNL.out]; exact HLT.out.1), HPI.out] at hp'
     injection hp' with hp'
     rw [← hp'] at hx
     exact hx6 x hx
    ·rw [List.getElem?_append_left (by rw [← HNL.out]; have := HLT.out; omega)] at hp'
     rw [List.map_append]
     exact List.mem_append_left _ (HLIK.out j p' (by omega) hp' x hx)⟩
   clear hk6 hx6 CC q6' q7 pL pA pLd pAd
   go_wp2
   go_roundw
   case rel => exact ⟨k + 1, by have := HLT.out; omega, by go_num, HN6⟩
   case measure => have := HLT.out; simp [intOf]; omega
  ·obtain rfl : k = nl := by omega
   have ik : ¬ ((k : Nat) : Int) < k := by omega
   have HE : Hid (WalkPost objs roots w (.returned (.map (some ma))) wr) := Lib.hid (WL.done HWK.out HRO.out (fun j p hj hp x hx => HLIK.out j p (by rw [HNL.out]; exact hj) hp x hx) HPL.out HMA.out)
   clear HLIK HRO hfew hk hkn hlt
   go_wp2
   go_ret
   exact HE.out
def cellsN (x : List Nat) : List Value := x.map fun (n : Nat) => Value.int .u8 (n : Int)
theorem cellsN_len (x : List Nat) : (cellsN x).length = x.length := by simp [cellsN]
theorem cellsN_arr (x : List Nat) : (cellsN x).toArray = u8s x := rfl
theorem cellsN_one (x : List Nat) : ∀ v ∈ cellsN x, v.oneCell' = true := by
 intro v hv
 obtain ⟨n, _, rfl⟩ := List.mem_map.1 hv
 rfl
structure OidRow (w : World) (b : Nat) (l : List (List Nat)) : Prop where
 at_ : ∀ i, i < l.length → w.rangeAt b (32 * i) (cellsN (l.getD i []))
 room : w.there b 0 (32 * l.length)
theorem OidRow.drewN {w : World} {b : Nat} {l : List (List Nat)} (h : OidRow w b l) (n : Nat) : OidRow (w.drewN n) b l := ⟨h.at_, h.room⟩
theorem OidRow.lt {w : World} {b : Nat} {l : List (List Nat)} (h : OidRow w b l) (h0 : 0 < l.length) : b < w.heap.size := by
 obtain ⟨u, hu⟩ := Option.isSome_iff_exists.1 (h.room 0 (by omega)).1
 exact block_lt_of_cell hu
theorem OidRow.there {w : World} {b : Nat} {l : List (List Nat)} (h : OidRow w b l) {k : Nat} (hk : k < l.length) : w.there b (32 * k) 32 := fun j hj => by
 have := h.room (32 * k + j) (by omega)
 rwa [Nat.zero_add] at this
theorem OidRow.set {w : World} {b : Nat} {l : List (List Nat)} (h : OidRow w b l) (hl : Sha.Oids l) {k : Nat} (hk : k < l.length) {x : List Nat} (hx : x.length = 32) :
  OidRow (w.setCells b (32 * k) (cellsN x)) b (l.set k x) := by
 refine ⟨fun i hi => ?_, ?_⟩
 ·rw [List.length_set] at hi
  by_cases e : i = k
  ·subst e
   have e1 : (l.set i x).getD i [] = x := by simp [List.getD, hi]
   rw [e1]
   exact World.rangeAt_setCells_same w b (32 * i) _ (by rw [cellsN_len, hx]; exact h.there hi)
  ·have e1 : (l.set k x).getD i [] = l.getD i [] := by simp [List.getD, Ne.symm e]
   rw [e1]
   refine World.rangeAt_setCells_apart (h.at_ i hi) b (32 * k) _ (Or.inr ?_)
   rw [cellsN_len, cellsN_len, hx, (hl.getD hi).1]
   omega
 ·rw [List.length_set]
  exact World.there_setCells h.room b _ _
theorem below_setCells {B b : Nat} {w0 : World} (hB : B ≤ b) : ∀ (vs : List Value) (o : Nat) (w : World), Below B w0 w → Below B w0 (w.setCells b o vs)
 | [], _, _, h => h
 | v :: r, o, _w, h => below_setCells hB r (o + 1) _ (h.setCell (p := ⟨b, o, none⟩) hB v)
theorem run_copy_k {P : Program} (w : World) (dT sT ty elem : TypeId) (k n : Nat) (b o dCap : Nat) (a : Addr) (sCap : Nat) (cs : List Value)
  (hu : P.underlying dT = some (.slice elem)) (hs : (P.info? elem).map (·.size) = some k) (hn : cs.length = n * k)
  (hsrc : ∀ j v, cs[j]? = some v → w.cell? (a.add j) = some v) (ht : w.there b o cs.length) (h1 : ∀ v ∈ cs, v.oneCell' = true) :
  (Builtin.copy_ #[dT, sT] ty #[.slice (some ⟨b, o, none⟩) n dCap, .slice (some a) n sCap]).run P w = .ok (goInt n) (w.setCells b o cs) := by
 have hl := run_loadCells_list (P := P) w a cs hsrc
 have hst := run_storeCells_cells (P := P) b o cs 0 w (by simpa using fun j hj => (ht j hj).1) (by simpa using fun j hj => (ht j hj).2) h1
 cases hq : P.info? elem with
 | none => simp [hq] at hs
 | some i =>
  have hi : i.size = k := by simpa [hq] using hs
  rw [hn] at hl
  simp only [Nat.add_zero] at hst
  have hm : n.min n = n := Nat.min_self n
  simp [Builtin.copy_, run_underlying hu, Builtin.lenOf, Builtin.firstCells, sizeOf, typeInfo, hq, hi, hm, hl, hst]
theorem run_clear_k {P : Program} (w : World) (t e ty : TypeId) (z : Value) (n : Nat) (b o c : Nat) (ht : P.underlying t = some (.slice e)) (hv : ∀ w, (zeroValue e).run P w = .ok z w) (h1 : ∀ v ∈ (Builtin.zeroCells z.cells n).toList, v.oneCell' = true)
  (hr : w.there b o (Builtin.zeroCells z.cells n).toList.length) (hn : 0 < n) :
  (Builtin.clear_ #[t] ty #[.slice (some ⟨b, o, none⟩) n c]).run P w = .ok (.tuple #[]) (w.setCells b o (Builtin.zeroCells z.cells n).toList) := by
 have hst := run_storeCells_cells (P := P) b o (Builtin.zeroCells z.cells n).toList 0 w (by simpa using fun j hj => (hr j (by simpa using hj)).1) (by simpa using fun j hj => (hr j (by simpa using hj)).2) h1
 simp only [Nat.add_zero] at hst
 obtain ⟨m, rfl⟩ : ∃ m, n = m + 1 := ⟨n - 1, by omega⟩
 simp [Builtin.clear_, run_underlying ht, hv, hst]
theorem run_sliceLo_k {P : Program} {t e : TypeId} {k : Nat} (ht : P.underlying t = some (.slice e)) (hi : (P.info? e).map (·.size) = some k) (b o len cap l : Nat) (h1 : l ≤ len) (h2 : l < cap)
  {lo : Int} (el : lo = l) (w : World) :
  (Instr.slice t (.slice (some ⟨b, o, none⟩) len cap) (some (.int .i64 lo)) none none).run P w = .ok (.slice (some ⟨b, o + k * l, none⟩) (len - l) (cap - l)) w := by
 subst el
 cases hq : P.info? e with
 | none => simp [hq] at hi
 | some i =>
  have hs : i.size = k := by simpa [hq] using hi
  have hn : ((l : Nat) : Int) ≤ len := by omega
  have hc : ¬ cap = l := by omega
  simp [Instr.slice, run_underlying ht, Instr.sliceBounds, run_sliceBound, sizeOf, typeInfo, hq, hs, hn, hc, Addr.add_mid, Nat.mul_comm]
theorem run_sliceHi_k {P : Program} {t e : TypeId} {k : Nat} (ht : P.underlying t = some (.slice e)) (hi : (P.info? e).map (·.size) = some k) (b o len cap h : Nat) (h1 : h ≤ cap) (h2 : 0 < cap)
  {hh : Int} (el : hh = h) (w : World) :
  (Instr.slice t (.slice (some ⟨b, o, none⟩) len cap) none (some (.int .i64 hh)) none).run P w = .ok (.slice (some ⟨b, o, none⟩) h cap) w := by
 subst el
 cases hq : P.info? e with
 | none => simp [hq] at hi
 | some i =>
  have hs : i.size = k := by simpa [hq] using hi
  have hn : ((h : Nat) : Int) ≤ cap := by omega
  have hc : ¬ cap = 0 := by omega
  simp [Instr.slice, run_underlying ht, Instr.sliceBounds, run_sliceBound, sizeOf, typeInfo, hq, hn, Addr.add]
theorem run_index_k {P : Program} {t e : TypeId} {k : Nat} (ht : P.underlying t = some (.slice e)) (hi : (P.info? e).map (·.size) = some k) (b o n c i : Nat) (h : i < n) {ii : Int} (ei : ii = i) (w : World) :
  (Instr.indexAt t (.slice (some ⟨b, o, none⟩) n c) (.int .i64 ii)).run P w = .ok (.pointer (some ⟨b, o + k * i, none⟩)) w := by
 subst ei
 cases hq : P.info? e with
 | none => simp [hq] at hi
 | some d =>
  have hs : d.size = k := by simpa [hq] using hi
  have ha : (⟨b, o, none⟩ : Addr).add (i * k) = ⟨b, o + k * i, none⟩ := by
   rw [Addr.add_mid, Nat.mul_comm]
  simp [Instr.indexAt, asIntOf, run_underlying ht, h, sizeOf, typeInfo, hq, hs, ha]
end Go.Proofs.YtgcgomdhdgjpdaaGreatDoor
