/- What is reached with more roots, from what is reached, and without one of the objects. -/
import Derived.Test.YtlodalppnglclaaDoorMSortMaths
import Derived.Test.YtlodalppnglclaaDoorMCl4
import Derived.StillTail
import Derived.StillTactics
namespace Go.Proofs.YtlodalppnglclaaDoor
open Go Go.RowKit
namespace Cl
theorem rch_nil {l : List (List Nat)} {x : List Nat} (h : Rch l [] x) : False := by
  induction h with
  | root h => cases h
  | link _ _ ih => exact ih
end Cl
end Go.Proofs.YtlodalppnglclaaDoor
/- closure's walk: all that is reached, each once. -/
namespace Go.Proofs.YtlodalppnglclaaDoor
open Go Go.RowKit
theorem cl_make_reach (w : World) : (Instr.makeMap 61 none).run Tryd.prog w = .ok (.map (some w.heap.size)) (w.alloc (.map #[] 0)) := by kernel_rfl
/-- how the walk ends -/
def WalkPost (objs roots : List (List Nat)) (w : World) (e : Ending) (w' : World) : Prop :=
  ∃ ma ns, e = .returned (.map (some ma)) ∧ MapO w' ma ns.length (fun id => (Cl.at_ ns id).map (Cl.ndV objs)) ∧ (∀ p ∈ ns, ∃ B, w'.ownsRow B 37 32 p.val (Cl.lks objs p.id).length (cellsP (Cl.lks objs p.id))) ∧ (∀ p ∈ ns, Id32 p.id) ∧ (∀ x, x ∈ ns.map (·.id) ↔ Cl.Rch objs roots x) ∧ ns.length ≤ 1000 ∧ w.heap.size ≤ ma ∧ Below w.heap.size w w'
/-- what the walk's loop keeps -/
def WL (objs roots : List (List Nat)) (its : List Cl.T) (w0 wr : World) (ms nms ma bA bS bL B : Nat) (k : Nat) : Prop :=
  ∃ v ns, WK objs roots its w0 wr ms nms ma bA bS bL B v ns ∧ k ≤ ns.length ∧ (∀ x ∈ roots, x ∈ ns.map (·.id)) ∧ ∀ j p, j < k → ns[j]? = some p → ∀ x ∈ Cl.lks objs p.id, x ∈ ns.map (·.id)
theorem WL.done {objs roots : List (List Nat)} {its : List Cl.T} {w0 wr : World} {ms nms ma bA bS bL B : Nat} {v : Value} {ns : List Cl.Nd} (h : WK objs roots its w0 wr ms nms ma bA bS bL B v ns) (hr : ∀ x ∈ roots, x ∈ ns.map (·.id)) (hl : ∀ j p, j < ns.length → ns[j]? = some p → ∀ x ∈ Cl.lks objs p.id, x ∈ ns.map (·.id)) (hN : (Cl.pool objs roots).length ≤ 1000) (hm : w0.heap.size ≤ ma) :
    WalkPost objs roots w0 (.returned (.map (some ma))) wr := by
  refine ⟨ma, ns, rfl, h.mp, fun p hp => ⟨B, h.lk p hp⟩, h.ids, fun x => ⟨fun hx => ?_, fun hx => ?_⟩, h.few hN, hm, h.bel⟩
  · obtain ⟨p, hp, rfl⟩ := List.mem_map.1 hx
    exact h.rch p hp
  · induction hx with
    | root hx => exact hr _ hx
    | link _ hk ih =>
      obtain ⟨p, hp, he⟩ := List.mem_map.1 ih
      obtain ⟨j, hj⟩ := List.mem_iff_getElem?.1 hp
      rw [← he] at hk
      exact hl j p (List.getElem?_eq_some_iff.1 hj).1 hj _ hk
theorem cl_enter (args : Array Value) (w : World) : (callFunc 39 args).run Tryd.prog w = .ok (.enter 39 args) w := by kernel_rfl
theorem cl_byte {xs : List Nat} (h : Oc.bytes xs) : Sha.Byte xs := fun i => by
  by_cases hi : i < xs.length
  · rw [List.getD_eq_getElem?_getD, List.getElem?_eq_getElem hi, Option.getD_some]
    exact h _ (List.getElem_mem hi)
  · rw [List.getD_eq_getElem?_getD, List.getElem?_eq_none (by omega)]
    decide
theorem cl_take {ys : List Nat} (h : Oc.bytes ys) (hl : 32 ≤ ys.length) : Id32 (ys.take 32) := ⟨by rw [List.length_take]; omega, cl_byte (Oc.bytes_take h 32)⟩
theorem entsGo_fit : ∀ (f : Nat) (es : List Ent) (ys : List Nat) (r : List Ent), Oc.bytes ys → (∀ e ∈ es, Id32 e.id) → entsGo f es ys = some r → ∀ e ∈ r, Id32 e.id
  | f, es, [], r, _, he, h => by
    have h1 : some es = some r := by rw [← h]; cases f <;> rfl
    injection h1 with h1
    rw [← h1]; exact he
  | 0, es, _ :: _, r, _, _, h => by cases h
  | f + 1, es, n :: ys, r, hb, he, h => by
    have hy : Oc.bytes ys := fun x hx => hb x (List.mem_cons_of_mem _ hx)
    rw [entsGo] at h
    split at h
    · cases h
    · rename_i hl
      refine entsGo_fit f _ _ r (Oc.bytes_drop hy _) (fun e hm => ?_) h
      rcases List.mem_append.1 hm with hm | hm
      · exact he e hm
      · rw [List.mem_singleton.1 hm]
        exact cl_take (Oc.bytes_drop hy n) (by rw [List.length_drop]; omega)
theorem parsGo_fit : ∀ (n : Nat) (ps : List (List Nat)) (ys : List Nat) (q : List (List Nat) × List Nat), Oc.bytes ys → (∀ p ∈ ps, Id32 p) → parsGo n ps ys = some q → (∀ p ∈ q.1, Id32 p) ∧ Oc.bytes q.2
  | 0, ps, ys, q, hb, hp, h => by
    rw [parsGo] at h
    injection h with h
    rw [← h]; exact ⟨hp, hb⟩
  | n + 1, ps, ys, q, hb, hp, h => by
    rw [parsGo] at h
    split at h
    · cases h
    · rename_i hl
      refine parsGo_fit n _ _ q (Oc.bytes_drop hb 32) (fun p hm => ?_) h
      rcases List.mem_append.1 hm with hm | hm
      · exact hp p hm
      · rw [List.mem_singleton.1 hm]
        exact cl_take hb (by omega)
theorem parse_fit {t : List Nat} {o : Ob} (hb : Oc.bytes t) (h : Ob.parse t = .ok o) : o.Fit := by
  obtain _ | ⟨c, ys⟩ := t
  · cases h
  have hy : Oc.bytes ys := fun x hx => hb x (List.mem_cons_of_mem _ hx)
  have hz : Id32 zid := zid_id
  rw [Ob.parse] at h
  split at h
  · obtain ⟨e, _⟩ := fin_ok h
    subst e
    exact ⟨cl_byte hy, fun e he => (by cases he), hz, fun p hp => (by cases hp)⟩
  · split at h
    · split at h
      · cases h
      · rename_i es he
        obtain ⟨e, _⟩ := fin_ok h
        subst e
        exact ⟨fun i => (by simp), entsGo_fit _ _ _ _ hy (fun e he => (by cases he)) he, hz, fun p hp => (by cases hp)⟩
    · split at h
      · split at h
        · cases h
        · rename_i hl
          split at h
          · cases h
          · rename_i q hq
            obtain ⟨e, _⟩ := fin_ok h
            subst e
            obtain ⟨h1, h2⟩ := parsGo_fit _ _ _ _ (Oc.bytes_drop hy 33) (fun p hp => (by cases hp)) hq
            exact ⟨cl_byte h2, fun e he => (by cases he), cl_take hy (by omega), h1⟩
      · split at h
        · split at h
          · cases h
          · rename_i hl
            obtain ⟨e, _⟩ := fin_ok h
            subst e
            exact ⟨cl_byte (Oc.bytes_drop hy 32), fun e he => (by cases he), cl_take hy (by omega), fun p hp => (by cases hp)⟩
        · cases h
theorem fit_links {o : Ob} (hf : o.Fit) : ∀ p ∈ o.links, Id32 p := fun p hp => by
  unfold Ob.links at hp
  simp only [List.mem_append] at hp
  rcases hp with (hp | hp) | hp
  · obtain ⟨e, he, rfl⟩ := List.mem_map.1 hp
    exact hf.ents e he
  · split at hp
    · rw [List.mem_singleton.1 hp]; exact hf.target
    · cases hp
  · exact hf.pars p hp
/-- few ids may be reached -/
theorem pool_few {objs roots : List (List Nat)} (hb : ∀ t ∈ objs, Sha.Byte t) : (Cl.pool objs roots).length ≤ roots.length + 9 * objs.length := by
  unfold Cl.pool
  rw [List.length_append]
  have h := Cl.flat_le (f := fun t => match Cl.ob t with | none => [] | some o => o.links) (k := 9) (l := objs) (fun t ht => by
    cases ho : Cl.ob t with
    | none => simp
    | some o =>
      obtain ⟨hz, hp⟩ := Cl.ob_some ho
      have h1 := links_small (parse_fit (Oc.bytes_of (hb t ht)) hp)
      rw [(parse_laid (Oc.bytes_of (hb t ht)) hp).1] at h1
      show o.links.length ≤ 9
      omega)
  exact Nat.add_le_add_left h _
theorem lks_few {objs : List (List Nat)} (hb : ∀ t ∈ objs, Sha.Byte t) (id : List Nat) : (Cl.lks objs id).length ≤ 9 := by
  unfold Cl.lks Cl.obAt
  cases hs : Cl.stk objs id with
  | none => simp
  | some t =>
    cases ho : Cl.ob t with
    | none => simp [ho]
    | some o =>
      obtain ⟨hz, hp⟩ := Cl.ob_some ho
      have ht := hb t (Cl.stk_mem hs).1
      have h1 := links_small (parse_fit (Oc.bytes_of ht) hp)
      rw [(parse_laid (Oc.bytes_of ht) hp).1] at h1
      simp [ho]
      omega
theorem cl_still_mid {P : Program} {op : Oper} {a : Act} {w : World} {K : Act → Prop} (ty : TypeId) (x : Operand) (ho : op.op = .load ty x)
    (b o : Nat) (hx : a.eval x = .pointer (some ⟨b, o, none⟩)) (cs : List Value) (d : TypeDesc) (hc : w.rangeAt b o cs)
    (hu : P.underlying ty = some d) (hd : d.isRow = true) (hi : (P.info? ty).map (·.size) = some cs.length)
    (h : K (a.put op.dst (.agg cs.toArray))) : op.still P a w K := by
  unfold Oper.still execOp
  simp only [ho, hx, Sem.run_bind, run_loadAt_mid w b o ty cs d hc hu hd hi, Result.andThen_ok]
  exact ⟨rfl, h⟩
theorem cl_field2 (b : Bool) (k : Int) (v : Value) (hv : ∃ A n c, v = .slice A n c) (w : World) : (Instr.field 68 (.agg #[.bool b, .int .i64 k, v]) 2).run Tryd.prog w = .ok v w := by
  obtain ⟨A, n, c, rfl⟩ := hv
  kernel_rfl
theorem links_id32 {objs : List (List Nat)} (hb : ∀ t ∈ objs, Sha.Byte t) {id x : List Nat} (h : x ∈ Cl.lks objs id) : Id32 x := by
  obtain ⟨t, ht, o, ho, hx⟩ := Cl.lks_mem h
  obtain ⟨hz, hp⟩ := Cl.ob_some ho
  exact fit_links (parse_fit (Oc.bytes_of (hb t ht)) hp) x hx
set_option maxRecDepth 100000 in
set_option maxHeartbeats 8000000 in
theorem walk_any (a : Nat → Addr) (A : Option Addr) (c : Nat) (roots : List (List Nat)) (its : List Cl.T) (ms nms : Nat) (w0 w : World) (h0 : Below w0.heap.size w0 w) (hm : MapO w ms nms (fun id => (Cl.fst its id).map (·.val))) (hrd : ∀ p ∈ its, Rd w0 p.val p.text ∧ Sha.Byte p.text) (hS : CSents w0 a) (hN : (Cl.pool (its.map (·.text)) roots).length ≤ 1000) (hri : ∀ x ∈ roots, Id32 x) (hn : roots.length ≤ 1000) (hR : RdK w (.slice A roots.length c) roots.length (cellsP roots)) :
    Calls Tryd.prog 26 #[.map (some ms), .slice A roots.length c] w (WalkPost (its.map (·.text)) roots w) := by
  obtain ⟨objs, hob⟩ : ∃ objs, objs = its.map (·.text) := ⟨_, rfl⟩
  have HBO : Hid (∀ t ∈ objs, Sha.Byte t) := Lib.hid (fun t ht => by rw [hob] at ht; obtain ⟨p, hp, rfl⟩ := List.mem_map.1 ht; exact (hrd p hp).2)
  rw [← hob] at hN ⊢
  obtain ⟨n, hnn⟩ : ∃ n, n = roots.length := ⟨_, rfl⟩
  rw [← hnn] at hn hR ⊢
  have s1 : (w.alloc (.cells #[.map (some ms)] 63)).heap.size = w.heap.size + 1 := by simp
  have s2 : ((w.alloc (.cells #[.map (some ms)] 63)).alloc (.map #[] 0)).heap.size = w.heap.size + 2 := by simp
  have s3 : (((w.alloc (.cells #[.map (some ms)] 63)).alloc (.map #[] 0)).alloc (.cells #[.map none] 61)).heap.size = w.heap.size + 3 := by simp
  obtain ⟨w3, hw3⟩ : ∃ w3, w3 = (((w.alloc (.cells #[.map (some ms)] 63)).alloc (.map #[] 0)).alloc (.cells #[.map none] 61)).setCell ⟨w.heap.size + 2, 0, none⟩ (.map (some (w.heap.size + 1))) := ⟨_, rfl⟩
  have g3 : (((w.alloc (.cells #[.map (some ms)] 63)).alloc (.map #[] 0)).alloc (.cells #[.map none] 61)).grownBy w3 (some (w.heap.size + 2)) := hw3 ▸ grown_cell _ _ _ _
  have z3 : w3.heap.size = w.heap.size + 3 := by rw [hw3]; simp [World.setCell]
  have bA0 : Below w.heap.size w ((w.alloc (.cells #[.map (some ms)] 63)).alloc (.map #[] 0)) := ((Below.refl _ _).alloc (Nat.le_refl _) _).alloc (by rw [s1]; omega) _
  have bA1 : Below w.heap.size w (((w.alloc (.cells #[.map (some ms)] 63)).alloc (.map #[] 0)).alloc (.cells #[.map none] 61)) := bA0.alloc (by rw [s2]; omega) _
  have b3 : Below w.heap.size w w3 := cl_grow bA1 g3 (fun x hx => by injection hx with hx; omega)
  have hbS : Blk w3 w.heap.size 63 #[.map (some ms)] := (((Blk.new w 63 #[.map (some ms)]).alloc _).alloc _).grown g3 (fun e => by injection e with e; omega)
  have hbA : Blk w3 (w.heap.size + 2) 61 #[.map (some (w.heap.size + 1))] := by
    have h := (Blk.new ((w.alloc (.cells #[.map (some ms)] 63)).alloc (.map #[] 0)) 61 #[.map none]).set_ 0 (.map (some (w.heap.size + 1)))
    rw [s2] at h
    rw [hw3]; exact h
  have hma : MapO w3 (w.heap.size + 1) 0 (fun id => (Cl.at_ [] id).map (Cl.ndV objs)) := by
    have h := MapO.made (w.alloc (.cells #[.map (some ms)] 63))
    rw [s1] at h
    exact ((h.below ((Below.refl _ _).alloc (Nat.le_refl _) _)).kept g3 (fun e => by injection e with e; omega)).ext fun x _ => rfl
  have hmlt := hm.lt
  have b4 : Below w3.heap.size w3 (w3.alloc (.cells #[.slice none 0 0] 23)) := (Below.refl _ _).alloc (Nat.le_refl _) _
  have HK : Hid (WK objs roots its w (w3.alloc (.cells #[.slice none 0 0] 23)) ms nms (w.heap.size + 1) (w.heap.size + 2) w.heap.size (w.heap.size + 3) (w.heap.size + 4) (.slice none 0 0) []) := Lib.hid (by
    have hbL := Blk.new w3 23 #[.slice none 0 0]
    rw [z3] at hbL
    refine ⟨((hm.below b3).below b4), hma.below b4, hbA.below b4 hbA.lt, hbS.below b4 hbS.lt, hbL, World.ownsRow_nil _ _ _ _, fun p hp => (by cases hp), fun x hx => (by simp [Value.ownBlock] at hx), ?_, ?_, List.nodup_nil, fun p hp => (by cases hp), fun p hp => (by cases hp), below_next b3 b4⟩
    · have : (w3.alloc (.cells #[.slice none 0 0] 23)).heap.size = w.heap.size + 4 := by simp [z3]
      omega
    · omega)
  have HX : Hid (IdS (w3.alloc (.cells #[.slice none 0 0] 23)) A roots (w.heap.size + 1) (w.heap.size + 3) (.slice none 0 0)) := Lib.hid (fun h0 => by
    obtain ⟨A', c', hv, _, hA⟩ := hR
    injection hv with e1 e2 e3
    obtain ⟨b, o, ha, hl, hx⟩ := hA (by omega)
    refine ⟨b, o, by rw [e1, ha], Nat.lt_of_lt_of_le hl (below_next b3 b4).size, by omega, by omega, by simp [Value.ownBlock], fun j u hj => ?_⟩
    exact ((below_next b3 b4).cell (p := ⟨b, o + j, none⟩) hl).trans (hx j u hj))
  have CA := cl_add_any (ns := []) a A n c roots HK.out hob (fun p hp => ⟨(hrd p hp).1.below h0 (Nat.le_refl _), (hrd p hp).2⟩) (hS.at_ h0) hN hnn hri (fun x hx => Cl.Rch.root hx) HX.out hn
  unfold AddPost at CA
  have CB := fun (wr : World) (v : Value) (ns : List Cl.Nd) (A : Option Addr) (n c : Nat) (xs : List (List Nat)) (hk : WK objs roots its w wr ms nms (w.heap.size + 1) (w.heap.size + 2) w.heap.size (w.heap.size + 3) (w.heap.size + 4) v ns) (hn : n = xs.length) (h1 : ∀ x ∈ xs, Id32 x) (h2 : ∀ x ∈ xs, Cl.Rch objs roots x) (h3 : IdS wr A xs (w.heap.size + 1) (w.heap.size + 3) v) (h4 : n ≤ 1000) => cl_add_any a A n c xs hk hob (fun p hp => ⟨(hrd p hp).1.below h0 (Nat.le_refl _), (hrd p hp).2⟩) (hS.at_ h0) hN hn h1 h2 h3 h4
  have HCB := Lib.hid CB
  have HPL := Lib.hid hN
  have HLI : Hid (∀ id x, x ∈ Cl.lks objs id → Id32 x) := Lib.hid (fun id x hx => links_id32 HBO.out hx)
  have mk := cl_make_reach (w.alloc (.cells #[.map (some ms)] 63))
  have eg := cl_enter
  have e3 := hw3.symm
  have p3 : (((w.alloc (.cells #[.map (some ms)] 63)).alloc (.map #[] 0)).alloc (.cells #[.map none] 61)).cell? ⟨w.heap.size + 2, 0, none⟩ = some (.map none) := by
    have h := Blk.new ((w.alloc (.cells #[.map (some ms)] 63)).alloc (.map #[] 0)) 61 #[.map none]
    rw [s2] at h
    exact h.cell 0
  have f3 : (((w.alloc (.cells #[.map (some ms)] 63)).alloc (.map #[] 0)).alloc (.cells #[.map none] 61)).frozen? ⟨w.heap.size + 2, 0, none⟩ = false := by
    have h := Blk.new ((w.alloc (.cells #[.map (some ms)] 63)).alloc (.map #[] 0)) 61 #[.map none]
    rw [s2] at h
    exact h.frozen 0
  have HLF : Hid (∀ id, (Cl.lks objs id).length ≤ 9) := Lib.hid (fun id => lks_few HBO.out id)
  clear h0 hm hrd hS hN hri hn hR hob s1 s2 s3 hw3 g3 bA0 bA1 b3 hbS hbA hma hmlt b4 CB HBO hnn
  go_enter Tryd.func26, Tryd.ntmps26
  go_wp2_with (go_at_call 39; refine pause ?_)
  unfold Paused
  refine CA.mono ?_
  rintro e w5 ⟨v5, ns5, rfl, hk5, hr5⟩
  rw [List.nil_append] at hk5 hr5
  obtain ⟨bA, hbA⟩ : ∃ x, x = w.heap.size + 2 := ⟨_, rfl⟩
  obtain ⟨bL, hbL⟩ : ∃ x, x = w.heap.size + 3 := ⟨_, rfl⟩
  obtain ⟨B, hB⟩ : ∃ x, x = w.heap.size + 4 := ⟨_, rfl⟩
  obtain ⟨ma, hma⟩ : ∃ x, x = w.heap.size + 1 := ⟨_, rfl⟩
  have eA : w.heap.size + 1 + 1 = bA := by rw [hbA]
  rw [← hbA, ← hbL, ← hB, ← hma] at hk5 HCB
  have HWL : Hid (WL objs roots its w w5 ms nms ma bA w.heap.size bL B 0) := Lib.hid ⟨v5, ns5, hk5, Nat.zero_le _, hr5, fun j p hj => absurd hj (Nat.not_lt_zero _)⟩
  have HMA : Hid (w.heap.size ≤ ma) := Lib.hid (by omega)
  rw [eA, ← hbL]
  clear hk5 hr5 CA HK HX mk p3 f3 e3 hbA hbL hB hma eA
  go_wp2
  go_loopw [8] (fun i wr => ∃ k : Nat, k ≤ 1000 ∧ i = .int .i64 k ∧ Hid (WL objs roots its w wr ms nms ma bA w.heap.size bL B k)) (fun i _ => 1001 - (intOf i).toNat)
  case atStart => exact ⟨0, Nat.zero_le _, rfl, HWL⟩
  case round =>
    obtain ⟨k, hk, rfl, HW⟩ := hrel
    obtain ⟨v, ns, hwk, hkn, hro, hli⟩ := HW.out
    have hfew := hwk.few HPL.out
    obtain ⟨Av, cv, hvv⟩ := cl_own_slice hwk.own
    subst hvv
    have pL : wr.cell? ⟨bL, 0, none⟩ = some (.slice Av ns.length cv) := hwk.bl.cell 0
    have HWK := Lib.hid hwk
    have HRO := Lib.hid hro
    have HLIK := Lib.hid hli
    obtain ⟨nl, hnl⟩ : ∃ n, n = ns.length := ⟨_, rfl⟩
    rw [← hnl] at pL HWK hkn hfew
    have HNL := Lib.hid hnl
    have pA : wr.cell? ⟨bA, 0, none⟩ = some (.map (some ma)) := hwk.ba.cell 0
    clear hro hli hnl hwk HW
    by_cases hlt : k < nl
    · have hkl : k < ns.length := by rw [← HNL.out]; exact hlt
      obtain ⟨p, hp⟩ : ∃ p, ns[k]? = some p := ⟨ns[k], List.getElem?_eq_getElem hkl⟩
      have hpm := List.mem_of_getElem? hp
      have HID := Lib.hid (HWK.out.ids p hpm)
      have HROW := HWK.out.own
      have hrk : RdK wr (.slice Av nl cv) ns.length (cellsP (ns.map (·.id))) := rdk_own HROW
      obtain ⟨A', c', hv', _, hA'⟩ := hrk
      injection hv' with e1 e2 e3
      obtain ⟨b, o, hAb, hbl, hx⟩ := hA' (by omega)
      rw [← e1] at hAb
      subst hAb
      have HRG : Hid (wr.drew.rangeAt b (o + k * 32) (cellsB p.id)) := Lib.hid (fun j u hu => by
        rw [Nat.add_assoc]
        exact hx (k * 32 + j) u (cellsP_at (xs := ns.map (·.id)) (fun y hy => by obtain ⟨q, hq, rfl⟩ := List.mem_map.1 hy; exact HWK.out.ids q hq) (by rw [List.length_map]; exact hkl) (by rw [List.getD_eq_getElem?_getD, List.getElem?_map, hp]; exact hu)))
      have HWD := Lib.hid (HWK.out.below (w' := wr.drew) (below_drewN (Below.refl _ wr) 1))
      obtain ⟨Ap, cp, hpv⟩ := cl_own_slice (HWK.out.lk p hpm)
      have hat : ∃ q, Cl.at_ ns p.id = some q ∧ q.id = p.id ∧ q ∈ ns := by
        obtain ⟨q, hq⟩ := Option.isSome_iff_exists.1 (Cl.at_iff.2 (List.mem_map.2 ⟨p, hpm, rfl⟩))
        exact ⟨q, hq, ((Cl.at_mem hq).2).symm, (Cl.at_mem hq).1⟩
      obtain ⟨q, hq, hqi, hqm⟩ := hat
      obtain ⟨Aq, cq, hqv⟩ := cl_own_slice (HWK.out.lk q hqm)
      rw [hqi] at hqv
      have q6 := HWD.out.mp.look Tryd.underlying61 (nd_zero wr.drew) HID.out
      rw [hq] at q6
      simp only [Option.map_some, Option.getD_some] at q6
      unfold Cl.ndV ndC at q6
      rw [hqv, hqi] at q6
      have q7 : ∀ w', (Instr.field 68 (.agg #[.bool (Cl.the objs p.id), .int .i64 (Cl.knd objs p.id), .slice Aq (Cl.lks objs p.id).length cq]) 2).run Tryd.prog w' = .ok (.slice Aq (Cl.lks objs p.id).length cq) w' := fun w' => cl_field2 _ _ _ ⟨_, _, _, rfl⟩ w'
      have q6' : (Instr.lookup 61 (.map (some ma)) (.agg (cellsB p.id).toArray) false).run Tryd.prog wr.drew = .ok (.agg #[.bool (Cl.the objs p.id), .int .i64 (Cl.knd objs p.id), .slice Aq (Cl.lks objs p.id).length cq]) wr.drew := q6
      have CC := HCB.out wr.drew (.slice (some ⟨b, o, none⟩) nl cv) ns Aq (Cl.lks objs p.id).length cq (Cl.lks objs p.id) HWD.out rfl (fun x hx => HLI.out p.id x hx) (fun x hx => Cl.Rch.link (HWK.out.rch p hpm) hx) (fun h0 => by
        have hown := HWD.out.lk q hqm
        rw [hqv, hqi] at hown
        obtain ⟨A2, c2, hv2, _, hA2⟩ := rdk_own hown
        injection hv2 with f1 f2 f3
        obtain ⟨b2, o2, h1, h2, h3⟩ := hA2 h0
        rw [← f1] at h1
        have hob : (Value.slice Aq (Cl.lks objs p.id).length cq).ownBlock = some b2 := by
          rcases hown.2 with ⟨hv3, hn3⟩ | ⟨g, cap, cur, hv3, _⟩
          · omega
          · rw [hv3]
            injection hv3 with k1 k2 k3
            rw [h1] at k1
            injection k1 with k1
            injection k1 with k1 _
            rw [k1]
            rfl
        have hin := own_in hown hob
        have hord := HWD.out.ord
        exact ⟨b2, o2, h1, h2, by omega, by omega, fun e => HWD.out.off b2 e q hqm (by rw [hqv]; exact hob), h3⟩) (by have := HLF.out p.id; omega)
      unfold AddPost at CC
      have HPI := Lib.hid hp
      have i1 : ((k : Nat) : Int) < nl := by omega
      have i2 : (0 : Int) ≤ ((k : Nat) : Int) := by omega
      have i3 : ((k : Nat) : Int) < 1000 := by omega
      have HLT : Hid (k < nl ∧ nl ≤ 1000) := Lib.hid ⟨hlt, hfew⟩
      have pLd : wr.drew.cell? ⟨bL, 0, none⟩ = some (.slice (some ⟨b, o, none⟩) nl cv) := pL
      have pAd : wr.drew.cell? ⟨bA, 0, none⟩ = some (.map (some ma)) := pA
      generalize (Cl.lks objs p.id).length = np at q6' q7 CC
      generalize Cl.the objs p.id = tb at q6' q7
      generalize Cl.knd objs p.id = kb at q6' q7
      clear hkl hp HROW hx hbl hA' e1 e2 e3 hpv hq hqi hqm hqv q6 hlt hk hkn hfew hpm
      go_wp2_with fail
      refine wp_region_still_tail 8 (by kernel_rfl) (by kernel_rfl) ?_
      change wpStill _ _ wr.drew _ _ _
      dsimp only [List.take, List.drop]
      iterate 5 still_step
      refine wpStill_step (fun K hK => ?_)
      rw [if_pos (by rfl)]
      refine cl_still_mid 37 (.tmp 24) rfl b (o + k * 32) rfl (cellsB p.id) _ HRG.out Tryd.underlying37 (by rfl) (by rw [cellsP1_len HID.out]; exact cl_oid_load) ?_
      refine hK _ ?_
      clear hK K
      iterate 2 still_step
      refine wpStill_nil ?_
      try simp only [Act.put, List.getElem_toArray, List.getElem_cons_zero, List.getElem_cons_succ, List.setIfInBounds_toArray, List.set_cons_zero, List.set_cons_succ]
      change wpList _ _ _ _ _ wr.drew
      go_wp2_with (go_at_call 39; refine pause ?_)
      unfold Paused
      refine CC.mono ?_
      rintro e w6 ⟨v6, ns6, rfl, hk6, hx6⟩
      have HN6 : Hid (WL objs roots its w w6 ms nms ma bA w.heap.size bL B (k + 1)) := Lib.hid ⟨v6, ns ++ ns6, hk6, by rw [List.length_append, ← HNL.out]; have := HLT.out; omega, fun x hx => by rw [List.map_append]; exact List.mem_append_left _ (HRO.out x hx), fun j p' hj hp' x hx => by
        by_cases e : j = k
        · subst e
          rw [List.getElem?_append_left (by rw [← HNL.out]; exact HLT.out.1), HPI.out] at hp'
          injection hp' with hp'
          rw [← hp'] at hx
          exact hx6 x hx
        · rw [List.getElem?_append_left (by rw [← HNL.out]; have := HLT.out; omega)] at hp'
          rw [List.map_append]
          exact List.mem_append_left _ (HLIK.out j p' (by omega) hp' x hx)⟩
      clear hk6 hx6 CC q6' q7 pL pA pLd pAd
      go_wp2
      go_roundw
      case rel => exact ⟨k + 1, by have := HLT.out; omega, by go_num, HN6⟩
      case measure => have := HLT.out; simp [intOf]; omega
    · obtain rfl : k = nl := by omega
      have ik : ¬ ((k : Nat) : Int) < k := by omega
      have HE : Hid (WalkPost objs roots w (.returned (.map (some ma))) wr) := Lib.hid (WL.done HWK.out HRO.out (fun j p hj hp x hx => HLIK.out j p (by rw [HNL.out]; exact hj) hp x hx) HPL.out HMA.out)
      clear HLIK HRO hfew hk hkn hlt
      go_wp2
      go_ret
      exact HE.out
end Go.Proofs.YtlodalppnglclaaDoor
