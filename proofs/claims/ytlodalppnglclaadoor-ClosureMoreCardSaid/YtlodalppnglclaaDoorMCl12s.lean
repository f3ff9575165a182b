/- Rows of ids as the document has them: made of the program's, and an id put into a rising one. -/
import Derived.Test.YtlodalppnglclaaDoorMCl8s
import Derived.Test.YtlodalppnglclaaDoorMMapRs
import Derived.Test.YtlodalppnglclaaDoorMCl24
import Derived.Test.YtlodalppnglclaaDoorMCl21s
namespace Go.Proofs.YtlodalppnglclaaDoor
open Go Go.RowKit
/-- a row of ids of one's own, made behind a world -/
structure LO (w wr : World) (B : Nat) (v : Value) (l : List (List Nat)) : Prop where
  own : wr.ownsRow B 36 32 v l.length (cellsP l)
  bel : Below w.heap.size w wr
  ids : ∀ x ∈ l, Id32 x
  siz : w.heap.size ≤ B ∧ B ≤ wr.heap.size
theorem LO.below {w wr w' : World} {B : Nat} {v : Value} {l : List (List Nat)} (h : LO w wr B v l) (hb : Below wr.heap.size wr w') : LO w w' B v l :=
  ⟨own_below h.own hb, below_next h.bel hb, h.ids, by have := h.siz; have := hb.size; omega⟩
theorem LO.put {w wr w2 : World} {B : Nat} {v v2 : Value} {l : List (List Nat)} {x : List Nat} (h : LO w wr B v l) (hid : Id32 x) (ho2 : w2.ownsRow B 36 32 v2 (l.length + 1) (cellsP l ++ cellsB x)) (hg : wr.grownBy w2 v.ownBlock) : LO w w2 B v2 (l ++ [x]) :=
  ⟨by rw [List.length_append, List.length_singleton, cellsP_snoc]; exact ho2, cl_grow h.bel hg (fun y hy => by have := (own_in h.own hy).1; have := h.siz; omega), fun y hy => by
    rcases List.mem_append.1 hy with hy | hy
    · exact h.ids y hy
    · rw [List.mem_singleton.1 hy]; exact hid, by have := hg.size; have := h.siz; omega⟩
theorem rdo_k {wr : World} {v : Value} {l : List (List Nat)} (h : RdK wr v l.length (cellsP l)) (hi : ∀ x ∈ l, Id32 x) : RdO wr v l := by
  obtain ⟨A, c, hv, hc, hA⟩ := h
  refine ⟨A, c, hv, hc, fun h0 => ?_⟩
  obtain ⟨b, o, ha, hl, hx⟩ := hA h0
  refine ⟨b, o, ha, hl, fun i hil j u hu => ?_⟩
  rw [Nat.add_assoc, Nat.mul_comm 32 i]
  exact hx (i * 32 + j) u (cellsP_at hi hil hu)
theorem LO.rd {w wr : World} {B : Nat} {v : Value} {l : List (List Nat)} (h : LO w wr B v l) : RdO wr v l := rdo_k (rdk_own h.own) h.ids
theorem rdo_go {w w' : World} {v : Value} {l : List (List Nat)} {B : Nat} (h : RdO w v l) (hb : Below B w w') (hB : w.heap.size ≤ B) : RdO w' v l := by
  obtain ⟨A, c, hv, hc, hA⟩ := h
  refine ⟨A, c, hv, hc, fun h0 => ?_⟩
  obtain ⟨b, o, ha, hl, hx⟩ := hA h0
  exact ⟨b, o, ha, Nat.lt_of_lt_of_le hl hb.size, fun i hi j u hu => (hb.cell (p := ⟨b, o + 32 * i + j, none⟩) (Nat.lt_of_lt_of_le hl hB)).trans (hx i hi j u hu)⟩
theorem LO.new {w w1 : World} {B : Nat} (h : Below w.heap.size w w1) (h1 : w.heap.size ≤ B) (h2 : B ≤ w1.heap.size) : LO w (w1.alloc (.cells #[] 36)) B (.slice (some ⟨w1.heap.size, 0, none⟩) 0 0) [] :=
  ⟨⟨rfl, .inr ⟨w1.heap.size, 0, #[], rfl, h2, heap_alloc_new w1 _, Nat.le_refl _, by unfold maxLen; omega, rfl, rfl⟩⟩, h.alloc h.size _, fun x hx => (by cases hx), h1, by simp; omega⟩
end Go.Proofs.YtlodalppnglclaaDoor
/- Long, of closure's objects. -/
namespace Go.Proofs.YtlodalppnglclaaDoor
open Go Go.RowKit
end Go.Proofs.YtlodalppnglclaaDoor
/- closure's example: what is reached from a tag whose target isn't there. -/
namespace Go.Proofs.YtlodalppnglclaaDoor
open Go Go.RowKit
namespace Cl
def five : List Nat := 5 :: List.replicate 31 0
def tagB : List Nat := 103 :: five
theorem al_sum : Sha.sum tagB ≠ five := by decide +kernel
theorem al_right : Ob.right ⟨4, [], [], five, []⟩ = true := by
  unfold Ob.right Ob.strange entsOk Ob.front
  simp [aimsB, five, okTo]
theorem al_parse : Ob.parse tagB = .ok ⟨4, [], [], five, []⟩ := by
  have e1 : five.drop 32 = [] := by decide
  have e2 : five.take 32 = five := by decide
  unfold tagB
  rw [Ob.parse, if_neg (by decide), if_neg (by decide), if_neg (by decide), if_pos rfl, if_neg (by decide), e1, e2]
  exact fin_of al_right
theorem al_stk (x : List Nat) : stk [tagB] x = if x = Sha.sum tagB then some tagB else none := by
  unfold stk
  simp only [List.foldl_cons, List.foldl_nil, Option.isSome_none, Bool.false_eq_true, if_false]
theorem al_ob : ob tagB = some ⟨4, [], [], five, []⟩ := by
  unfold ob
  rw [al_parse, if_neg (by decide)]
theorem al_the (x : List Nat) : the [tagB] x = decide (x = Sha.sum tagB) := by
  unfold the
  rw [al_stk]
  by_cases h : x = Sha.sum tagB
  · rw [if_pos h]; simp [h]
  · rw [if_neg h]; simp [h]
theorem al_lks (x : List Nat) : lks [tagB] x = if x = Sha.sum tagB then [five] else [] := by
  unfold lks obAt
  rw [al_stk]
  by_cases h : x = Sha.sum tagB
  · rw [if_pos h, if_pos h]
    show (match ob tagB with | none => [] | some o => o.links) = [five]
    rw [al_ob]
    rfl
  · rw [if_neg h, if_neg h]; rfl
theorem al_rch (x : List Nat) : Rch [tagB] [Sha.sum tagB] x ↔ (x = Sha.sum tagB ∨ x = five) := by
  constructor
  · intro h
    induction h with
    | root h => exact Or.inl (List.mem_singleton.1 h)
    | link _ hk ih =>
      rw [al_lks] at hk
      split at hk
      · exact Or.inr (List.mem_singleton.1 hk)
      · cases hk
  · rintro (h | h)
    · exact Rch.root (by rw [h]; simp)
    · exact Rch.link (Rch.root (List.mem_singleton.2 rfl)) (by rw [al_lks, if_pos rfl, h]; simp)
theorem al_id : Id32 five := ⟨by decide, fun i => by
  unfold five
  rcases i with _ | i
  · decide
  · rw [List.getD_cons_succ, List.getD_eq_getElem?_getD, List.getElem?_replicate]
    split <;> decide⟩
theorem al_missing {r : List (List Nat)} (hr : Sha.Rising r) (hi : ∀ x ∈ r, Id32 x) (hm : ∀ x, Id32 x → (x ∈ r ↔ (Rch [tagB] [Sha.sum tagB] x ∧ the [tagB] x = false))) : r = [five] := by
  refine Sha.one_of hr fun x => ⟨fun hx => ?_, fun e => ?_⟩
  · obtain ⟨h1, h2⟩ := (hm x (hi x hx)).1 hx
    rw [al_the] at h2
    rcases (al_rch x).1 h1 with h3 | h3
    · simp [h3] at h2
    · exact h3
  · subst e
    refine (hm five al_id).2 ⟨(al_rch five).2 (Or.inr rfl), ?_⟩
    rw [al_the]
    simpa using fun e => al_sum e.symm
end Cl
end Go.Proofs.YtlodalppnglclaaDoor
/- closure's example: alive. -/
namespace Go.Proofs.YtlodalppnglclaaDoor
open Go Go.RowKit
abbrev tagCells : Array Value := #[.int .i64 4, .slice none 0 0, .slice none 0 0, .int .u8 5, .int .u8 0, .int .u8 0, .int .u8 0, .int .u8 0, .int .u8 0, .int .u8 0, .int .u8 0, .int .u8 0, .int .u8 0, .int .u8 0, .int .u8 0, .int .u8 0, .int .u8 0, .int .u8 0, .int .u8 0, .int .u8 0, .int .u8 0, .int .u8 0, .int .u8 0, .int .u8 0, .int .u8 0, .int .u8 0, .int .u8 0, .int .u8 0, .int .u8 0, .int .u8 0, .int .u8 0, .int .u8 0, .int .u8 0, .int .u8 0, .int .u8 0, .slice none 0 0]
theorem tag_front : (⟨4, [], [], Cl.five, []⟩ : Ob).front ++ (⟨4, [], [], Cl.five, []⟩ : Ob).text = Cl.tagB := by decide +kernel
theorem tag_len : Cl.tagB.length = 33 := by decide
theorem tag_byte : Sha.Byte Cl.tagB := fun i => by
  unfold Cl.tagB
  rcases i with _ | i
  · decide
  · rw [List.getD_cons_succ]; exact Cl.al_id.2 i
theorem oid_info20 : (Tryd.prog.info? 37).map (fun i => (i.zero, i.size, i.bytes)) = some (some (.agg (cellsB (List.replicate 32 0)).toArray), 32, 32) := by kernel_rfl
set_option maxRecDepth 100000 in
set_option maxHeartbeats 2000000 in
theorem cl_alive_any (a : Nat → Addr) (w : World) (ht : Tabs w) (hS : CSents w a) : Calls Tryd.prog 6 #[] w fun e w' => e = .returned (.bool true) ∧ Below w.heap.size w w' := by
  have hC : ObC w ⟨4, [], [], Cl.five, []⟩ tagCells none 0 none 0 none 0 := ⟨rfl, ⟨none, 0, rfl, Nat.le_refl _, fun h0 => absurd h0 (by simp)⟩, RdK.nil _ _, RdK.nil _ _⟩
  have CB := obytes_any _ _ _ _ _ _ _ _ (a 3) w hC ⟨byte_of (fun _ h => (by cases h)), fun _ h => (by cases h), Cl.al_id, fun _ h => (by cases h)⟩ ⟨fun _ h => (by cases h), by simp⟩ (hS.p.2.1)
  have HT := Lib.hid ht
  have HS := Lib.hid hS
  clear hC ht hS
  go_enter Tryd.func6, Tryd.ntmps6
  go_wp2_with (go_at_call 19; refine pause ?_)
  unfold Paused
  refine CB.mono ?_
  rintro e w1 ⟨h1, _, hr⟩
  obtain ⟨v, rfl, hv⟩ := hr Cl.al_right
  rw [tag_front] at hv
  have hv0 := hv
  obtain ⟨A, c, rfl, _⟩ := hv0
  rw [tag_len] at hv ⊢
  have HV := Lib.hid hv
  have H1 := Lib.hid h1
  clear hv h1 hr CB
  obtain ⟨sm, hsm⟩ : ∃ s, s = Sha.sum Cl.tagB := ⟨_, rfl⟩
  have CID := fun (w' : World) (hv : Rd w' (.slice A 33 c) Cl.tagB) (ht : Tabs w') => oid_any Cl.tagB (.slice A 33 c) w' hv tag_byte ht (by rw [tag_len]; omega)
  rw [← hsm] at CID
  have HSM := Lib.hid hsm
  clear hsm
  go_wp2_with (go_at_call 18; refine pause ?_)
  unfold Paused
  change Calls _ _ _ (w1.alloc (.cells #[.slice A 33 c] 40)) _
  have b2 : Below w1.heap.size w1 (w1.alloc (.cells #[.slice A 33 c] 40)) := (Below.refl _ _).alloc (Nat.le_refl _) _
  have H2 := Lib.hid (below_next H1.out b2)
  have HV2 := Lib.hid (HV.out.below b2 (Nat.le_refl _))
  have HX2 := Lib.hid (Blk.new w1 40 #[.slice A 33 c])
  clear b2
  generalize w1.alloc (.cells #[.slice A 33 c] 40) = w2 at H2 HV2 HX2 ⊢
  generalize w1.heap.size = g2 at HX2 ⊢
  refine (CID w2 HV2.out (HT.out.below H2.out (Nat.le_refl _))).mono ?_
  rintro e w3 ⟨rfl, hb3⟩
  have H3 := Lib.hid (below_next H2.out hb3)
  have HV3 := Lib.hid (HV2.out.below hb3 (Nat.le_refl _))
  have HX3 := Lib.hid (HX2.out.below hb3 HX2.out.lt)
  have HI3 : Hid (Id32 sm) := Lib.hid (by rw [HSM.out]; exact cl_sum_id _)
  clear hb3 CID
  obtain ⟨ip, hip, hpz, hps, hpb⟩ := info_parts oid_info20
  go_wp2_with (with_reducible (show wpList _ _ _ (Oper.mk _ (Op.buildSlice _ _ _) _ _ _ _ :: _) _ _); refine pause ?_)
  unfold Paused
  refine wpList_buildSliceK (by rfl) 23 37 1 _ (by rfl) (cellsB sm).toArray ip (.agg (cellsB (List.replicate 32 0)).toArray) Tryd.underlying23 hip hpz (by rw [hps]; decide) (by rw [hps]; decide) _ (by kernel_rfl) (by rw [hps]; exact fill_one 32 (Value.agg (cellsB (List.replicate 32 0)).toArray).cells _ (cellsP1_len HI3.out) (by rfl)) ?_
  have b4 : Below w3.heap.size w3 (w3.alloc (.cells (cellsB sm).toArray 37)) := (Below.refl _ _).alloc (Nat.le_refl _) _
  have H4 := Lib.hid (below_next H3.out b4)
  have HV4 := Lib.hid (HV3.out.below b4 (Nat.le_refl _))
  have HX4 := Lib.hid (HX3.out.below b4 HX3.out.lt)
  have HY4 := Lib.hid (Blk.new w3 37 (cellsB sm).toArray)
  clear b4 hip hpz hps hpb
  generalize w3.alloc (.cells (cellsB sm).toArray 37) = w4 at H4 HV4 HX4 HY4 ⊢
  generalize w3.heap.size = g4 at HY4 ⊢
  have HIN : Hid (ClIn w4 (some ⟨g2, 0, none⟩) 1 1 [⟨Cl.tagB, .slice A 33 c⟩] (some ⟨g4, 0, none⟩) 1 1 [sm] a) := Lib.hid ⟨⟨⟨_, 1, rfl, Nat.le_refl _, fun _ => ⟨g2, 0, rfl, HX4.out.lt, fun i u hi => by
      rw [Nat.zero_add]
      exact (HX4.out.cell i).trans (by simpa using hi)⟩⟩, fun p hp => by
      rw [List.mem_singleton.1 hp]
      exact ⟨HV4.out, tag_byte⟩⟩, fun p hp => by
      rw [List.mem_singleton.1 hp]
      show Cl.tagB.length ≤ _
      rw [tag_len]; omega, HT.out.below H4.out (Nat.le_refl _), HS.out.at_ H4.out, ⟨_, 1, rfl, Nat.le_refl _, fun _ => ⟨g4, 0, rfl, HY4.out.lt, fun j u hj => by
      rw [Nat.zero_add]
      exact (HY4.out.cell j).trans (by simpa [cellsP] using hj)⟩⟩, rfl, fun x hx => by rw [List.mem_singleton.1 hx]; exact HI3.out, by simp⟩
  have CM := missing_any HIN.out w4 (Below.refl _ _)
  unfold SetPost at CM
  simp only [Act.put]
  go_wp2_with (go_at_call 12; refine pause ?_)
  unfold Paused
  refine CM.mono ?_
  rintro e w5 ⟨v5, r5, rfl, hv5, hi5, hr5, hm5, hb5⟩
  have e5 : r5 = [Cl.five] := Cl.al_missing hr5 hi5 (by
    rw [← HSM.out]; exact hm5)
  subst e5
  have H5 := Lib.hid (below_next H4.out hb5)
  obtain ⟨A5, c5, hf5, _, hA5⟩ := hv5
  obtain ⟨b5, o5, ha5, _, hc5⟩ := hA5 (by simp)
  have HC5 : Hid (w5.rangeAt b5 o5 (cellsB Cl.five)) := Lib.hid (hc5 0 (by simp))
  have hf5 : v5 = .slice A5 1 c5 := hf5
  subst hf5 ha5
  clear hi5 hr5 hm5 hb5 hA5 hc5 CM HIN
  have qe := run_equalIn_u8s (P := Tryd.prog) w5 37 5 32 Tryd.underlying37 Tryd.underlying5 size_u8 Cl.five Cl.five Cl.al_id.1 Cl.al_id.1 Cl.al_id.2 Cl.al_id.2
  rw [show (Cl.five == Cl.five) = true from by decide] at qe
  have qe : (Op.equalIn 10000 37 (.agg (cellsB Cl.five).toArray) (.agg #[.int .u8 5, .int .u8 0, .int .u8 0, .int .u8 0, .int .u8 0, .int .u8 0, .int .u8 0, .int .u8 0, .int .u8 0, .int .u8 0, .int .u8 0, .int .u8 0, .int .u8 0, .int .u8 0, .int .u8 0, .int .u8 0, .int .u8 0, .int .u8 0, .int .u8 0, .int .u8 0, .int .u8 0, .int .u8 0, .int .u8 0, .int .u8 0, .int .u8 0, .int .u8 0, .int .u8 0, .int .u8 0, .int .u8 0, .int .u8 0, .int .u8 0, .int .u8 0])).run Tryd.prog w5 = .ok true w5 := qe
  go_wp2_with (with_reducible (show wpList _ _ _ (Oper.mk _ (Op.load 37 _) _ _ _ _ :: _) _ _); refine pause ?_)
  unfold Paused
  refine wpList_mid_w (by rfl) 37 (.tmp 25) (by rfl) b5 o5 (by rfl) (cellsB Cl.five) _ HC5.out Tryd.underlying37 (by rfl) (by rw [cellsP1_len Cl.al_id]; kernel_rfl) ?_
  go_wp2
  go_ret
  exact ⟨rfl, H5.out⟩
end Go.Proofs.YtlodalppnglclaaDoor
/- What the laws of closure's rows of links share. -/
namespace Go.Proofs.YtlodalppnglclaaDoor
open Go Go.RowKit
section
variable {w0 w wr w' : World} {vo va : Value} {its : List Cl.T} {Ao Aa A2 : Option Addr} {m co ca n2 c2 : Nat} {roots : List (List Nat)} {a : Nat → Addr}
theorem rowst_clt (h : RowSt w0 wr vo va its its (its.map fun p => Sha.sum p.text)) : ClT wr vo its := by
  obtain ⟨A, c, hv, hc, hA⟩ := rdk_own h.oo
  refine ⟨⟨A, c, by rw [List.length_map]; exact hv, by rw [List.length_map]; exact hc, fun h0 => ?_⟩, fun p hp => ⟨rd_own (h.tx p hp).1, (h.tx p hp).2.1⟩⟩
  obtain ⟨b, o, ha, hb, hx⟩ := hA (by simpa using h0)
  exact ⟨b, o, ha, hb, fun i u hu => hx i u hu⟩
theorem rowst_ids (h : RowSt w0 wr vo va its its (its.map fun p => Sha.sum p.text)) : RdK wr va its.length (cellsP (its.map fun p => Sha.sum p.text)) := by
  have h1 := rdk_own h.oa
  rw [List.length_map] at h1
  exact h1
theorem ids_id32 (its : List Cl.T) : ∀ x ∈ its.map (fun p : Cl.T => Sha.sum p.text), Id32 x := fun x hx => by
  obtain ⟨p, _, rfl⟩ := List.mem_map.1 hx
  exact cl_sum_id _
theorem rowst_in (h : RowSt w0 wr (.slice Ao m co) va its its (its.map fun p => Sha.sum p.text)) (hl : its.length ≤ 20) (ht : Tabs wr) (hs : CSents wr a) (hr : RdK wr (.slice A2 n2 c2) n2 (cellsP roots)) (hn : n2 = roots.length) (hi : ∀ x ∈ roots, Id32 x) (hf : roots.length ≤ 500) : ClIn wr Ao m co its A2 n2 c2 roots a :=
  ⟨rowst_clt h, fun p hp => by have := (h.tx p hp).2.2; omega, ht, hs, hr, hn, hi, by omega⟩
theorem ClIn.go {w1 w2 : World} {A : Option Addr} {n c : Nat} (h : ClIn w1 A n c its A2 n2 c2 roots a) (hb : Below w1.heap.size w1 w2) : ClIn w2 A n c its A2 n2 c2 roots a :=
  ⟨h.txt.below hb, h.len, h.tab.below hb (Nat.le_refl _), h.sen.at_ hb, h.rk.below hb (Nat.le_refl _), h.rl, h.ri, h.few⟩
end
theorem set_few {objs roots r : List (List Nat)} (hr : Sha.Rising r) (hi : ∀ x ∈ r, Id32 x) (hm : ∀ x, Id32 x → x ∈ r → Cl.Rch objs roots x) (hb : ∀ t ∈ objs, Sha.Byte t) (h1 : roots.length ≤ 500) (h2 : objs.length ≤ 20) : r.length ≤ 1000 := by
  have hp := pool_few (roots := roots) hb
  have h3 := Cl.nodup_le (M := Cl.pool objs roots) (Cl.rising_nodup hr) (fun x hx => Cl.rch_pool (hm x (hi x hx) hx))
  omega
theorem set_few2 {objs r : List (List Nat)} (hr : Sha.Rising r) (hi : ∀ x ∈ r, Id32 x) (hm : ∀ x, Id32 x → x ∈ r → Cl.the objs x = true) (h2 : objs.length ≤ 20) : r.length ≤ 1000 := by
  have h3 := Cl.nodup_le (M := objs.map Sha.sum) (Cl.rising_nodup hr) (fun x hx => by
    have h4 := hm x (hi x hx) hx
    unfold Cl.the at h4
    exact Cl.stk_iff.1 h4)
  rw [List.length_map] at h3
  omega
theorem the_mem {its : List Cl.T} {p : Cl.T} (h : p ∈ its) : Cl.the (its.map (·.text)) (Sha.sum p.text) = true := by
  unfold Cl.the
  exact Cl.stk_has (List.mem_map.2 ⟨p, h, rfl⟩)
theorem the_ids {its : List Cl.T} {x : List Nat} (h : Cl.the (its.map (·.text)) x = true) : x ∈ its.map (fun p : Cl.T => Sha.sum p.text) := by
  unfold Cl.the at h
  have h1 := Cl.stk_iff.1 h
  rw [List.map_map] at h1
  exact h1
theorem nil_of {r : List (List Nat)} (h : ∀ x, x ∈ r → False) : r = [] := by
  cases r with
  | nil => rfl
  | cons x l => exact (h x (List.mem_cons_self ..)).elim
/-- an id out of the row of ids -/
theorem ids_at {w : World} {A : Option Addr} {m c : Nat} {its : List Cl.T} (h : RdK w (.slice A m c) m (cellsP (its.map fun p => Sha.sum p.text))) (hm : m = its.length) {r : Nat} (hr : r < m) : ∃ b o x, A = some ⟨b, o, none⟩ ∧ x ∈ its.map (fun p : Cl.T => Sha.sum p.text) ∧ w.rangeAt b (o + r * 32) (cellsB x) := by
  obtain ⟨A', c', hv, _, hx⟩ := h
  injection hv with e1 e2 e3
  obtain ⟨b, o, ha, _, hx⟩ := hx (by omega)
  have hr2 : r < (its.map fun p => Sha.sum p.text).length := by rw [List.length_map]; omega
  refine ⟨b, o, (its.map fun p => Sha.sum p.text).getD r [], e1.trans ha, by rw [List.getD_eq_getElem?_getD, List.getElem?_eq_getElem hr2]; exact List.getElem_mem hr2, fun j u hu => ?_⟩
  rw [Nat.add_assoc]
  exact hx _ u (cellsP_at (ids_id32 its) hr2 hu)
theorem oid_info25 : (Tryd.prog.info? 37).map (fun i => (i.zero, i.size, i.bytes)) = some (some (.agg (cellsB (List.replicate 32 0)).toArray), 32, 32) := by kernel_rfl
end Go.Proofs.YtlodalppnglclaaDoor
