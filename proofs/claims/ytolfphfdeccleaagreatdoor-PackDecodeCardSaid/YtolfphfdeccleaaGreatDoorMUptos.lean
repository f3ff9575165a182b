/- Rows for a region whose stores come behind all its loads: what is held on the world is held up to the first store only. -/
import Derived.Test.YtolfphfdeccleaaGreatDoorMHelds
import Derived.OrdersHeld
import Derived.RangeFuncCalls
import Derived.OrdersIn
import Derived.TacticsIn
import Derived.StillTailTactics
namespace Go.Proofs.YtolfphfdeccleaaGreatDoor
open Go Go.RowKit
section
variable {P : Program} {ops : Array Oper} {Q : Exit → Act → World → Prop} {md : Region.Mode} {S : World → Prop} {b : Nat}
/-- whatever order is picked; up to operation b the worlds meet S -/
def Upto (P : Program) (md : Region.Mode) (ops : Array Oper) (Q : Exit → Act → World → Prop) (S : World → Prop) (b : Nat) : Nat → Array Bool → Act → World → Prop
  | 0, ls, a, w => Region.ready md ops ls = [] ∧ Q .normal a w
  | n + 1, ls, a, w => (Region.ready md ops ls = [] → Q .normal a w) ∧ ∀ j ∈ Region.ready md ops ls, wpOp P ops Q j (fun a' w' => (j ≠ b → ls.getD b true = false → S w') ∧ Upto P md ops Q S b n (ls.setIfInBounds j true) a' w') a w
theorem Upto.any : ∀ (n : Nat) (ls : Array Bool) (a : Act) (w : World), Upto P md ops Q S b n ls a w → wpAny P md ops Q n ls a w
  | 0, _, _, _, h => h
  | n + 1, _, _, _, h => ⟨h.1, fun j hj => wpOp_mono (fun a' w' k => Upto.any n _ a' w' k.2) (h.2 j hj)⟩
def waits (md : Region.Mode) (ops : Array Oper) (b i : Nat) : Bool := match ops[b]? with
  | some o => o.after.any fun e => Region.binds md e && e.on == i
  | none => false
theorem not_b {ls : Array Bool} {i j : Nat} (hw : waits md ops b i = true) (hi : i ∈ Region.ready md ops ls) (hj : j ∈ Region.ready md ops ls) : j ≠ b := fun e => by
  subst e
  obtain ⟨_, o, ho, hall⟩ := mem_ready.1 hj
  unfold waits at hw
  rw [ho] at hw
  obtain ⟨k, hk, hke⟩ := Array.any_eq_true.1 hw
  simp at hke
  have h1 := hall _ (Array.getElem_mem hk) hke.1
  have h0 := (mem_ready.1 hi).1
  rw [hke.2] at h1
  rcases Nat.lt_or_ge i ls.size with h' | h'
  · simp [h'] at h0 h1; rw [h0] at h1; cases h1
  · simp [Array.getElem?_eq_none h'] at h1
theorem Upto.first {i : Nat} {oi : Oper} {v : Value} (hi : ops[i]? = some oi) (hsel : ∀ (j : Nat) (o : Oper) cs b, ops[j]? = some o → o.op ≠ .select cs b)
    (hQ : ∀ c a w, Q (.panic c) (a.put oi.dst v) w → Q (.panic c) a w) (hw : waits md ops b i = true) (hib : i ≠ b) :
    ∀ (n : Nat) (ls : Array Bool) (a : Act) (w : World), ls.getD b true = false →
      (∀ j oj, ops[j]? = some oj → j ≠ i → ls.getD j true = false → (∀ e ∈ oj.after, Region.binds md e = true → e.on ≠ i) → oi.apart ops oj = true) →
      i ∈ Region.ready md ops ls → YieldsIf P ops S oi v a → S w → Upto P md ops Q S b n (ls.setIfInBounds i true) (a.put oi.dst v) w → Upto P md ops Q S b (n + 1) ls a w := by
  intro n
  induction n with
  | zero =>
    intro ls a w _ _ hr hy hS H
    refine ⟨fun h => (by rw [h] at hr; cases hr), fun j hj => ?_⟩
    by_cases hji : j = i
    · subst hji; exact hy.wpOp hi hS ⟨fun _ _ => hS, H⟩
    · have := ready_mono hj hji
      rw [H.1] at this
      cases this
  | succ n ih =>
    intro ls a w hlb hfree hr hy hS H
    refine ⟨fun h => (by rw [h] at hr; cases hr), fun j hj => ?_⟩
    by_cases hji : j = i
    · subst hji; exact hy.wpOp hi hS ⟨fun _ _ => hS, H⟩
    · have hjb := not_b hw hr hj
      have h1 := H.2 j (ready_mono hj hji)
      obtain ⟨hun, oj, hoj, hall⟩ := mem_ready.1 hj
      have hno : ∀ e ∈ oj.after, Region.binds md e = true → e.on ≠ i := fun e he hb heq => by
        have h1 := hall e he hb
        have h0 := (mem_ready.1 hr).1
        rw [heq] at h1
        rcases Nat.lt_or_ge i ls.size with h' | h'
        · simp [h'] at h0 h1; rw [h0] at h1; cases h1
        · simp [Array.getElem?_eq_none h'] at h1
      have h2 := wpOp_putIf hoj (hfree j oj hoj hji hun hno) (fun cs b => hsel i oi cs b hi) (fun cs b => hsel j oj cs b hoj) hQ hy h1
      refine wpOp_mono (fun a' w' h3 => ?_) h2
      have hb1 : (ls.setIfInBounds i true).getD b true = false := by rw [getD_set_ne true hib]; exact hlb
      have hS' := h3.2.1 hjb hb1
      refine ⟨fun _ _ => hS', ih (ls.setIfInBounds j true) a' w' (by rw [getD_set_ne true hjb]; exact hlb) (fun k ok hk hki hku hkn => hfree k ok hk hki (by
        by_cases hjk : j = k
        · subst hjk; exact hun
        · rwa [getD_set_ne true hjk] at hku) hkn) (ready_mono hr (Ne.symm hji)) h3.1 hS' ?_⟩
      rw [Array.setIfInBounds_comm _ _ hji]
      exact h3.2.2
theorem Upto.take {i : Nat} {oi : Oper} {v : Value} {n : Nat} {ls : Array Bool} {a : Act} {w : World} (hi : ops[i]? = some oi) (hs : Region.noSelect ops = true) (hf : Region.free md ops ls i = true) (hr : (Region.ready md ops ls).contains i = true)
    (hb : (ls.getD b true == false && waits md ops b i && i != b) = true) (hQ : ∀ c a w, Q (.panic c) (a.put oi.dst v) w → Q (.panic c) a w) (hy : YieldsIf P ops S oi v a) (hS : S w) (h : Upto P md ops Q S b n (ls.setIfInBounds i true) (a.put oi.dst v) w) : Upto P md ops Q S b (n + 1) ls a w := by
  simp at hb
  exact Upto.first hi (Region.noSelect_spec hs) hQ hb.1.2 hb.2 n ls a w (by simpa using hb.1.1) (Region.free_spec hi hf) (by simpa using hr) hy hS h
/-- what hangs on no world at all may be taken first wherever it stands -/
theorem Upto.firstY {i : Nat} {oi : Oper} {v : Value} (hi : ops[i]? = some oi) (hsel : ∀ (j : Nat) (o : Oper) cs b, ops[j]? = some o → o.op ≠ .select cs b)
    (hQ : ∀ c a w, Q (.panic c) (a.put oi.dst v) w → Q (.panic c) a w) (hib : i ≠ b) :
    ∀ (n : Nat) (ls : Array Bool) (a : Act) (w : World), (ls.getD b true = false → S w) →
      (∀ j oj, ops[j]? = some oj → j ≠ i → ls.getD j true = false → (∀ e ∈ oj.after, Region.binds md e = true → e.on ≠ i) → oi.apart ops oj = true) →
      i ∈ Region.ready md ops ls → YieldsIf P ops (fun _ => True) oi v a → Upto P md ops Q S b n (ls.setIfInBounds i true) (a.put oi.dst v) w → Upto P md ops Q S b (n + 1) ls a w := by
  intro n
  induction n with
  | zero =>
    intro ls a w hlb _ hr hy H
    refine ⟨fun h => (by rw [h] at hr; cases hr), fun j hj => ?_⟩
    by_cases hji : j = i
    · subst hji; exact hy.wpOp hi trivial ⟨fun _ => hlb, H⟩
    · have := ready_mono hj hji
      rw [H.1] at this
      cases this
  | succ n ih =>
    intro ls a w hlb hfree hr hy H
    refine ⟨fun h => (by rw [h] at hr; cases hr), fun j hj => ?_⟩
    by_cases hji : j = i
    · subst hji; exact hy.wpOp hi trivial ⟨fun _ => hlb, H⟩
    · have h1 := H.2 j (ready_mono hj hji)
      obtain ⟨hun, oj, hoj, hall⟩ := mem_ready.1 hj
      have hno : ∀ e ∈ oj.after, Region.binds md e = true → e.on ≠ i := fun e he hb heq => by
        have h1 := hall e he hb
        have h0 := (mem_ready.1 hr).1
        rw [heq] at h1
        rcases Nat.lt_or_ge i ls.size with h' | h'
        · simp [h'] at h0 h1; rw [h0] at h1; cases h1
        · simp [Array.getElem?_eq_none h'] at h1
      have h2 := wpOp_putIf hoj (hfree j oj hoj hji hun hno) (fun cs b => hsel i oi cs b hi) (fun cs b => hsel j oj cs b hoj) hQ hy h1
      refine wpOp_mono (fun a' w' h3 => ?_) h2
      have hS' : j ≠ b → ls.getD b true = false → S w' := fun hjb hl => h3.2.1 hjb (by rw [getD_set_ne true hib]; exact hl)
      refine ⟨hS', ih (ls.setIfInBounds j true) a' w' (fun hl => ?_) (fun k ok hk hki hku hkn => hfree k ok hk hki (by
        by_cases hjk : j = k
        · subst hjk; exact hun
        · rwa [getD_set_ne true hjk] at hku) hkn) (ready_mono hr (Ne.symm hji)) h3.1 ?_⟩
      · by_cases hjb : j = b
        · subst hjb
          rcases Nat.lt_or_ge j ls.size with h' | h'
          · simp [h'] at hl
          · simp [Array.getElem?_eq_none h'] at hun
        · exact hS' hjb (by rwa [getD_set_ne true hjb] at hl)
      · rw [Array.setIfInBounds_comm _ _ hji]
        exact h3.2.2
theorem Upto.takeY {i : Nat} {oi : Oper} {v : Value} {n : Nat} {ls : Array Bool} {a : Act} {w : World} (hi : ops[i]? = some oi) (hs : Region.noSelect ops = true) (hf : Region.free md ops ls i = true) (hr : (Region.ready md ops ls).contains i = true)
    (hb : (i != b) = true) (hQ : ∀ c a w, Q (.panic c) (a.put oi.dst v) w → Q (.panic c) a w) (hy : YieldsIf P ops (fun _ => True) oi v a) (hS : ls.getD b true = false → S w) (h : Upto P md ops Q S b n (ls.setIfInBounds i true) (a.put oi.dst v) w) : Upto P md ops Q S b (n + 1) ls a w := by
  simp at hb
  exact Upto.firstY hi (Region.noSelect_spec hs) hQ hb n ls a w hS (Region.free_spec hi hf) (by simpa using hr) hy h
theorem Upto.one {i : Nat} {oi : Oper} {n : Nat} {ls : Array Bool} {a : Act} {w : World} (hr : Region.ready md ops ls = [i]) (hi : ops[i]? = some oi) (wi : Region.wanted oi (yielded ops a.tmps) = true)
    (h1 : ∀ K : Act → World → Prop, (∀ a' w', (i ≠ b → ls.getD b true = false → S w') → Upto P md ops Q S b n (ls.setIfInBounds i true) a' w' → K a' w') → oi.wp P a w K Q) : Upto P md ops Q S b (n + 1) ls a w := by
  refine ⟨fun h0 => by rw [hr] at h0; simp at h0, fun k hk => ?_⟩
  rw [hr] at hk
  obtain rfl := List.mem_singleton.1 hk
  unfold wpOp
  simp only [hi, wi, if_true]
  exact Or.inl (h1 (fun a' w' => (k ≠ b → ls.getD b true = false → S w') ∧ Upto P md ops Q S b n (ls.setIfInBounds k true) a' w') fun _ _ hs hh => ⟨hs, hh⟩)
theorem Upto.done {ls : Array Bool} {a : Act} {w : World} (hr : Region.ready md ops ls = []) (h : Q .normal a w) : ∀ n, Upto P md ops Q S b n ls a w
  | 0 => ⟨hr, h⟩
  | _ + 1 => ⟨fun _ => h, by rw [hr]; simp⟩
theorem wp_region_upto {id : Nat} {a : Act} {w : World} (hm : P.follows .mixedOrders = true)
    (h : Upto P .any ops Q S b ops.size (Array.replicate ops.size false) a { w with drawn := w.drawn + 1 }) : (Code.region id ops true).wp P Q a w :=
  wp_region_any hm (Upto.any _ _ _ _ h)
end
end Go.Proofs.YtolfphfdeccleaaGreatDoor
/- A region in a round of a loop over an iterator: what is walked outside a fence holds in the round. -/
namespace Go.Proofs.YtolfphfdeccleaaGreatDoor
open Go Go.RowKit
theorem rowsIn_round {n l : Nat} {P : Program} {row : String} {args : Array Value} {w : World} {R : Value → World → Prop} (h : Rows P row args w R) : RowsIn (Fence.wide.inRound l) n P row args w R :=
  fun c cs _ => let ⟨v, w', r, s⟩ := h c cs; ⟨v, w', r, stepsIn_wide.2 s⟩
theorem callsIn_round {n l : Nat} {P : Program} {f : FuncId} {args : Array Value} {w : World} {R : Ending → World → Prop} (h : Calls P f args w R) : CallsIn (Fence.wide.inRound l) n P f args w R :=
  CallsIn.inRound l (callsIn_wide.2 h)
theorem operIn_round {n l : Nat} {P : Program} {o : Oper} {a : Act} {w : World} {K : Act → World → Prop} {Q : Exit → Act → World → Prop} (hd : ∀ c, o.op ≠ .defer c) (h : o.wp P a w K Q) : o.wpIn (Fence.wide.inRound l) n P a w K Q := by
  unfold Oper.wpIn
  refine ⟨fun _ _ => trivial, ?_⟩
  rw [Fence.inRound_round, Oper.semAt_some l _ _ hd]
  unfold Oper.wp at h
  generalize (execOp a.eval o).run P w = r at h
  cases r with
  | ok x w' =>
    cases x with
    | enter f args => exact ⟨(fun e => by cases e), callsIn_round h⟩
    | row r args => exact ⟨(fun e => by cases e), rowsIn_round h⟩
    | round _ _ _ _ _ => exact h.elim
    | _ => exact h
  | halt x w' => cases x <;> exact h
theorem anyIn_round {n l : Nat} {P : Program} {md : Region.Mode} {ops : Array Oper} {Q : Exit → Act → World → Prop} (hd : ∀ o ∈ ops, ∀ c, o.op ≠ .defer c) (hno : ¬ LetsOut Q) :
    ∀ (fuel : Nat) (listed : Array Bool) (a : Act) (w : World), wpAny P md ops Q fuel listed a w → wpAnyIn (Fence.wide.inRound l) n P md ops Q fuel listed a w
  | 0, _, _, _, h => h
  | fuel + 1, listed, a, w, h => by
    refine ⟨h.1, fun i hi => ?_⟩
    have h1 := h.2 i hi
    unfold wpOp at h1
    unfold wpOpIn
    cases ho : ops[i]? with
    | none =>
      rw [ho] at h1
      exact anyIn_round hd hno fuel _ _ _ h1
    | some o =>
      rw [ho] at h1
      simp only at h1 ⊢
      have hm : o ∈ ops := Array.mem_of_getElem? ho
      split
      · rename_i hw
        rw [if_pos hw] at h1
        rcases h1 with h1 | h1
        · exact Oper.wpIn_mono (fun a w h => anyIn_round hd hno fuel _ a w h) (operIn_round (hd o hm) h1)
        · exact absurd h1.2 hno
      · rename_i hw
        rw [if_neg hw] at h1
        exact ⟨fun _ _ => trivial, anyIn_round hd hno fuel _ _ _ h1⟩
/-- the same for reads ahead of a chain of writes: the reads stand still in one world -/
theorem regionIn_still {m l id : Nat} {P : Program} {Q : Exit → Act → World → Prop} {a : Act} {w : World} {os : List Oper} (n : Nat) (hm : P.follows .mixedOrders = true) (hB : Region.lexTailB .any os.toArray n = true) (hd : ∀ o ∈ os, ∀ c, o.op ≠ .defer c) (hno : ¬ LetsOut Q)
    (h : wpStill P os.toArray w.drew (fun a' => wpList P os.toArray Q (os.drop n) a' w.drew) (os.take n) a) : (Code.region id os.toArray true).wpIn (Fence.wide.inRound l) m P Q a w := by
  unfold Region.lexTailB at hB
  simp only [Bool.and_eq_true, decide_eq_true_eq] at hB
  have e1 : os.toArray.size = os.length := List.size_toArray
  have hlen : n < os.length := e1 ▸ hB.1.1.1.2
  have e2 : (os.take n).length = n := by rw [List.length_take]; omega
  have start : HeadInv .any os.toArray n (Array.replicate os.toArray.size false) := {
    size := by simp
    closed := fun j oj _ hl => by rw [getD_replicate_false] at hl; cases hl
    tail := fun t _ ht => by simp [Array.getD] at ht ⊢; exact ht }
  have hl := hB.2
  rw [← e2] at hl
  have H := wpAnyL_lex hB.1.1.1.1 hB.1.1.2 hB.1.2 hB.1.1.1.2 (os.take n) 0 _ a (fun j hj => by rw [List.getElem?_take, if_pos (by omega)]; simp) (by omega) start (by rw [e2] at hl ⊢; exact hl) h
  have fin := wpAny_of_head (Q' := Q) (g := (os.drop n).length) (fun ls a' ⟨hs, hq⟩ => wpAny_of_seq (os.drop n) n ls a' w.drew (fun j => by rw [List.getElem?_drop]; simp) (by rw [List.length_drop, ← e1]; exact hs) hq) _ _ _ H
  rw [e2, List.length_drop, show n + (os.length - n) = os.toArray.size by omega] at fin
  exact wpIn_region_any hm (anyIn_round (fun o ho => hd o (by simpa using ho)) hno _ _ _ _ fin)
theorem listIn_round {n l : Nat} {P : Program} {ops : Array Oper} {o : Oper} {rest : List Oper} {Q : Exit → Act → World → Prop} {a : Act} {w : World} (hg : o.guard = none) (hd : ∀ c, o.op ≠ .defer c)
    (h : o.wp P a w (wpListIn (Fence.wide.inRound l) n P ops Q rest) Q) : wpListIn (Fence.wide.inRound l) n P ops Q (o :: rest) a w := by
  unfold wpListIn
  rw [if_pos (by simp [Region.wanted, hg])]
  exact operIn_round hd h
end Go.Proofs.YtolfphfdeccleaaGreatDoor
