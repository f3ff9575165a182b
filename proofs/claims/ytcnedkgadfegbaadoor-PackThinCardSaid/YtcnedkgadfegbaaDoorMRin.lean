/- A region in a round of a loop over an iterator: what is walked outside a fence holds in the round. -/
import Derived.Test.YtcnedkgadfegbaaDoorMHelds
import Derived.Test.YtcnedkgadfegbaaDoorMDl4s
import Derived.RangeFuncCalls
import Derived.OrdersIn
import Derived.TacticsIn
import Derived.StillTailTactics
namespace Go.Proofs.YtcnedkgadfegbaaDoor
open Go Go.RowKit
theorem rowsIn_round {n l : Nat} {P : Program} {row : String} {args : Array Value} {w : World} {R : Value → World → Prop} (h : Rows P row args w R) : RowsIn (Fence.wide.inRound l) n P row args w R :=
  fun c cs _ => let ⟨v, w', r, s⟩ := h c cs; ⟨v, w', r, stepsIn_wide.2 s⟩
theorem callsIn_round {n l : Nat} {P : Program} {f : FuncId} {args : Array Value} {w : World} {R : Ending → World → Prop} (h : Calls P f args w R) : CallsIn (Fence.wide.inRound l) n P f args w R :=
  CallsIn.inRound l (callsIn_wide.2 h)
theorem operIn_round {n l : Nat} {P : Program} {o : Oper} {a : Act} {w : World} {K : Act → World → Prop} {Q : Exit → Act → World → Prop} (hd : ∀ c, o.op ≠ .defer c) (h : o.wp P a w K Q) : o.wpIn (Fence.wide.inRound l) n P a w K Q := by
  unfold Oper.wpIn
  refine ⟨fun _ _ => trivial, ?_⟩
  rw [Fence.inRound_round, Oper.semAt_some l _ _ hd]
  unfold Oper.wp at h
  generalize (execOp a.eval o).run P w = r at h
  cases r with
  | ok x w' =>
    cases x with
    | enter f args => exact ⟨(fun e => by cases e), callsIn_round h⟩
    | row r args => exact ⟨(fun e => by cases e), rowsIn_round h⟩
    | round _ _ _ _ _ => exact h.elim
    | _ => exact h
  | halt x w' => cases x <;> exact h
theorem anyIn_round {n l : Nat} {P : Program} {md : Region.Mode} {ops : Array Oper} {Q : Exit → Act → World → Prop} (hd : ∀ o ∈ ops, ∀ c, o.op ≠ .defer c) (hno : ¬ LetsOut Q) :
    ∀ (fuel : Nat) (listed : Array Bool) (a : Act) (w : World), wpAny P md ops Q fuel listed a w → wpAnyIn (Fence.wide.inRound l) n P md ops Q fuel listed a w
  | 0, _, _, _, h => h
  | fuel + 1, listed, a, w, h => by
    refine ⟨h.1, fun i hi => ?_⟩
    have h1 := h.2 i hi
    unfold wpOp at h1
    unfold wpOpIn
    cases ho : ops[i]? with
    | none =>
      rw [ho] at h1
      exact anyIn_round hd hno fuel _ _ _ h1
    | some o =>
      rw [ho] at h1
      simp only at h1 ⊢
      have hm : o ∈ ops := Array.mem_of_getElem? ho
      split
      · rename_i hw
        rw [if_pos hw] at h1
        rcases h1 with h1 | h1
        · exact Oper.wpIn_mono (fun a w h => anyIn_round hd hno fuel _ a w h) (operIn_round (hd o hm) h1)
        · exact absurd h1.2 hno
      · rename_i hw
        rw [if_neg hw] at h1
        exact ⟨fun _ _ => trivial, anyIn_round hd hno fuel _ _ _ h1⟩
/-- a region that draws its order, in a round: with a condition on the world that the operations keep -/
theorem regionIn_held {n l id : Nat} {P : Program} {ops : Array Oper} {Q : Exit → Act → World → Prop} {S : World → Prop} {a : Act} {w : World} (hm : P.follows .mixedOrders = true) (hd : ∀ o ∈ ops, ∀ c, o.op ≠ .defer c) (hno : ¬ LetsOut Q)
    (h : wpAnyH P .any ops Q S ops.size (Array.replicate ops.size false) a w.drew) : (Code.region id ops true).wpIn (Fence.wide.inRound l) n P Q a w :=
  wpIn_region_any hm (anyIn_round hd hno _ _ _ _ (wpAny_of_held _ _ _ _ h))
theorem regionIn_any {n l id : Nat} {P : Program} {ops : Array Oper} {Q : Exit → Act → World → Prop} {a : Act} {w : World} (hm : P.follows .mixedOrders = true) (hd : ∀ o ∈ ops, ∀ c, o.op ≠ .defer c) (hno : ¬ LetsOut Q)
    (h : wpAny P .any ops Q ops.size (Array.replicate ops.size false) a w.drew) : (Code.region id ops true).wpIn (Fence.wide.inRound l) n P Q a w :=
  wpIn_region_any hm (anyIn_round hd hno _ _ _ _ h)
/-- the same, where the condition is kept up to operation b -/
theorem regionIn_upto {n l id b : Nat} {P : Program} {ops : Array Oper} {Q : Exit → Act → World → Prop} {S : World → Prop} {a : Act} {w : World} (hm : P.follows .mixedOrders = true) (hd : ∀ o ∈ ops, ∀ c, o.op ≠ .defer c) (hno : ¬ LetsOut Q)
    (h : Upto P .any ops Q S b ops.size (Array.replicate ops.size false) a w.drew) : (Code.region id ops true).wpIn (Fence.wide.inRound l) n P Q a w :=
  wpIn_region_any hm (anyIn_round hd hno _ _ _ _ (Upto.any _ _ _ _ h))
/-- the same for reads ahead of a chain of writes: the reads stand still in one world -/
theorem regionIn_still {m l id : Nat} {P : Program} {Q : Exit → Act → World → Prop} {a : Act} {w : World} {os : List Oper} (n : Nat) (hm : P.follows .mixedOrders = true) (hB : Region.lexTailB .any os.toArray n = true) (hd : ∀ o ∈ os, ∀ c, o.op ≠ .defer c) (hno : ¬ LetsOut Q)
    (h : wpStill P os.toArray w.drew (fun a' => wpList P os.toArray Q (os.drop n) a' w.drew) (os.take n) a) : (Code.region id os.toArray true).wpIn (Fence.wide.inRound l) m P Q a w := by
  unfold Region.lexTailB at hB
  simp only [Bool.and_eq_true, decide_eq_true_eq] at hB
  have e1 : os.toArray.size = os.length := List.size_toArray
  have hlen : n < os.length := e1 ▸ hB.1.1.1.2
  have e2 : (os.take n).length = n := by rw [List.length_take]; omega
  have start : HeadInv .any os.toArray n (Array.replicate os.toArray.size false) := {
    size := by simp
    closed := fun j oj _ hl => by rw [getD_replicate_false] at hl; cases hl
    tail := fun t _ ht => by simp [Array.getD] at ht ⊢; exact ht }
  have hl := hB.2
  rw [← e2] at hl
  have H := wpAnyL_lex hB.1.1.1.1 hB.1.1.2 hB.1.2 hB.1.1.1.2 (os.take n) 0 _ a (fun j hj => by rw [List.getElem?_take, if_pos (by omega)]; simp) (by omega) start (by rw [e2] at hl ⊢; exact hl) h
  have fin := wpAny_of_head (Q' := Q) (g := (os.drop n).length) (fun ls a' ⟨hs, hq⟩ => wpAny_of_seq (os.drop n) n ls a' w.drew (fun j => by rw [List.getElem?_drop]; simp) (by rw [List.length_drop, ← e1]; exact hs) hq) _ _ _ H
  rw [e2, List.length_drop, show n + (os.length - n) = os.toArray.size by omega] at fin
  exact wpIn_region_any hm (anyIn_round (fun o ho => hd o (by simpa using ho)) hno _ _ _ _ fin)
theorem listIn_round {n l : Nat} {P : Program} {ops : Array Oper} {o : Oper} {rest : List Oper} {Q : Exit → Act → World → Prop} {a : Act} {w : World} (hg : o.guard = none) (hd : ∀ c, o.op ≠ .defer c)
    (h : o.wp P a w (wpListIn (Fence.wide.inRound l) n P ops Q rest) Q) : wpListIn (Fence.wide.inRound l) n P ops Q (o :: rest) a w := by
  unfold wpListIn
  rw [if_pos (by simp [Region.wanted, hg])]
  exact operIn_round hd h
end Go.Proofs.YtcnedkgadfegbaaDoor
