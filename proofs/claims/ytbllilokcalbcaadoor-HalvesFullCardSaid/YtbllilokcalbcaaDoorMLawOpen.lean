/- Arguments of laws, opened: arrays of bytes, texts. -/
import Derived.Test.YtbllilokcalbcaaDoorMBase
import Derived.Test.YtbllilokcalbcaaDoorMShaMaths
import Derived.ChangeMaps5
import Derived.OpenShut
import Derived.RowKit
import Derived.Carry
namespace Go.Proofs.YtbllilokcalbcaaDoor
open Go Go.RowKit Go.WideShapes Go.ChangeShapes
section
variable {H : Type} {enc : TypeId × Value → H} {P : Program} {W : World} {base : Nat} {sp : Nat → Bool} {held : Bool} {t e : TypeId} {n : Nat}
theorem byte_wf {x : Int} (h : (Lit.int .u8 x).wf = true) : 0 ≤ x ∧ x < 256 := by
  have h1 : IntKind.u8.min = 0 := rfl
  have h2 : IntKind.u8.max = 255 := rfl
  simp only [Lit.wf, Bool.and_eq_true, decide_eq_true_eq] at h
  omega
theorem mapM_u8 (he : P.underlying e = some (.int .u8)) {m c : Nat} {cs : List Value} : ∀ (L : List Nat) (xs : List (DataW H × List MemPlace)),
    L.mapM (fun i => DataW.trod enc P W base sp held m e ((cs.drop (i * c)).take c)) = some xs → ∀ i ∈ L, ∃ a : Nat, a < 256 ∧ (cs.drop (i * c)).take c = [.int .u8 (a : Int)]
  | [], _, _, i, hi => by simp at hi
  | j :: L, xs, h, i, hi => by
    rw [List.mapM_cons] at h
    simp only [bind, Option.bind_eq_some_iff, pure, Option.some.injEq] at h
    obtain ⟨y, hy, ys, hys, rfl⟩ := h
    rcases List.mem_cons.1 hi with rfl | hi
    · obtain ⟨a, ea, rfl, wa⟩ := DataW.trod_int he hy
      have hb := byte_wf wa
      obtain ⟨n, rfl⟩ := Int.eq_ofNat_of_zero_le hb.1
      exact ⟨n, by have := hb.2; omega, ea⟩
    · exact mapM_u8 he L ys hys i hi
theorem open_u8arr (ht : P.underlying t = some (.array n e)) (he : P.underlying e = some (.int .u8)) (h1 : P.cellsOf e = 1) (hn : P.cellsOf t = n) {r : Reach} {b0 : Nat} {v : Value} {d : DataW H} {ps : List MemPlace}
    (hval : Value.okWide P W r b0 t v) (hd : DataW.Trod enc P W base sp held t v d ps) : ∃ xs : List Nat, v = .agg (u8s xs) ∧ xs.length = n ∧ Sha.Byte xs := by
  simp only [Value.okWide, ht] at hval
  obtain ⟨cs, rfl, hcs, _⟩ := hval
  rw [hn] at hcs
  obtain ⟨fuel, hf⟩ := hd
  cases fuel with
  | zero => simp [DataW.trod] at hf
  | succ m =>
    rw [DataW.trod_step] at hf
    unfold DataW.trodStep at hf
    simp only [ht, Value.cells] at hf
    rw [if_pos (by rw [hn]; simpa using hcs)] at hf
    simp only [Option.map_eq_some_iff] at hf
    obtain ⟨ys, hy, _⟩ := hf
    rw [h1] at hy
    have hall := mapM_u8 he _ _ hy
    have hget : ∀ i, i < n → ∃ a : Nat, a < 256 ∧ cs.toList[i]? = some (.int .u8 (a : Int)) := fun i hi => by
      obtain ⟨a, ha, hc⟩ := hall i (List.mem_range.2 hi)
      refine ⟨a, ha, ?_⟩
      have := congrArg (fun l => l[0]?) hc
      simpa [List.getElem?_take, List.getElem?_drop] using this
    let f : Value → Nat := fun v => match v with | .int _ a => a.toNat | _ => 0
    have hz : cs.toList.length = n := by simpa using hcs
    refine ⟨cs.toList.map f, ?_, by rw [List.length_map, hz], ?_⟩
    · have e0 : cs.toList = (cs.toList.map f).map fun (n : Nat) => Value.int .u8 (n : Int) := by
        rw [List.map_map]
        apply List.ext_getElem?
        intro i
        rcases Nat.lt_or_ge i n with hi | hi
        · obtain ⟨a, ha, hc⟩ := hget i hi
          rw [List.getElem?_map, hc]
          simp [f]
        · rw [List.getElem?_eq_none (by omega), List.getElem?_eq_none (by rw [List.length_map]; omega)]
      unfold u8s
      rw [← e0]
    · intro i
      rcases Nat.lt_or_ge i n with hi | hi
      · obtain ⟨a, ha, hc⟩ := hget i hi
        simp [List.getD, List.getElem?_map, hc, f, ha]
      · simp [List.getD, List.getElem?_eq_none (show cs.toList.length ≤ i by omega)]
end
end Go.Proofs.YtbllilokcalbcaaDoor
