/- The walks of what NamesSort asks beside Sort: whether a list is long, whether a text is in a list. -/
import Derived.Test.YtnjhipecpdcaoaaDoorNmSort
import Derived.Test.YtnjhipecpdcaoaaDoorNm4
import Derived.WalkLawsBesides
import Derived.SliceStrings
import Derived.OpenShut
import Derived.Laws.AppendOwnNone
namespace Go.Proofs.YtnjhipecpdcaoaaDoor
open Go Go.RowKit
theorem reads_form {n₀ : Nat} {W : World} {v : Value} {zs : List ByteArray} (h : Reads n₀ W v zs) :
    ∃ A c, v = .slice A zs.length c ∧ (0 < zs.length → ∃ b off, A = some ⟨b, off, none⟩ ∧ ∀ j x, zs[j]? = some x → W.cell? ⟨b, off + j, none⟩ = some (.string x)) := by
  rcases h with ⟨A, c, rfl, rfl⟩ | ⟨b, off, cap, rfl, _, hc⟩
  · exact ⟨A, c, rfl, fun h => absurd h (Nat.lt_irrefl 0)⟩
  · exact ⟨_, cap, rfl, fun _ => ⟨b, off, rfl, hc⟩⟩
def SomeBool (w : World) (e : Ending) (w' : World) : Prop := ∃ b : Bool, e = .returned (.bool b) ∧ w = w'
set_option maxHeartbeats 400000 in
theorem long_any (v : Value) (zs : List ByteArray) (n₀ : Nat) (w : World) (h : Reads n₀ w v zs) (hz : zs.length ≤ 9223372036854775807) (hsz : ∀ x ∈ zs, x.size ≤ 9223372036854775807) :
    Calls Tryd.prog 19 #[v, .int .i64 500] w (SomeBool w) := by
  obtain ⟨A, c, rfl, hA⟩ := reads_form h
  have HS := Lib.hid hsz
  clear hsz h
  have HA := Lib.hid hA
  clear hA
  go_enter Tryd.func19, Tryd.ntmps19
  go_wp2
  go_loop [5, 10] (fun t i => ∃ k m : Nat, k ≤ zs.length ∧ m ≤ 500 ∧ t = .int .i64 m ∧ i = .int .i64 k) (fun _ i => zs.length - (intOf i).toNat)
  case atStart => exact ⟨0, 0, Nat.zero_le _, Nat.zero_le _, rfl, rfl⟩
  case round =>
    obtain ⟨k, m, hk, hm, rfl, rfl⟩ := hrel
    by_cases hlt : k < zs.length
    · obtain ⟨b, off, rfl, hc⟩ := HA.out (by omega)
      have hcell := hc k zs[k] (by simp [hlt])
      have hx := HS.out zs[k] (List.getElem_mem hlt)
      clear hc
      generalize zs[k] = x at hcell hx
      by_cases h1 : x.size ≤ 500
      · by_cases h2 : m + (1 + x.size) ≤ 500
        · go_wp2
          go_round
          case rel => exact ⟨k + 1, m + (1 + x.size), by omega, h2, by go_num, by go_num⟩
          case measure => simp [intOf]; omega
        · go_wp2
          go_ret
          exact ⟨true, rfl, rfl⟩
      · go_wp2
        go_ret
        exact ⟨true, rfl, rfl⟩
    · go_wp2
      go_ret
      exact ⟨false, rfl, rfl⟩
def hasB (zs : List ByteArray) (s : ByteArray) : Bool := zs.any fun x => x.toList == s.toList
set_option maxHeartbeats 400000 in
theorem has_any (v : Value) (zs : List ByteArray) (s : ByteArray) (n₀ : Nat) (w : World) (h : Reads n₀ w v zs) (hz : zs.length ≤ 9223372036854775807) (r : Bool) (hr : hasB zs s = r) :
    Calls Tryd.prog 21 #[v, .string s] w fun e w' => e = .returned (.bool r) ∧ w = w' := by
  obtain ⟨A, c, rfl, hA⟩ := reads_form h
  clear h
  have HA := Lib.hid hA
  have HR := Lib.hid hr
  clear hA hr
  go_enter Tryd.func21, Tryd.ntmps21
  go_wp2
  go_loop [9] (fun i => ∃ k : Nat, k ≤ zs.length ∧ i = .int .i64 k ∧ Hid (NoneYet zs (fun x => x.toList == s.toList) k)) (fun i => zs.length - (intOf i).toNat)
  case atStart => exact ⟨0, Nat.zero_le _, rfl, Lib.hid (fun j x hj => absurd hj (Nat.not_lt_zero _))⟩
  case round =>
    obtain ⟨k, hk, rfl, HN⟩ := hrel
    by_cases hlt : k < zs.length
    · obtain ⟨b, off, rfl, hc⟩ := HA.out (by omega)
      have hx : zs[k]? = some zs[k] := by simp [hlt]
      have hcell := hc k _ hx
      have HX := Lib.hid hx
      clear hc hx
      generalize zs[k] = x at hcell HX
      cases hv : (x.toList == s.toList)
      · have H : Hid (NoneYet zs (fun x => x.toList == s.toList) (k + 1)) := Lib.hid (fun j y hj hy => by
          rcases Nat.lt_succ_iff_lt_or_eq.1 hj with h | rfl
          · exact HN.out j y h hy
          · rw [HX.out] at hy; obtain rfl := Option.some.inj hy; exact hv)
        go_wp2
        go_round
        case rel => exact ⟨k + 1, by omega, by go_num, H⟩
        case measure => simp [intOf]; omega
      · have H := Lib.hid (show r = true by rw [← HR.out]; exact any_at HX.out hv)
        go_wp2
        go_ret
        exact ⟨ret_bool H.out.symm, rfl⟩
    · have H := Lib.hid (show r = false by rw [← HR.out]; exact any_none HN.out (by omega))
      go_wp2
      go_ret
      exact ⟨ret_bool H.out.symm, rfl⟩
/-! the argument of a law, opened -/
section
open Go.WideShapes Go.ChangeShapes
variable {H : Type} {enc : TypeId × Value → H} {P : Program} {W : World} {base : Nat} {sp : Nat → Bool} {held : Bool} {t ts : TypeId}
theorem spot_none' {w : World} {b o : Nat} {s : Option Nat} {v : Value} (h : w.cell? ⟨b, o, s⟩ = some v) : s = none := by
  cases s with
  | none => rfl
  | some k =>
    exfalso
    unfold World.cell? at h
    split at h <;> simp_all
/-- A slice of texts that came in: nil, or cells that hold them. -/
theorem open_texts (hs : P.underlying ts = some (.slice t)) (ht : P.underlying t = some .string) (hc1 : P.cellsOf t = 1) {r : Reach} {b0 : Nat} {v : Value} {d : DataW H} {ps : List MemPlace}
    (hval : Value.okWide P W r b0 ts v) (hd : DataW.Trod enc P W base sp held ts v d ps) :
    ∃ zs : List ByteArray, Reads W.heap.size W v zs ∧ (∀ x ∈ zs, x.size ≤ maxLen) ∧ zs.length ≤ maxLen ∧ (v = .slice none 0 0 ∨ ∃ a c, v = .slice (some a) zs.length c ∧ ∀ j x, zs[j]? = some x → W.cell? (a.add j) = some (.string x)) := by
  have hv1 : v.cells.toList = [v] := by
    simp only [Value.okWide, hs] at hval
    cases v <;> first | rfl | (simp [Cell.okWide, hs] at hval; done) | (exfalso; simp_all [Cell.okWide, Cell.ok])
  obtain ⟨fuel, hf⟩ := hd
  rw [hv1] at hf
  rcases open_strings hs ht hc1 hf with ⟨hc, _⟩ | ⟨a, len, cap, ss, hc, _, hlc, hcm, hlen, _, hcell, hsz⟩
  · obtain rfl : v = .slice none 0 0 := by simpa using hc
    exact ⟨[], .inl ⟨none, 0, rfl, rfl⟩, fun x hx => by simp at hx, Nat.zero_le _, .inl rfl⟩
  · obtain rfl : v = .slice (some a) len cap := by simpa using hc
    have hle : len ≤ ss.length := by rw [hlen]; split <;> omega
    have e : (ss.take len).length = len := by rw [List.length_take]; omega
    have hce : ∀ j x, (ss.take len)[j]? = some x → W.cell? (a.add j) = some (.string x) := fun j x hx => by
      have hj : j < len := by have := (List.getElem?_eq_some_iff.1 hx).1; omega
      rw [List.getElem?_take_of_lt hj] at hx
      rw [hcell j (by omega), List.getD_eq_getElem?_getD, hx]; rfl
    refine ⟨ss.take len, ?_, fun x hx => hsz x (List.mem_of_mem_take hx), by omega, .inr ⟨a, cap, by rw [e], hce⟩⟩
    by_cases h0 : len = 0
    · exact .inl ⟨some a, cap, by rw [h0], by rw [h0]; rfl⟩
    · obtain ⟨b, o, s⟩ := a
      have hx0 : (ss.take len)[0]? = some ((ss.take len)[0]'(by omega)) := List.getElem?_eq_getElem _
      have hc0 := hce 0 _ hx0
      rw [show (⟨b, o, s⟩ : Addr).add 0 = ⟨b, o, s⟩ from by simp [Addr.add]] at hc0
      obtain rfl := spot_none' hc0
      refine .inr ⟨b, o, cap, by rw [e], block_lt_of_cell hc0, fun j x hx => ?_⟩
      have := hce j x hx
      rwa [show (⟨b, o, none⟩ : Addr).add j = ⟨b, o + j, none⟩ from by simp [Addr.add]] at this
end
end Go.Proofs.YtnjhipecpdcaoaaDoor
