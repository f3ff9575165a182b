/- The walks of the document's own Parts, and of the comparison of two lists of texts. -/
import Derived.Test.YtnjhipecpdcaoaaDoorNm3
import Derived.Laws.AppendOwn
import Derived.Laws.OwnMore
import Derived.Laws.Concat
import Derived.OwnWalk
namespace Go.Proofs.YtnjhipecpdcaoaaDoor
open Go Go.RowKit
def strs (ps : List (List UInt8)) : List Value := ps.map fun p => Value.string ⟨p.toArray⟩
theorem strs_len (ps : List (List UInt8)) : (strs ps).length = ps.length := by simp [strs]
theorem strs_snoc (acc : List (List UInt8)) (p : List UInt8) : strs (acc ++ [p]) = strs acc ++ [Value.string ⟨p.toArray⟩] := by simp [strs]
theorem strs_at (acc : List (List UInt8)) (p : List UInt8) : (strs (acc ++ [p]))[acc.length]? = some (Value.string ⟨p.toArray⟩) := by
  rw [strs_snoc, List.getElem?_append_right (by rw [strs_len]; exact Nat.le_refl _), strs_len, Nat.sub_self]; rfl
theorem strs_set (acc : List (List UInt8)) (p q : List UInt8) : (strs (acc ++ [p])).set acc.length (Value.string ⟨q.toArray⟩) = strs (acc ++ [q]) := by
  rw [strs_snoc, strs_snoc, List.set_append_right _ _ (by rw [strs_len]; exact Nat.le_refl _), strs_len, Nat.sub_self]; rfl
theorem take_snoc (s : ByteArray) (k : Nat) (h : k < s.size) : s.data.toList.take (k + 1) = s.data.toList.take k ++ [s[k]] := by
  rw [List.take_succ_eq_append_getElem (by simpa using h)]; rfl
theorem extract_one (s : ByteArray) (k : Nat) (h : k < s.size) (p : List UInt8) : (⟨p.toArray⟩ : ByteArray) ++ s.extract k (k + 1) = ⟨(p ++ [s[k]]).toArray⟩ := by
  apply ByteArray.ext
  apply Array.ext'
  rw [ByteArray.data_append, Array.toList_append, Lib.extract_data]
  simp
  rw [List.take_one, List.head?_drop, List.getElem?_eq_getElem (by simpa using h)]
  rfl
theorem str_info : (Tryd.prog.info? 9).map (fun i => (i.zero, i.size, i.bytes)) = some (some (.string ⟨#[]⟩), 1, 16) := by kernel_rfl
/-- The call's own list of texts. -/
def Owns (w0 w : World) (v : Value) (ps : List (List UInt8)) : Prop := w.ownsRow w0.heap.size 9 1 v ps.length (strs ps) ∧ Below w0.heap.size w0 w
/-- A list of texts as an answer. -/
def GivesRow (w : World) (zs : List ByteArray) (e : Ending) (w' : World) : Prop := ∃ g cap, e = .returned (.slice (some ⟨g, 0, none⟩) zs.length cap) ∧ Row w' g 0 zs ∧ Below w.heap.size w w'
theorem owns_form {w0 w : World} {v : Value} {acc : List (List UInt8)} {p : List UInt8} (h : Owns w0 w v (acc ++ [p])) : ∃ g cap, v = .slice (some ⟨g, 0, none⟩) (acc.length + 1) cap ∧ w0.heap.size ≤ g ∧ w.ownsRow w0.heap.size 9 1 (.slice (some ⟨g, 0, none⟩) (acc.length + 1) cap) (acc.length + 1) (strs (acc ++ [p])) := by
  obtain ⟨⟨hl, hr⟩, hb⟩ := h
  rcases hr with ⟨_, h0⟩ | ⟨g, cap, cur, rfl, hg, rest⟩
  · simp at h0
  · rw [List.length_append] at *
    exact ⟨g, cap, rfl, hg, hl, Or.inr ⟨g, cap, cur, rfl, hg, rest⟩⟩
set_option maxHeartbeats 1000000 in
theorem rparts_any (s : ByteArray) (w : World) (hs : s.size ≤ 1000) :
    Calls Tryd.prog 14 #[.string s] w (GivesRow w (Nm.cut s)) := by
  obtain ⟨i0, hi0, hiz, his, hib⟩ := info_parts str_info
  go_enter Tryd.func14, Tryd.ntmps14
  go_wp2
  go_loopw [3, 4] (fun v i wr => ∃ k : Nat, k ≤ s.size ∧ i = .int .i64 k ∧ Hid (Owns w wr v (Nm.parts (s.data.toList.take k)))) (fun _ i _ => s.size - (intOf i).toNat)
  case atStart =>
    refine ⟨0, Nat.zero_le _, rfl, Lib.hid ⟨⟨rfl, Or.inr ⟨w.heap.size, 1, #[.string ⟨#[]⟩], rfl, Nat.le_refl _, ?_, Nat.le_refl _, by decide, rfl, rfl⟩⟩, (Below.refl _ _).alloc (Nat.le_refl _) _⟩⟩
    exact heap_alloc_new w _
  case round =>
    obtain ⟨k, hk, rfl, HO⟩ := hrel
    by_cases hlt : k < s.size
    · obtain ⟨acc, p, hp, hpl, hal⟩ := Nm.parts_last (s.data.toList.take k)
      rw [List.length_take] at hpl hal
      have hpl : p.length ≤ k := by omega
      have hal : acc.length ≤ k := by omega
      rw [hp] at HO
      obtain ⟨g, cap, rfl, hg, hown⟩ := owns_form HO.out
      have HG := Lib.hid hg
      have HW := Lib.hid hown
      have hcell := (hown.cellAt acc.length (by omega)).trans (strs_at acc p)
      have hfr := hown.frozenAt acc.length
      clear hg hown
      by_cases hc : (s[k].toNat : Int) = 47
      · have H := Lib.hid (show Nm.parts (s.data.toList.take (k + 1)) = acc ++ [p] ++ [[]] by
          rw [take_snoc s k hlt, Nm.parts_snoc, hp, show s[k] = 47 from UInt8.toNat_inj.1 (Int.ofNat_inj.1 hc), Nm.grow_slash])
        clear hp
        have hB1 : Below w.heap.size w (wr.alloc (.cells #[.string ⟨#[]⟩] 9)) := HO.out.2.alloc HO.out.2.size _
        have HB1 := Lib.hid hB1
        clear hB1 hcell hfr
        go_wp2_with (at_builtin; go_loud (refine wpList_append_own _ rfl (.tmp 16) (.tmp 17) 25 rfl w.heap.size 9 i0 (.string ⟨#[]⟩) 1 16 Tryd.underlying25 hi0 hiz his hib rfl (by decide) _ (acc.length + 1) _ rfl (HW.out.alloc _) ⟨wr.heap.size, 0, none⟩ 1 1 [.string ⟨#[]⟩] rfl rfl ?c1 ?c2 ?c3 ?c4 ?c5 ?_))
        case c1 => intro j u hj; rcases j with _ | j <;> simp at hj; subst hj; simp [Addr.add]
        case c2 => intro u hu; simp at hu; subst hu; rfl
        case c3 => unfold maxLen; omega
        case c4 => omega
        case c5 => exact HB1.out.size
        intro v' w1 hown1 hgrow1 _
        have HO1 : Hid (Owns w w1 v' (acc ++ [p] ++ [[]])) := Lib.hid ⟨by
          have e : (acc ++ [p] ++ [[]] : List (List UInt8)).length = acc.length + 1 + 1 := by simp
          rw [e, strs_snoc]; exact hown1, HB1.out.grown hgrow1 HB1.out.size (fun j e => by cases e; exact HG.out)⟩
        clear hown1 hgrow1
        go_wp2
        go_roundw
        case rel => exact ⟨k + 1, by omega, by go_num, by rw [H.out]; exact HO1⟩
        case measure => simp [intOf]; omega
      · have H := Lib.hid (show Nm.parts (s.data.toList.take (k + 1)) = acc ++ [p ++ [s[k]]] by
          rw [take_snoc s k hlt, Nm.parts_snoc, hp, Nm.grow_else _ _ _ (fun e => hc (by rw [e]; rfl))])
        clear hp
        have W1 : IntKind.i64.wrap ((acc.length : Nat) : Int) = acc.length := IntWalk.i64_in _ (by omega)
        have W2 : IntKind.i64.wrap (((k : Nat) : Int) + 1) = k + 1 := IntWalk.i64_in _ (by omega)
        have W3 : ((k : Nat) : Int) + 1 ≤ s.size := by omega
        have W4 : ((acc.length : Nat) : Int) < acc.length + 1 := by omega
        have W5 : ∀ w', (Instr.slice 9 (.string s) (some (.int .i64 ((k : Nat) : Int))) (some (.int .i64 (((k : Nat) : Int) + 1))) none).run Tryd.prog w' = .ok (.string (s.extract k (k + 1))) w' := fun w' => by
          rw [run_slice_string _ _ _ _ _ _ _ (by kernel_rfl) (by omega) (by omega) W3]; rfl
        have W6 : ∀ w', (Op.stringOp .add ⟨p.toArray⟩ (s.extract k (k + 1))).run Tryd.prog w' = .ok (.string ⟨(p ++ [s[k]]).toArray⟩) w' := fun w' => by
          rw [run_string_add_sum w' _ _ (by have e : (⟨p.toArray⟩ : ByteArray).size = p.length := by simp [ByteArray.size]
                                            rw [e, ByteArray.size_extract]; omega), extract_one s k hlt p]
        go_wp2
        refine wp_region_still_tail 13 (by kernel_rfl) (by kernel_rfl) ?_
        change wpStill _ _ wr.drew _ _ _
        dsimp only [List.take, List.drop]
        repeat still_step
        refine wpStill_nil ?_
        change wpList _ _ _ _ _ wr.drew
        have HO1 : Hid (Owns w (wr.drew.setCell ⟨g, acc.length, none⟩ (.string ⟨(p ++ [s[k]]).toArray⟩)) (.slice (some ⟨g, 0, none⟩) (acc.length + 1) cap) (acc ++ [p ++ [s[k]]])) := Lib.hid ⟨by
          have e : (acc ++ [p ++ [s[k]]] : List (List UInt8)).length = acc.length + 1 := by simp
          rw [e, ← strs_set acc p (p ++ [s[k]])]
          exact (HW.out.drew.stored acc.length _).1, HO.out.2.drew.setCell HG.out _⟩
        go_wp2
        go_roundw
        case rel => exact ⟨k + 1, by omega, by go_num, by rw [H.out]; exact HO1⟩
        case measure => simp [intOf]; omega
    · have e : s.data.toList.take k = s.data.toList := List.take_of_length_le (by rw [len_list]; omega)
      rw [e] at HO
      clear e
      obtain ⟨acc, p, hp, _, _⟩ := Nm.parts_last s.data.toList
      have hz : Nm.cut s = (acc ++ [p]).map fun p => ⟨p.toArray⟩ := by rw [Nm.cut_eq, hp]
      rw [hp] at HO
      obtain ⟨g, cap, rfl, _, hown⟩ := owns_form HO.out
      have H : Hid (GivesRow w (Nm.cut s) (.returned (.slice (some ⟨g, 0, none⟩) (acc.length + 1) cap)) wr) := Lib.hid (by
        rw [hz]
        have e1 : ((acc ++ [p]).map fun p => (⟨p.toArray⟩ : ByteArray)).length = acc.length + 1 := by simp
        refine ⟨g, cap, by rw [e1], ⟨?_, fun j x hx => ?_⟩, HO.out.2⟩
        · obtain ⟨_, hr⟩ := hown
          rcases hr with ⟨h, _⟩ | ⟨g', c', cur, he, _, hh, _⟩
          · cases h
          · cases he; exact (Array.getElem?_eq_some_iff.1 hh).1
        · have hj : j < acc.length + 1 := by have := (List.getElem?_eq_some_iff.1 hx).1; rwa [e1] at this
          rw [Nat.zero_add, hown.cellAt j (by omega)]
          unfold strs
          rw [List.getElem?_map] at hx ⊢
          cases hq : (acc ++ [p])[j]? with
          | none => rw [hq] at hx; cases hx
          | some q => rw [hq] at hx; cases hx; rfl)
      clear hown hz hp
      go_wp2
      go_ret
      exact H.out
theorem idx_row {w : World} {b : Nat} {zs : List ByteArray} (h : Row w b 0 zs) {k : Nat} (hk : k < zs.length) : w.cell? ⟨b, k, none⟩ = some (.string zs[k]) := by
  have := h.2 k zs[k] (by simp [hk])
  rwa [Nat.zero_add] at this
theorem Row.drewN {w : World} {b off : Nat} {zs : List ByteArray} (h : Row w b off zs) (n : Nat) : Row (w.drewN n) b off zs := h
set_option maxHeartbeats 400000 in
theorem sameTexts_any (g1 c1 g2 c2 : Nat) (zs : List ByteArray) (w : World) (h1 : Row w g1 0 zs) (h2 : Row w g2 0 zs) (hz : zs.length ≤ 1000) :
    Calls Tryd.prog 12 #[.slice (some ⟨g1, 0, none⟩) zs.length c1, .slice (some ⟨g2, 0, none⟩) zs.length c2] w fun e w' => e = .returned (.bool true) ∧ Below w.heap.size w w' := by
  go_enter Tryd.func12, Tryd.ntmps12
  go_wp2
  go_loopw [13] (fun i wr => ∃ k n : Nat, k ≤ zs.length ∧ i = .int .i64 k ∧ wr = w.drewN n) (fun i _ => zs.length - (intOf i).toNat)
  case atStart => exact ⟨0, 0, Nat.zero_le _, rfl, rfl⟩
  case round =>
    obtain ⟨k, n, hk, rfl, rfl⟩ := hrel
    by_cases hlt : k < zs.length
    · have p1 := idx_row h1 hlt
      have p2 := idx_row h2 hlt
      generalize zs[k] = x at p1 p2
      have i0 : ((k : Nat) : Int) < zs.length := by omega
      have i1 : (0 : Int) ≤ ((k : Nat) : Int) := by omega
      go_wp2
      go_quiet (fail)
      go_wp2
      go_roundw
      case rel => exact ⟨k + 1, n + nq, by omega, by go_num, by simp⟩
      case measure => simp [intOf]; omega
    · go_wp2
      go_ret
      exact ⟨rfl, below_drewN (Below.refl _ _) n⟩
end Go.Proofs.YtnjhipecpdcaoaaDoor
