/- The document's search: the first place of a text in a base. -/
import Derived.Test.YthagldpgibpbdaaDoorDl20
import Derived.Test.YthagldpgibpbdaaDoorDl22
namespace Go.Proofs.YthagldpgibpbdaaDoor
open Go Go.RowKit Go.Shelf
theorem tl_loopD (bs : ByteArray) : ∀ (n i : Nat) (r : List UInt8), bs.size - i = n → ByteArray.toList.loop bs i r = r.reverse ++ bs.data.toList.drop i := by
  intro n
  induction n with
  | zero =>
    intro i r h
    rw [ByteArray.toList.loop]
    have h1 : ¬ i < bs.size := by omega
    rw [if_neg h1, List.drop_eq_nil_of_le (by have : bs.data.toList.length = bs.size := rfl; omega)]; simp
  | succ n ih =>
    intro i r h
    rw [ByteArray.toList.loop]
    have h1 : i < bs.size := by omega
    rw [if_pos h1, ih (i+1) _ (by omega)]
    have h2 : i < bs.data.toList.length := h1
    rw [List.drop_eq_getElem_cons h2, List.reverse_cons, List.append_assoc]
    congr 1
    simp [ByteArray.get!, h1]
theorem bytes_listD (bs : ByteArray) : bs.toList = bs.data.toList := by
  unfold ByteArray.toList
  rw [tl_loopD bs _ 0 [] rfl]; simp
theorem textOf_neD {x y : List Nat} (hx : Sha.Byte x) (hy : Sha.Byte y) (h : x ≠ y) : ¬ (textOf x).toList = (textOf y).toList := fun e => h (by
  rw [bytes_listD, bytes_listD] at e
  have e2 : x.map UInt8.ofNat = y.map UInt8.ofNat := by simpa [textOf] using e
  exact Dl.map_ofNat_inj (Dl.mem_byte hx) (Dl.mem_byte hy) e2)
/-- a text stands at a place of a base -/
def Dl.Occ (base s : List Nat) (i : Nat) : Prop := i + s.length ≤ base.length ∧ (base.drop i).take s.length = s
def FindPost (base s : List Nat) (w : World) (e : Ending) (w' : World) : Prop :=
  (∃ m, w' = w.drewN m) ∧ ((∃ i : Nat, e = .returned (.int .i64 (i : Int)) ∧ i < 1000 ∧ Dl.Occ base s i ∧ ∀ j, j < i → ¬ Dl.Occ base s j) ∨ (e = .returned (.int .i64 (-1)) ∧ ∀ j, ¬ Dl.Occ base s j))
set_option maxRecDepth 100000 in
set_option maxHeartbeats 1000000 in
theorem rfind_any (A A2 : Option Addr) (nb cb k c2 : Nat) (base s : List Nat) (w : World) (hB : Rd w (.slice A nb cb) base) (hS : Rd w (.slice A2 k c2) s) (bb : Sha.Byte base) (bs : Sha.Byte s) (h0 : 0 < k) (hl : nb ≤ 400) (hk : k ≤ 127) :
    Calls Tryd.prog 25 #[.slice A nb cb, .slice A2 k c2] w (FindPost base s w) := by
  have en : nb = base.length := by obtain ⟨_, _, hv, _⟩ := hB; injection hv
  have es : k = s.length := by obtain ⟨_, _, hv, _⟩ := hS; injection hv
  have HB := Lib.hid hB
  have HS := Lib.hid hS
  have HBB := Lib.hid bb
  have HBS := Lib.hid bs
  have HEN := Lib.hid en
  have HES := Lib.hid es
  clear hB hS bb bs en es
  go_enter Tryd.func25, Tryd.ntmps25
  go_wp2
  go_loopw [5] (fun v wr => ∃ i m : Nat, i ≤ nb ∧ v = .int .i64 i ∧ wr = w.drewN m ∧ Hid (∀ j, j < i → ¬ Dl.Occ base s j)) (fun v _ => nb + 1 - (intOf v).toNat)
  case atStart => exact ⟨0, 0, Nat.zero_le _, rfl, rfl, Lib.hid fun j h => absurd h (Nat.not_lt_zero _)⟩
  case round =>
    obtain ⟨i, m, hi, rfl, rfl, HJ⟩ := hrel
    by_cases hin : i + k ≤ nb
    · have g1 : (i : Int) + (k : Int) ≤ (nb : Int) := by omega
      obtain ⟨e0, hc, b, o, rfl, hbw, hx⟩ := HB.out.blk (by rw [← HEN.out]; omega)
      clear e0 hx hbw
      have S1 : ∀ w', (Instr.slice 22 (.slice (some ⟨b, o, none⟩) nb cb) (some (.int .i64 (i : Int))) (some (.int .i64 ((i : Int) + (k : Int)))) none).run Tryd.prog w' = .ok (.slice (some ⟨b, o + i, none⟩) k (cb - i)) w' := fun w' => by
        have h := sl_lohi b o nb cb i (i + k) w' (by omega) (by omega) (by omega) (lo := (i : Int)) (hi := (i : Int) + (k : Int)) rfl (by omega)
        rwa [show i + k - i = k by omega] at h
      have RS : ∀ q, Rd (w.drewN q) (.slice (some ⟨b, o + i, none⟩) k (cb - i)) ((base.drop i).take k) := fun q => by
        have h := (HB.out.below (below_drewN (Below.refl _ w) q) (Nat.le_refl _)).cut (k := i) (by rw [← HEN.out]; omega)
        rw [if_neg (by omega), Option.map_some, Addr.add_mid] at h
        exact h.cutHi (by rw [List.length_drop, ← HEN.out]; omega)
      have RT : ∀ q, Rd (w.drewN q) (.slice A2 k c2) s := fun q => HS.out.below (below_drewN (Below.refl _ w) q) (Nat.le_refl _)
      have q2 : ∀ q, (convert 22 9 (.slice A2 k c2)).run Tryd.prog (w.drewN q) = .ok (.string (textOf s)) (w.drewN q) := fun q => conv_rd (RT q)
      by_cases he : (base.drop i).take k = s
      · have HO : Hid (Dl.Occ base s i) := Lib.hid ⟨by rw [← HES.out, ← HEN.out]; exact hin, by rw [← HES.out]; exact he⟩
        have q1 : ∀ q, (convert 22 9 (.slice (some ⟨b, o + i, none⟩) k (cb - i))).run Tryd.prog (w.drewN q) = .ok (.string (textOf s)) (w.drewN q) := fun q => by rw [← he]; exact conv_rd (RS q)
        generalize textOf s = T at q1 q2
        clear he RS RT
        go_wp2
        go_quiet (fail)
        go_wp2
        go_ret
        exact ⟨⟨_, by simp; rfl⟩, .inl ⟨i, rfl, by omega, HO.out, HJ.out⟩⟩
      · have HO : Hid (∀ j, j < i + 1 → ¬ Dl.Occ base s j) := Lib.hid fun j hj => by
          rcases Nat.lt_or_eq_of_le (Nat.le_of_lt_succ hj) with h | rfl
          · exact HJ.out j h
          · exact fun h => he (by have := h.2; rw [← HES.out] at this; exact this)
        have q1 : ∀ q, (convert 22 9 (.slice (some ⟨b, o + i, none⟩) k (cb - i))).run Tryd.prog (w.drewN q) = .ok (.string (textOf ((base.drop i).take k))) (w.drewN q) := fun q => conv_rd (RS q)
        have hne : ¬ (textOf ((base.drop i).take k)).toList = (textOf s).toList := textOf_neD (Dl.byte_of_mem fun x hx => Dl.mem_byte HBB.out x (List.mem_of_mem_drop (List.mem_of_mem_take hx))) HBS.out he
        generalize textOf ((base.drop i).take k) = T1 at q1 hne
        generalize textOf s = T at q2 hne
        have hne2 : (T1.toList == T.toList) = false := by simpa using hne
        clear he RS RT
        go_wp2
        go_quiet (fail)
        go_wp2
        go_roundw
        case rel => exact ⟨i + 1, m + nq, by omega, by go_num, by simp, HO⟩
        case measure => simp [intOf]; omega
    · have g1 : ¬ (i : Int) + (k : Int) ≤ (nb : Int) := by omega
      have HO : Hid (∀ j, ¬ Dl.Occ base s j) := Lib.hid fun j h => by
        by_cases hj : j < i
        · exact HJ.out j hj h
        · have := h.1; rw [← HES.out, ← HEN.out] at this; omega
      go_wp2
      go_ret
      exact ⟨⟨_, rfl⟩, .inr ⟨rfl, HO.out⟩⟩
end Go.Proofs.YthagldpgibpbdaaDoor
