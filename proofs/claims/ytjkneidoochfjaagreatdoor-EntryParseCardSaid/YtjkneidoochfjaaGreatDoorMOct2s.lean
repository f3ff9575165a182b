/- Layer 2's numbers as bytes: octets.putNumber, and the document's own Num. -/
import Derived.Test.YtjkneidoochfjaaGreatDoorMEn4s
import Derived.Test.YtjkneidoochfjaaGreatDoorMShaMsgMaths
import Derived.Laws.AppendOwn
namespace Go.Proofs.YtjkneidoochfjaaGreatDoor
open Go Go.RowKit
namespace Oc
/-- n's bytes, the greatest first. -/
def nums (s n : Nat) : List Nat := (List.range s).map fun i => n / 2^(8 * (s - 1 - i)) % 256
theorem nums_len (s n : Nat) : (nums s n).length = s := by simp [nums]
theorem nums_succ {s n m : Nat} (h : m < s) : (nums s n).take m ++ [n / 2^(8 * (s - 1 - m)) % 256] = (nums s n).take (m + 1) := by
  have h2 : m < (nums s n).length := by rw [nums_len]; exact h
  rw [List.take_succ_eq_append_getElem h2]
  simp [nums]
end Oc
/-- what isn't a row of bytes stands as it stood -/
def Others (w w' : World) : Prop := ∀ (p : Nat) (cs : Array Value) (T : TypeId) (z : Nat × Nat), T ≠ 5 → w.heap[p]? = some (Obj.cells cs T z) → w'.heap[p]? = some (Obj.cells cs T z)
theorem Others.refl (w : World) : Others w w := fun _ _ _ _ _ h => h
theorem Others.trans {a b c : World} (h : Others a b) (k : Others b c) : Others a c := fun p cs T z n e => k p cs T z n (h p cs T z n e)
theorem Others.alloc {a b : World} (h : Others a b) (o : Obj) : Others a (b.alloc o) := fun p cs T z n e => by
  have h1 := h p cs T z n e
  rw [heap_alloc_old _ _ (Array.getElem?_eq_some_iff.1 h1).1]
  exact h1
theorem Others.own {a b c : World} {B size n : Nat} {v : Value} {xs : List Value} (h : Others a b) (ho : b.ownsRow B 5 size v n xs) (k : b.grownBy c v.ownBlock) : Others a c := fun p cs T z hT e => by
  have h1 := h p cs T z hT e
  rw [k.block p (Array.getElem?_eq_some_iff.1 h1).1 ?_]
  · exact h1
  · intro hp
    rcases ho.2 with ⟨rfl, _⟩ | ⟨g, cap, cur, rfl, _, hh, _⟩
    · cases hp
    · cases hp
      rw [hh] at h1
      cases h1
      exact hT rfl
set_option maxRecDepth 100000 in
theorem putNumber_any (v0 : Value) (ys0 : List Nat) (B s n : Nat) (wb w : World) (hB : wb.heap.size = B) (hP0 : Pad B wb v0 ys0 w) (hs : s ≤ 8) (_hn : n ≤ 4611686018427387903) (hz : ys0.length ≤ 1099511627776) :
    Calls Tryz.prog 92 #[v0, .int .i64 (s : Int), .int .i64 (n : Int)] w fun e w' => ∃ v', e = .returned v' ∧ Pad B wb v' (ys0 ++ Oc.nums s n) w' ∧ Others w w' := by
  have HPS : Hid (Pad B wb v0 (ys0 ++ (Oc.nums s n).take 0) w) := Lib.hid (by simpa using hP0)
  have HS0 := Lib.hid hB
  clear hP0 hB
  go_enter Tryz.func92, Tryz.ntmps92
  have W0 : IntKind.i64.wrap ((s : Int) - 1) = (s : Int) - 1 := IntWalk.i64_in _ (by omega)
  go_wp2
  go_loopw [0, 7] (fun v i wr => ∃ m : Nat, m ≤ s ∧ i = .int .i64 ((s : Int) - 1 - (m : Int)) ∧ Pad B wb v (ys0 ++ (Oc.nums s n).take m) wr ∧ Others w wr) (fun _ i _ => (intOf i + 1).toNat)
  case atStart => exact ⟨0, by omega, by simp, HPS.out, Others.refl _⟩
  case round =>
    obtain ⟨m, hm, rfl, hP, ho⟩ := hrel
    have HPJ := Lib.hid hP
    have HOT := Lib.hid ho
    clear ho
    obtain ⟨A3, c3, rfl⟩ := hP.len
    clear hP
    have hyl : (ys0 ++ (Oc.nums s n).take m).length ≤ 1099511627776 + 8 := by
      rw [List.length_append, List.length_take, Oc.nums_len]; omega
    have HYS : Hid (m < s → (ys0 ++ (Oc.nums s n).take m) ++ [n / 2^(8 * (s - 1 - m)) % 256] = ys0 ++ (Oc.nums s n).take (m + 1)) := Lib.hid (fun h => by rw [List.append_assoc, Oc.nums_succ h])
    have HY8 : Hid (m = s → (ys0 ++ (Oc.nums s n).take m) = ys0 ++ Oc.nums s n) := Lib.hid (fun h => by rw [h, List.take_of_length_le (by rw [Oc.nums_len]; exact Nat.le_refl _)])
    generalize ys0 ++ (Oc.nums s n).take m = ys at HPJ hyl HYS HY8 ⊢
    obtain ⟨m3, hm3⟩ : ∃ m3, m3 = ys.length := ⟨_, rfl⟩
    rw [← hm3] at hyl ⊢
    have HM3 := Lib.hid hm3
    clear hm3
    by_cases hlt : m < s
    · obtain ⟨k, hk⟩ : ∃ k : Nat, k = s - 1 - m := ⟨_, rfl⟩
      have hki : (s : Int) - 1 - (m : Int) = (k : Int) := by omega
      rw [← hk] at HYS
      rw [hki]
      have hk7 : k ≤ 7 := by omega
      obtain ⟨x, hx⟩ : ∃ x, x = n / 2^(8 * k) % 256 := ⟨_, rfl⟩
      rw [← hx] at HYS
      have HX : Hid ((n : Int) / 2^(8*k) % 256 = (x : Int)) := Lib.hid (by rw [hx]; simp)
      clear hx
      have HK := Lib.hid hk
      clear hk hki
      have HOA : Hid ((wr.alloc (.cells (u8s [x]) 5)).ownsRow B 5 1 (.slice A3 m3 c3) ys.length (cellsB ys)) := Lib.hid (ownsRow_alloc (by have h := HPJ.out.own; rw [← HM3.out] at h ⊢; exact h) _)
      have HB3 := Lib.hid (HPJ.out.bel.alloc (HS0.out ▸ HPJ.out.bel.size) (.cells (u8s [x]) 5))
      have HRM := Lib.hid (rd_of_lit wr [x] 5 (by simp))
      have HZ2 := Lib.hid (show ys.length + [x].length ≤ 70368744177664 by rw [← HM3.out]; simp; omega)
      go_wp2_with (rw [HX.out]; refine wpList_appendB rfl (.tmp 14) (.tmp 20) rfl B _ ys rfl HOA.out (HS0.out ▸ HB3.out.size) _ rfl [x] HRM.out HZ2.out ?_; intro v2 w2 ho2 hg2; rw [HYS.out hlt] at ho2; have HP2 : Hid (Pad B wb v2 (ys0 ++ (Oc.nums s n).take (m + 1)) w2) := Lib.hid ⟨ho2, below_ownB HS0.out HB3.out HOA.out hg2⟩; have HO2 : Hid (Others w w2) := Lib.hid ((HOT.out.alloc _).own HOA.out hg2); clear ho2 hg2)
      go_roundw
      case rel => exact ⟨m + 1, by omega, by have := HK.out; go_num, HP2.out, HO2.out⟩
      case measure => simp [intOf]
    · obtain rfl : m = s := by omega
      have HPF : Hid (Pad B wb (.slice A3 m3 c3) (ys0 ++ Oc.nums m n) wr) := Lib.hid (by have h := HPJ.out; rw [HY8.out rfl] at h HM3; rw [← HM3.out] at h; exact h)
      clear HY8 HYS hlt
      have W1 : ¬ (0 : Int) ≤ (m : Int) - 1 - (m : Int) := by omega
      go_wp2
      go_ret
      exact ⟨_, rfl, HPF.out, HOT.out⟩
theorem rknown_any (s : ByteArray) (w : World) (hs : s.size ≤ 1099511627776) :
    Calls Tryz.prog 62 #[.string s] w fun e w' => e = .returned (.bool (Oc.known s.data.toList)) ∧ w = w' := by
  go_enter Tryz.func62, Tryz.ntmps62
  go_wp2
  go_loopw [3] (fun i wr => ∃ k : Nat, k ≤ s.size ∧ i = .int .i64 k ∧ Hid (Oc.known (s.data.toList.take k) = true) ∧ wr = w) (fun i _ => s.size - (intOf i).toNat)
  case atStart => exact ⟨0, Nat.zero_le _, rfl, Lib.hid rfl, rfl⟩
  case round =>
    obtain ⟨k, hk, rfl, HK, rfl⟩ := hrel
    by_cases hlt : k < s.size
    · have C1 := rsize_any s[k].toNat
      have hv : Oc.isL s[k] = decide (0 ≤ Oc.size s[k].toNat) := rfl
      generalize Oc.size s[k].toNat = x at hv C1
      by_cases hx : x < 0
      · have H := Lib.hid (Oc.known_not hlt (by rw [hv]; exact decide_eq_false (by omega)))
        clear hv
        go_wp2_with (go_at_call 63; refine (C1 _).mono ?_; rintro e w' ⟨rfl, rfl⟩)
        go_ret
        exact ⟨ret_b H.out.symm, rfl⟩
      · have H := Lib.hid (Oc.known_take hlt HK.out (by rw [hv]; exact decide_eq_true (by omega)))
        clear hv
        go_wp2_with (go_at_call 63; refine (C1 _).mono ?_; rintro e w' ⟨rfl, rfl⟩)
        go_roundw
        case rel => exact ⟨k + 1, by omega, by go_num, H, (by first | rfl | trivial)⟩
        case measure => simp [intOf]; omega
    · have e : s.data.toList.take k = s.data.toList := List.take_of_length_le (by simp; omega)
      have H := Lib.hid (e ▸ HK.out)
      go_wp2
      go_ret
      exact ⟨ret_b H.out.symm, rfl⟩
namespace Oc
def numsFrom (s n j : Nat) : List Nat := (List.range s).map fun i => if j ≤ s - 1 - i then 0 else n / 2^(8 * (s - 1 - i)) % 256
theorem numsFrom_zero (s n : Nat) : numsFrom s n 0 = List.replicate s 0 := by
  apply List.ext_getElem
  · simp [numsFrom]
  · intro i h1 h2; simp [numsFrom]
theorem numsFrom_all (s n : Nat) : numsFrom s n s = nums s n := by
  apply List.ext_getElem
  · simp [numsFrom, nums]
  · intro i h1 h2
    have : i < s := by simpa [numsFrom] using h1
    simp only [numsFrom, nums, List.getElem_map, List.getElem_range]
    rw [if_neg (by omega)]
theorem numsFrom_len (s n j : Nat) : (numsFrom s n j).length = s := by simp [numsFrom]
theorem numsFrom_set (s n j : Nat) (h : j < s) : (numsFrom s n j).set (s - 1 - j) (n / 2^(8 * j) % 256) = numsFrom s n (j + 1) := by
  apply List.ext_getElem
  · simp [numsFrom]
  · intro i h1 h2
    have hi : i < s := by simpa [numsFrom] using h2
    rw [List.getElem_set]
    simp only [numsFrom, List.getElem_map, List.getElem_range]
    by_cases he : s - 1 - j = i
    · subst he
      rw [if_pos rfl, if_neg (by omega), show s - 1 - (s - 1 - j) = j by omega]
    · rw [if_neg he]
      by_cases hj : j ≤ s - 1 - i
      · rw [if_pos hj, if_pos (by omega)]
      · rw [if_neg hj, if_neg (by omega)]
end Oc
set_option maxRecDepth 100000 in
theorem rnum_any (s n : Nat) (w : World) (hs : s ≤ 8) (hn : n ≤ 4611686018427387903) :
    Calls Tryz.prog 32 #[.int .i64 (n : Int), .int .i64 (s : Int)] w fun e w' => ∃ v, e = .returned v ∧ Rd w' v (Oc.nums s n) ∧ Below w.heap.size w w' := by
  obtain ⟨i0, hi0, hiz, his, hib⟩ := info_parts byte_info
  have hmk : ∀ w' : World, (Instr.makeSlice 32 (.int .i64 (s : Int)) (.int .i64 (s : Int))).run Tryz.prog w' = .ok (.slice (some ⟨w'.heap.size, 0, none⟩) s s) (w'.alloc (.cells (u8s (Oc.numsFrom s n 0)) 5)) := fun w' => by
    have h := run_make (P := Tryz.prog) w' 32 5 i0 _ Tryz.underlying32 hi0 hiz .i64 .i64 (s : Int) (s : Int) (by omega) (by omega) (by rw [hib]; omega) (by omega)
    rw [his, Int.toNat_natCast, Nat.mul_one] at h
    rw [h, Oc.numsFrom_zero, show (Value.int .u8 0).cells = #[.int .u8 0] from rfl, madeOne]
    simp [u8s]
  clear hi0 hiz his hib
  have W0 : IntKind.i64.wrap ((s : Int) - 1) = (s : Int) - 1 := IntWalk.i64_in _ (by omega)
  go_enter Tryz.func32, Tryz.ntmps32
  go_wp2
  go_loopw [0, 6] (fun x i wr => ∃ j : Nat, j ≤ s ∧ x = .int .i64 ((n / 2^(8 * j) : Nat) : Int) ∧ i = .int .i64 ((s : Int) - 1 - (j : Int)) ∧ Blk wr w.heap.size 5 (u8s (Oc.numsFrom s n j)) ∧ Below w.heap.size w wr) (fun _ i _ => (intOf i + 1).toNat)
  case atStart => exact ⟨0, by omega, by simp, by simp, Blk.new w _ _, (Below.refl _ _).alloc (Nat.le_refl _) _⟩
  case round =>
    obtain ⟨j, hj, rfl, rfl, hB, hb⟩ := hrel
    have HB := Lib.hid hB
    have HBel := Lib.hid hb
    clear hB hb
    by_cases hlt : j < s
    · obtain ⟨k, hk⟩ : ∃ k : Nat, k = s - 1 - j := ⟨_, rfl⟩
      have hki : (s : Int) - 1 - (j : Int) = (k : Int) := by omega
      rw [hki]
      have HK := Lib.hid hk
      have HST := Lib.hid (Oc.numsFrom_set s n j hlt)
      rw [← hk] at HST
      have HQ : Hid (n / 2^(8 * j) / 256 = n / 2^(8 * (j + 1))) := Lib.hid (by rw [Nat.div_div_eq_div_mul, show 8 * (j + 1) = 8 * j + 8 by omega, Nat.pow_add])
      have hy : n / 2^(8 * j) ≤ 4611686018427387903 := Nat.le_trans (Nat.div_le_self _ _) hn
      generalize n / 2^(8 * j) = y at hy HST HQ
      have hks : k < s := by omega
      have hcell : wr.cell? ⟨w.heap.size, k, none⟩ = some (.int .u8 ((((Oc.numsFrom s n j).getD k 0 : Nat)) : Int)) := by
        rw [HB.out.cell k, u8s_get _ _ (by rw [Oc.numsFrom_len]; exact hks)]
      have hfr := HB.out.frozen k
      have W1 : IntKind.i64.wrap ((k : Int) - 1) = (k : Int) - 1 := IntWalk.i64_in _ (by omega)
      generalize (Oc.numsFrom s n j).getD k 0 = old at hcell
      clear hki hk
      have i0 : (k : Int) < s := by omega
      go_wp2
      refine ⟨⟨j + 1, by omega, ?_, ?_, ?_, HBel.out.setCell (Nat.le_refl _) _⟩, ?_⟩
      · rw [← HQ.out]; rfl
      · have := HK.out
        rw [show (k : Int) - 1 = (s : Int) - 1 - ((j + 1 : Nat) : Int) by omega]
      · have h := HB.out.set_ k (.int .u8 ((y % 256 : Nat) : Int))
        rw [u8s_set, HST.out] at h
        exact h
      · simp [intOf]
    · obtain rfl : j = s := by omega
      have H : Hid (Rd wr (.slice (some ⟨w.heap.size, 0, none⟩) j j) (Oc.nums j n)) := Lib.hid (by
        rw [Oc.numsFrom_all] at HB
        exact ⟨_, _, by rw [Oc.nums_len], by rw [Oc.nums_len]; omega, fun _ => ⟨_, _, rfl, HB.out.lt, fun i hi => by rw [Nat.zero_add, HB.out.cell i, u8s_get _ _ hi]⟩⟩)
      have W1 : ¬ (0 : Int) ≤ (j : Int) - 1 - (j : Int) := by omega
      go_wp2
      go_ret
      exact ⟨_, rfl, H.out, HBel.out⟩
end Go.Proofs.YtjkneidoochfjaaGreatDoor
/- One field of layer 2: whether it has bytes (octets.fits), and which (octets.put). -/
namespace Go.Proofs.YtjkneidoochfjaaGreatDoor
open Go Go.RowKit
namespace Oc
def fits (c : Nat) (n : Int) (l : Nat) : Bool := if c = 111 then decide (l = 32) else if c = 116 then decide (l ≤ 65535) else decide (0 ≤ n) && decide (n ≤ most c)
def enc (c : Nat) (n : Int) (bs : List Nat) : List Nat := if c = 111 then bs else if c = 116 then nums 2 bs.length ++ bs else nums (nsize c).toNat n.toNat
theorem nsize_nat (c : Nat) : ∃ s : Nat, nsize c = s ∧ s ≤ 8 := by
  unfold nsize
  by_cases h1 : c = 98
  · rw [if_pos h1]; exact ⟨1, rfl, by decide⟩
  rw [if_neg h1]
  by_cases h2 : c = 119
  · rw [if_pos h2]; exact ⟨4, rfl, by decide⟩
  rw [if_neg h2]
  by_cases h3 : c = 113
  · rw [if_pos h3]; exact ⟨8, rfl, by decide⟩
  rw [if_neg h3]; exact ⟨0, rfl, by decide⟩
theorem most_le (c : Nat) : most c ≤ 4611686018427387903 := by
  unfold most
  by_cases h1 : c = 98
  · rw [if_pos h1]; decide
  rw [if_neg h1]
  by_cases h2 : c = 119
  · rw [if_pos h2]; decide
  rw [if_neg h2]
  by_cases h3 : c = 113
  · rw [if_pos h3]; decide
  rw [if_neg h3]; decide
end Oc
theorem fits_any (c : Nat) (n : Int) (A : Option Addr) (l cap : Nat) (w : World) :
    Calls Tryz.prog 70 #[.int .u8 ((c : Nat) : Int), .agg #[.int .i64 n, .slice A l cap]] w fun e w' => e = .returned (.bool (Oc.fits c n l)) ∧ w' = w.alloc (.cells #[.int .i64 n, .slice A l cap] 85) := by
  rcases Nat.decEq c 111 with h1 | h1
  · rcases Nat.decEq c 116 with h2 | h2
    · have b1 : ((c : Int) == 111) = false := by simp; omega
      have b2 : ((c : Int) == 116) = false := by simp; omega
      have HV : Oc.fits c n l = (decide (0 ≤ n) && decide (n ≤ Oc.most c)) := by unfold Oc.fits; rw [if_neg h1, if_neg h2]
      have C1 := number_any c
      generalize Oc.most c = mx at HV C1
      generalize Oc.nsize c = sx at C1
      by_cases h3 : 0 ≤ n
      · by_cases h4 : n ≤ mx
        · have H := Lib.hid (show Oc.fits c n l = true by rw [HV, decide_eq_true h3, decide_eq_true h4]; rfl)
          clear HV
          go_enter Tryz.func70, Tryz.ntmps70
          go_wp2_with (go_at_call 85; refine (C1 _).mono ?_; rintro e w' ⟨rfl, rfl⟩)
          go_ret
          exact ⟨ret_b H.out.symm, rfl⟩
        · have H := Lib.hid (show Oc.fits c n l = false by rw [HV, decide_eq_false h4, Bool.and_false])
          clear HV
          go_enter Tryz.func70, Tryz.ntmps70
          go_wp2_with (go_at_call 85; refine (C1 _).mono ?_; rintro e w' ⟨rfl, rfl⟩)
          go_ret
          exact ⟨ret_b (by rw [H.out]; exact decide_eq_false (by omega)), rfl⟩
      · have H := Lib.hid (show Oc.fits c n l = false by rw [HV, decide_eq_false h3, Bool.false_and])
        clear HV
        go_enter Tryz.func70, Tryz.ntmps70
        go_wp2_with (go_at_call 85; refine (C1 _).mono ?_; rintro e w' ⟨rfl, rfl⟩)
        go_ret
        exact ⟨ret_b H.out.symm, rfl⟩
    · subst h2
      by_cases h3 : l ≤ 65535
      · have H := Lib.hid (show Oc.fits 116 n l = true from decide_eq_true h3)
        go_enter Tryz.func70, Tryz.ntmps70
        go_wp2
        go_ret
        exact ⟨ret_b (by rw [H.out]; exact decide_eq_true (by omega)), rfl⟩
      · have H := Lib.hid (show Oc.fits 116 n l = false from decide_eq_false h3)
        go_enter Tryz.func70, Tryz.ntmps70
        go_wp2
        go_ret
        exact ⟨ret_b (by rw [H.out]; exact decide_eq_false (by omega)), rfl⟩
  · subst h1
    by_cases h3 : l = 32
    · have H := Lib.hid (show Oc.fits 111 n l = true from decide_eq_true h3)
      subst h3
      go_enter Tryz.func70, Tryz.ntmps70
      go_wp2
      go_ret
      exact ⟨ret_b H.out.symm, rfl⟩
    · have H := Lib.hid (show Oc.fits 111 n l = false from decide_eq_false h3)
      have b3 : ((l : Int) == 32) = false := by simp; omega
      go_enter Tryz.func70, Tryz.ntmps70
      go_wp2
      go_ret
      exact ⟨ret_b H.out.symm, rfl⟩
end Go.Proofs.YtjkneidoochfjaaGreatDoor
/- The bytes of one field of layer 2 (octets.put). -/
namespace Go.Proofs.YtjkneidoochfjaaGreatDoor
open Go Go.RowKit
theorem wp_appendB {o : Oper} {a : Act} {w : World} {K : Act → World → Prop} {Q : Exit → Act → World → Prop} (s x : Operand)
    (ho : o.op = .call { callee := .builtin .append, args := #[s, x], argTypes := #[32, 32] }) (base : Nat) (v : Value) (ys : List Nat) (hs : a.eval s = v) (hown : w.ownsRow base 5 1 v ys.length (cellsB ys)) (hbase : base ≤ w.heap.size)
    (u : Value) (hx : a.eval x = u) (xs : List Nat) (hu : Rd w u xs) (hz : ys.length + xs.length ≤ 70368744177664)
    (h : ∀ v' w', w'.ownsRow base 5 1 v' (ys ++ xs).length (cellsB (ys ++ xs)) → w.grownBy w' v.ownBlock → K (a.put o.dst v') w') : o.wp Tryz.prog a w K Q := by
  obtain ⟨i0, hi0, hiz, his, hib⟩ := info_parts byte_info
  obtain ⟨A, c, rfl, hc, hA⟩ := hu
  have e0 : cellsB ys ++ cellsB xs = cellsB (ys ++ xs) := by simp [cellsB]
  cases A with
  | some ad =>
    refine wp_append_own w s x 32 ho base 5 i0 _ 1 1 Tryz.underlying32 hi0 hiz his hib rfl (by decide) v ys.length (cellsB ys) hs hown ad xs.length c (cellsB xs) hx (by rw [cellsB_len, Nat.mul_one]) ?_ (cellsB_one _) (by unfold maxLen; omega) (by omega) hbase ?_
    · intro j t hj
      have hjl : j < xs.length := by have := (List.getElem?_eq_some_iff.1 hj).1; rwa [cellsB_len] at this
      obtain ⟨b, o', ha, _, hxx⟩ := hA (by omega)
      obtain rfl := Option.some.inj ha
      rw [cellsB_get hjl] at hj
      rw [Addr.add_mid, hxx j hjl, hj]
    · intro v' w' h1 h2 _
      rw [e0, ← List.length_append] at h1
      exact h v' w' h1 h2
  | none =>
    have hn : xs.length = 0 := by
      rcases Nat.eq_zero_or_pos xs.length with h0 | h0
      · exact h0
      · obtain ⟨b, o', ha, _⟩ := hA h0
        cases ha
    have e : xs = [] := List.eq_nil_of_length_eq_zero hn
    subst e
    have hrun : ∀ ty, (Builtin.append_ #[32, 32] ty #[v, .slice none 0 c]).run Tryz.prog w = .ok v w := fun ty => by
      rcases hown.2 with ⟨hv, hn0⟩ | ⟨g, cap, cur, hv, _, _, hnc, _⟩
      · rw [hv]
        simp [Builtin.append_, run_underlying Tryz.underlying32, sizeOf, typeInfo, hi0, Builtin.lenOf, Builtin.firstCells]
      · rw [hv]
        simp [Builtin.append_, run_underlying Tryz.underlying32, sizeOf, typeInfo, hi0, Builtin.lenOf, Builtin.firstCells, hnc, storeCells]
    unfold Oper.wp execOp
    simp only [ho, resolve, invoke, builtin, Sem.run_bind, Sem.run_pure, Result.andThen_ok, List.map_toArray, List.map_cons, List.map_nil, hs, hx]
    rw [show ([] : List Nat).length = 0 from rfl, hrun]
    exact h _ _ (by rw [List.append_nil]; exact hown) (World.grownBy.refl w _)

theorem enc_num {c : Nat} {n : Int} {bs : List Nat} (h1 : c ≠ 111) (h2 : c ≠ 116) {s m : Nat} (hs : Oc.nsize c = s) (hm : n = (m : Int)) : Oc.enc c n bs = Oc.nums s m := by
  subst hm
  unfold Oc.enc
  rw [if_neg h1, if_neg h2, hs]
  rfl
abbrev boxF (w : World) (n : Int) (A : Option Addr) (l cap : Nat) : World := w.alloc (.cells #[.int .i64 n, .slice A l cap] 85)
set_option maxRecDepth 100000 in
theorem put_any (c : Nat) (n : Int) (A : Option Addr) (l cap : Nat) (bs : List Nat) (v0 : Value) (ys0 : List Nat) (B : Nat) (wb w : World) (hB : wb.heap.size = B) (hP0 : Pad B wb v0 ys0 w) (hR : Rd wb (.slice A l cap) bs) (hl : bs.length = l) (hf : Oc.fits c n l = true) (hz : ys0.length ≤ 549755813888) :
    Calls Tryz.prog 71 #[v0, .int .u8 ((c : Nat) : Int), .agg #[.int .i64 n, .slice A l cap]] w fun e w' => ∃ v', e = .returned v' ∧ Pad B wb v' (ys0 ++ Oc.enc c n bs) w' ∧ Others w w' := by
  have hP1 : Pad B wb v0 ys0 (boxF w n A l cap) := ⟨ownsRow_alloc hP0.own _, hP0.bel.alloc (hB ▸ hP0.bel.size) _⟩
  have HP1 := Lib.hid hP1
  have HO1 : Hid (Others w (boxF w n A l cap)) := Lib.hid ((Others.refl w).alloc _)
  have HR1 : Hid (Rd (boxF w n A l cap) (.slice A l cap) bs) := Lib.hid (hR.below hP1.bel (by rw [hB]; exact Nat.le_refl _))
  have HRW := Lib.hid hR
  have HB := Lib.hid hB
  have HL := Lib.hid hl
  clear hP0 hP1 hR hB hl
  rcases Nat.decEq c 111 with h1 | h1
  · rcases Nat.decEq c 116 with h2 | h2
    · have b1 : ((c : Int) == 111) = false := by simp; omega
      have b2 : ((c : Int) == 116) = false := by simp; omega
      have HV : Oc.fits c n l = (decide (0 ≤ n) && decide (n ≤ Oc.most c)) := by unfold Oc.fits; rw [if_neg h1, if_neg h2]
      rw [hf] at HV
      have hn0 : 0 ≤ n := by by_cases h : 0 ≤ n; exact h; rw [decide_eq_false h, Bool.false_and] at HV; cases HV
      have hn1 : n ≤ 4611686018427387903 := by
        have hm := Oc.most_le c
        by_cases h : n ≤ Oc.most c
        · omega
        · rw [decide_eq_false h, Bool.and_false] at HV; cases HV
      clear HV
      obtain ⟨m, rfl⟩ := Int.eq_ofNat_of_zero_le hn0
      obtain ⟨s, hs, hs8⟩ := Oc.nsize_nat c
      have C1 := number_any c
      have HE := Lib.hid (enc_num (bs := bs) h1 h2 hs rfl (n := (m : Int)))
      rw [hs] at C1
      generalize Oc.most c = mx at C1
      have C2 := putNumber_any v0 ys0 B s m wb (boxF w (m : Int) A l cap) HB.out HP1.out hs8 (by omega) (by omega)
      clear hs
      go_enter Tryz.func71, Tryz.ntmps71
      go_wp2_with (first | (go_at_call 85; refine (C1 _).mono ?_; rintro e w' ⟨rfl, rfl⟩) | (go_at_call 92; refine C2.mono ?_; rintro e w' ⟨v', rfl, hp, ho⟩; have HP2 := Lib.hid hp; have HO2 := Lib.hid ho; clear hp ho))
      go_ret
      exact ⟨_, rfl, by rw [HE.out]; exact HP2.out, HO1.out.trans HO2.out⟩
    · subst h2
      have HE : Hid (Oc.enc 116 n bs = Oc.nums 2 bs.length ++ bs) := Lib.hid rfl
      have hl6 : l ≤ 65535 := of_decide_eq_true hf
      have hPd : Pad B wb v0 ys0 (boxF w n A l cap).drew := ⟨HP1.out.own.drew, below_drewN HP1.out.bel 1⟩
      have HS : Hid ((boxF w n A l cap).drew.cell? ⟨w.heap.size, 1, none⟩ = some (.slice A l cap)) := Lib.hid (by simp)
      have C2 := putNumber_any v0 ys0 B 2 l wb (boxF w n A l cap).drew HB.out hPd (by omega) (by omega) (by omega)
      rw [show ((2 : Nat) : Int) = 2 from rfl] at C2
      go_enter Tryz.func71, Tryz.ntmps71
      go_wp2_with fail
      refine wp_region_held (S := (fun w' => w'.cell? ⟨w.heap.size, 1, none⟩ = some (.slice A l cap))) (by kernel_rfl) ?_
      change wpAnyH _ _ _ _ _ _ _ _ (boxF w n A l cap).drew
      refine wpAnyH_take (i := 0) (v := ?_) rfl (by kernel_rfl) (by kernel_rfl) (by kernel_rfl) (fun _ _ _ h => h) (Or.inl ⟨by rfl, ?_⟩) (HS.out) ?_
      rotate_left
      · intro w _; go_simp; with_reducible rfl
      try simp only [Act.put, List.getElem_toArray, List.getElem_cons_zero, List.setIfInBounds_toArray, List.set_cons_zero, List.set_cons_succ]
      refine wpAnyH_take (i := 1) (v := ?_) rfl (by kernel_rfl) (by kernel_rfl) (by kernel_rfl) (fun _ _ _ h => h) (Or.inl ⟨by rfl, ?_⟩) (HS.out) ?_
      rotate_left
      · intro w _; go_simp; with_reducible rfl
      try simp only [Act.put, List.getElem_toArray, List.getElem_cons_zero, List.getElem_cons_succ, List.setIfInBounds_toArray, List.set_cons_zero, List.set_cons_succ]
      refine wpAnyH_take (i := 2) (v := ?_) rfl (by kernel_rfl) (by kernel_rfl) (by kernel_rfl) (fun _ _ _ h => h) (Or.inl ⟨by rfl, ?_⟩) (HS.out) ?_
      rotate_left
      · intro w' hw; go_simp; with_reducible rfl
      try simp only [Act.put, List.getElem_toArray, List.getElem_cons_zero, List.getElem_cons_succ, List.setIfInBounds_toArray, List.set_cons_zero, List.set_cons_succ]
      refine wpAnyH_take (i := 3) (v := ?_) rfl (by kernel_rfl) (by kernel_rfl) (by kernel_rfl) (fun _ _ _ h => h) (Or.inl ⟨by rfl, ?_⟩) (HS.out) ?_
      rotate_left
      · intro w _; go_simp; with_reducible rfl
      try simp only [Act.put, List.getElem_toArray, List.getElem_cons_zero, List.getElem_cons_succ, List.setIfInBounds_toArray, List.set_cons_zero, List.set_cons_succ]
      refine wpAnyH_take (i := 5) (v := ?_) rfl (by kernel_rfl) (by kernel_rfl) (by kernel_rfl) (fun _ _ _ h => h) (Or.inl ⟨by rfl, ?_⟩) (HS.out) ?_
      rotate_left
      · intro w _; go_simp; with_reducible rfl
      try simp only [Act.put, List.getElem_toArray, List.getElem_cons_zero, List.getElem_cons_succ, List.setIfInBounds_toArray, List.set_cons_zero, List.set_cons_succ]
      refine wpAnyH_take (i := 6) (v := ?_) rfl (by kernel_rfl) (by kernel_rfl) (by kernel_rfl) (fun _ _ _ h => h) (Or.inl ⟨by rfl, ?_⟩) (HS.out) ?_
      rotate_left
      · intro w' hw; go_simp; with_reducible rfl
      try simp only [Act.put, List.getElem_toArray, List.getElem_cons_zero, List.getElem_cons_succ, List.setIfInBounds_toArray, List.set_cons_zero, List.set_cons_succ]
      refine all_one (i := 4) (by kernel_rfl) rfl (by rfl) (fun K hK => ?_)
      go_simp
      refine (C2).mono ?_
      rintro e w' ⟨v', rfl, hp, ho⟩
      have HP2 := Lib.hid hp
      have HO2 := Lib.hid ho
      clear hp ho
      dsimp only
      have HR2 : Hid (Rd w' (.slice A l cap) bs) := Lib.hid (HRW.out.below HP2.out.bel (by rw [HB.out]; exact Nat.le_refl _))
      have HZ : Hid ((ys0 ++ Oc.nums 2 l).length + bs.length ≤ 70368744177664) := Lib.hid (by rw [List.length_append, Oc.nums_len, HL.out]; omega)
      refine hK _ _ (Blk.cell (HO2.out _ _ _ _ (by decide) (Blk.new w _ _)) 1) ?_
      clear hK K
      try simp only [Act.put, List.getElem_toArray, List.getElem_cons_zero, List.getElem_cons_succ, List.setIfInBounds_toArray, List.set_cons_zero, List.set_cons_succ]
      refine all_one (i := 7) (by kernel_rfl) rfl (by rfl) (fun K hK => ?_)
      refine wp_appendB (.tmp 22) (.tmp 24) rfl B v' _ rfl HP2.out.own (HB.out ▸ HP2.out.bel.size) _ rfl bs HR2.out HZ.out ?_
      intro v2 w2 ho2 hg2
      have HP3 : Hid (Pad B wb v2 (ys0 ++ Oc.nums 2 l ++ bs) w2) := Lib.hid ⟨ho2, below_ownB HB.out HP2.out.bel HP2.out.own hg2⟩
      have HO3 : Hid (Others (boxF w n A l cap) w2) := Lib.hid (HO2.out.own HP2.out.own hg2)
      clear ho2 hg2
      refine hK _ _ (Blk.cell (HO3.out _ _ _ _ (by decide) (Blk.new w _ _)) 1) ?_
      clear hK K
      try simp only [Act.put, List.getElem_toArray, List.getElem_cons_zero, List.getElem_cons_succ, List.setIfInBounds_toArray, List.set_cons_zero, List.set_cons_succ]
      refine wpAnyH_take (i := 8) (v := ?_) rfl (by kernel_rfl) (by kernel_rfl) (by kernel_rfl) (fun _ _ _ h => h) (Or.inl ⟨by rfl, ?_⟩) (Blk.cell (HO3.out _ _ _ _ (by decide) (Blk.new w _ _)) 1) ?_
      rotate_left
      · intro w' hw; go_simp; with_reducible rfl
      try simp only [Act.put, List.getElem_toArray, List.getElem_cons_zero, List.getElem_cons_succ, List.setIfInBounds_toArray, List.set_cons_zero, List.set_cons_succ]
      refine wpAnyH_done (by kernel_rfl) ?_ _
      go_wp2
      go_ret
      exact ⟨_, rfl, by rw [HE.out, ← List.append_assoc, HL.out]; exact HP3.out, HO1.out.trans HO3.out⟩
  · subst h1
    have HE : Hid (Oc.enc 111 n bs = bs) := Lib.hid rfl
    have HZ : Hid (ys0.length + bs.length ≤ 70368744177664) := Lib.hid (by have : l = 32 := of_decide_eq_true hf; rw [HL.out]; omega)
    go_enter Tryz.func71, Tryz.ntmps71
    go_wp2_with (refine wpList_appendB rfl (.tmp 12) (.tmp 14) rfl B _ ys0 rfl HP1.out.own (HB.out ▸ HP1.out.bel.size) _ rfl bs HR1.out HZ.out ?_; intro v2 w2 ho2 hg2; have HP2 : Hid (Pad B wb v2 (ys0 ++ bs) w2) := Lib.hid ⟨ho2, below_ownB HB.out HP1.out.bel HP1.out.own hg2⟩; have HO2 : Hid (Others w w2) := Lib.hid (HO1.out.own HP1.out.own hg2); clear ho2 hg2)
    go_ret
    exact ⟨_, rfl, by rw [HE.out]; exact HP2.out, HO2.out⟩
end Go.Proofs.YtjkneidoochfjaaGreatDoor
