/- The walks of layer 3's Parts, Ref and Repo, and of the chapter's example. -/
import Derived.Test.YtnjhipecpdcaoaaDoorNm1
import Derived.Test.YtnjhipecpdcaoaaDoorShelf
namespace Go.Proofs.YtnjhipecpdcaoaaDoor
open Go Go.RowKit
theorem wrongPart_any (v : Value) (w : World) (g : Nat) (lb : Array Value) (hv : v = .func (.func g) #[] lb) :
    Calls Tryd.prog 29 #[v] w fun e w' => e = .returned (.func (.func 41) #[] #[.pointer (some ⟨w.heap.size, 0, none⟩)]) ∧ w.alloc (.cells #[v] 34) = w' := by
  subst hv
  go_enter Tryd.func29, Tryd.ntmps29
  go_wp2
  go_ret
  exact ⟨rfl, rfl⟩
theorem eg37 : ∀ args w, (callFunc 37 args).run Tryd.prog w = .ok (.enter 37 args) w := enters_of Tryd.func37 (by kernel_rfl) rfl
theorem eg48 : ∀ args w, (callFunc 48 args).run Tryd.prog w = .ok (.enter 48 args) w := enters_of Tryd.func48 (by kernel_rfl) rfl
theorem eg41 : ∀ args w, (callFunc 41 args).run Tryd.prog w = .ok (.enter 41 args) w := enters_of Tryd.func41 (by kernel_rfl) rfl
abbrev dotS : ByteArray := ⟨#[46]⟩
theorem wrongPart1_any (s : ByteArray) (hs : s.size ≤ maxLen) (B g : Nat) (lb : Array Value) (p : UInt8 → Bool) (eg : ∀ args w, (callFunc g args).run Tryd.prog w = .ok (.enter g args) w) (w : World)
    (hc : w.cell? ⟨B, 0, none⟩ = some (.func (.func g) #[] lb)) (hp : Tells g lb p w) :
    Calls Tryd.prog 41 #[.string s, .pointer (some ⟨B, 0, none⟩)] w fun e w' => e = .returned (.bool (!(Nm.allL p s.data.toList) || Nm.allL (Nm.among [46]) s.data.toList)) ∧ Below w.heap.size w w' := by
  have C1 := all_any s g lb p eg w hs hp
  cases ha : Nm.allL p s.data.toList
  · rw [ha] at C1
    clear ha
    go_enter Tryd.func41, Tryd.ntmps41
    go_wp2_with (go_at_call 23; refine C1.mono ?_; rintro e w' ⟨rfl, rfl⟩)
    go_ret
    exact ⟨ret_bool rfl, Below.refl _ _⟩
  · rw [ha] at C1
    clear ha
    have T2 := oneOf_tells dotS w.heap.size (w.alloc (.cells #[.string dotS] 9)) (by simp) (by simp)
    have C2 := all_any s 48 _ _ eg48 (w.alloc (.cells #[.string dotS] 9)) hs T2
    clear T2
    rw [show Nm.among dotS.data.toList = Nm.among [46] from rfl] at C2
    generalize Nm.allL (Nm.among [46]) s.data.toList = r at C2 ⊢
    go_enter Tryd.func41, Tryd.ntmps41
    go_wp2_with (first
      | (go_at_call 23; refine C1.mono ?_; rintro e w' ⟨rfl, rfl⟩; clear C1)
      | (go_at_call 36; refine (oneOf_any dotS _).mono ?_; rintro e w' ⟨rfl, rfl⟩)
      | (go_at_call 23; refine C2.mono ?_; rintro e w' ⟨rfl, rfl⟩))
    go_ret
    exact ⟨ret_bool rfl, (Below.refl _ _).alloc (Nat.le_refl _) _⟩
/-- What a test on texts is to a list's walk. -/
def TellsText (g : Nat) (lb : Array Value) (p : ByteArray → Bool) (w : World) : Prop :=
  ∀ (W : World) (x : ByteArray), x.size ≤ maxLen → Below w.heap.size w W → Calls Tryd.prog g (#[.string x] ++ lb) W fun e w' => e = .returned (.bool (p x)) ∧ Below W.heap.size W w'
def Found (r : Bool) (w : World) (e : Ending) (w' : World) : Prop := ∃ i : Int, e = .returned (.int .i64 i) ∧ decide (0 ≤ i) = r ∧ Below w.heap.size w w'
/-- A row of texts in memory. -/
def Row (w : World) (b off : Nat) (zs : List ByteArray) : Prop := b < w.heap.size ∧ ∀ j x, zs[j]? = some x → w.cell? ⟨b, off + j, none⟩ = some (.string x)
theorem Row.below {w w' : World} {b off : Nat} {zs : List ByteArray} (h : Row w b off zs) (hb : Below w.heap.size w w') : Row w' b off zs :=
  ⟨Nat.lt_of_lt_of_le h.1 hb.size, fun j x hx => (hb.cell (p := ⟨b, off + j, none⟩) h.1).trans (h.2 j x hx)⟩
theorem any_none {zs : List ByteArray} {p : ByteArray → Bool} {k : Nat} (h : ∀ j x, j < k → zs[j]? = some x → p x = false) (hk : zs.length ≤ k) : zs.any p = false := by
  rw [List.any_eq_false]
  intro x hx
  obtain ⟨j, hj⟩ := List.mem_iff_getElem?.1 hx
  rw [h j x (by have := (List.getElem?_eq_some_iff.1 hj).1; omega) hj]; simp
theorem any_at {zs : List ByteArray} {p : ByteArray → Bool} {k : Nat} {x : ByteArray} (h : zs[k]? = some x) (hp : p x = true) : zs.any p = true :=
  List.any_eq_true.2 ⟨x, List.mem_iff_getElem?.2 ⟨k, h⟩, hp⟩
def NoneYet (zs : List ByteArray) (p : ByteArray → Bool) (k : Nat) : Prop := ∀ j x, j < k → zs[j]? = some x → p x = false
set_option maxHeartbeats 400000 in
theorem indexFunc_any (g : Nat) (lb : Array Value) (p : ByteArray → Bool) (eg : ∀ args w, (callFunc g args).run Tryd.prog w = .ok (.enter g args) w) (b off c : Nat) (zs : List ByteArray) (w : World)
    (hp : TellsText g lb p w) (hbig : zs.length ≤ 9223372036854775807) (hz : ∀ x ∈ zs, x.size ≤ maxLen) (hr : Row w b off zs) :
    Calls Tryd.prog 40 #[.slice (some ⟨b, off, none⟩) zs.length c, .func (.func g) #[] lb] w (Found (zs.any p) w) := by
  have HZ := Lib.hid hz
  clear hz
  go_enter Tryd.func40, Tryd.ntmps40
  go_wp2
  go_loopw [8] (fun i wr => ∃ k : Nat, k ≤ zs.length ∧ i = .int .i64 k ∧ Hid (NoneYet zs p k) ∧ Hid (Below w.heap.size w wr)) (fun i _ => zs.length - (intOf i).toNat)
  case atStart => exact ⟨0, Nat.zero_le _, rfl, Lib.hid (fun j x hj => absurd hj (Nat.not_lt_zero _)), Lib.hid (Below.refl _ _)⟩
  case round =>
    obtain ⟨k, hk, rfl, HN, HB⟩ := hrel
    by_cases hlt : k < zs.length
    · have hx : zs[k]? = some zs[k] := by simp [hlt]
      have hcell := (hr.below HB.out).2 k _ hx
      have hsz := HZ.out zs[k] (List.getElem_mem hlt)
      have C := hp wr zs[k] hsz HB.out
      have HX := Lib.hid hx
      generalize zs[k] = x at hcell C HX hsz
      clear hx
      cases hv : p x
      · have H := Lib.hid (show NoneYet zs p (k + 1) from fun j y hj hy => by
          rcases Nat.lt_succ_iff_lt_or_eq.1 hj with h | rfl
          · exact HN.out j y h hy
          · rw [HX.out] at hy; obtain rfl := Option.some.inj hy; exact hv)
        rw [hv] at C
        clear hv
        go_wp2_with (go_at_fn g; refine C.mono ?_; rintro e w' ⟨rfl, hb⟩; have HB2 := Lib.hid (HB.out.trans (hb.mono HB.out.size)); clear hb)
        go_roundw
        case rel => exact ⟨k + 1, by omega, by go_num, H, HB2⟩
        case measure => simp [intOf]; omega
      · have H := Lib.hid (any_at HX.out hv)
        rw [hv] at C
        clear hv
        go_wp2_with (go_at_fn g; refine C.mono ?_; rintro e w' ⟨rfl, hb⟩; have HB2 := Lib.hid (HB.out.trans (hb.mono HB.out.size)); clear hb)
        go_ret
        exact ⟨k, rfl, by rw [H.out]; simp, HB2.out⟩
    · have H := Lib.hid (any_none HN.out (by omega))
      go_wp2
      go_ret
      exact ⟨-1, rfl, by rw [H.out]; rfl, HB.out⟩
theorem containsFunc_any (g : Nat) (lb : Array Value) (p : ByteArray → Bool) (eg : ∀ args w, (callFunc g args).run Tryd.prog w = .ok (.enter g args) w) (b off c : Nat) (zs : List ByteArray) (w : World)
    (hp : TellsText g lb p w) (hbig : zs.length ≤ 9223372036854775807) (hz : ∀ x ∈ zs, x.size ≤ maxLen) (hr : Row w b off zs) (r : Bool) (hres : zs.any p = r) :
    Calls Tryd.prog 28 #[.slice (some ⟨b, off, none⟩) zs.length c, .func (.func g) #[] lb] w fun e w' => e = .returned (.bool r) ∧ Below w.heap.size w w' := by
  have C := indexFunc_any g lb p eg b off c zs w hp hbig hz hr
  rw [hres] at C
  clear hz hres
  go_enter Tryd.func28, Tryd.ntmps28
  go_wp2_with (go_at_call 40; refine C.mono ?_; rintro e w' ⟨i, rfl, hi, hb⟩; have HI := Lib.hid hi; clear hi; have HB := Lib.hid hb; clear hb)
  go_ret
  exact ⟨ret_bool HI.out, HB.out⟩
end Go.Proofs.YtnjhipecpdcaoaaDoor
