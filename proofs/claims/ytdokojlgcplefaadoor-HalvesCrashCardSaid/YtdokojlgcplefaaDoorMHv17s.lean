/- Layer 5: Open. -/
import Derived.Test.YtdokojlgcplefaaDoorMHv15
import Derived.Test.YtdokojlgcplefaaDoorMLawKits
import Derived.OrdersHeld
namespace Go.Proofs.YtdokojlgcplefaaDoor
open Go Go.RowKit
theorem dk_sizeX {B d k : Nat} {S : Dk.D} (w : World) (h : DkX B w d S k) : Calls Tryd.prog 18 #[.pointer (some ⟨d, 0, none⟩)] w fun e w' => e = .returned (.int .i64 (S.size : Int)) ∧ w = w' := by
 obtain ⟨ms, ml, v, h⟩ := h
 obtain ⟨⟨c1, c2, fS, h1, _, _⟩, _, _⟩ := h
 exact size_any w h1
theorem LFr.setNew {B l : Nat} {w w' : World} (h : LFr B l w w') (_hB : B ≤ w.heap.size) {b : Nat} (hb : w.heap.size ≤ b) (i : Nat) (u : Value) : LFr B l w (w'.setCell ⟨b, i, none⟩ u) :=
 ⟨h.os, h.tape, h.output, by simpa using h.size, fun x hx hl => (Below.heap_setCell _ _ _ _ (by show x ≠ b; omega)).trans (h.low x hx hl), fun x t cs z hn hk h1 h2 => (Below.heap_setCell _ _ _ _ (by have := (Array.getElem?_eq_some_iff.1 hk).1; show x ≠ b; omega)).trans (h.rows x t cs z hn hk h1 h2)⟩
theorem LFr.tfr {B l : Nat} {w w' : World} (h : LFr B l w w') (hl : w.heap.size ≤ l) : TFr B w w' :=
 ⟨h.os, h.tape, h.output, h.size, h.low, fun b t cs z hk h1 h2 => h.rows b t cs z (by have := (Array.getElem?_eq_some_iff.1 hk).1; omega) hk h1 h2⟩
def LogsAt (B : Nat) (w : World) (l d z u n m : Nat) (dead : Bool) (ls : List (List Nat)) (S : Dk.D) (k : Nat) : Prop :=
 (∃ v, LogAt B w l d z u n v m dead ∧ ∃ us, Recs B w v us ls) ∧ DkX B w d S k
section
variable {B l d z u n m k : Nat} {dead : Bool} {ls : List (List Nat)} {S : Dk.D} {w w' : World}
theorem LogsAt.below (h : LogsAt B w l d z u n m dead ls S k) (hb : Below w.heap.size w w') : LogsAt B w' l d z u n m dead ls S k := by
 obtain ⟨⟨v, h1, us, h2⟩, h3⟩ := h
 exact ⟨⟨v, h1.below hb, us, h2.below hb⟩, h3.below hb⟩
theorem LogsAt.set {b t : Nat} {cs : Array Value} (h : LogsAt B w l d z u n m dead ls S k) (hb : Blk w b t cs) (ht : t = 27) (i : Nat) (x : Value) : LogsAt B (w.setCell ⟨b, i, none⟩ x) l d z u n m dead ls S k := by
 subst ht
 obtain ⟨⟨v, h1, us, h2⟩, h3⟩ := h
 refine ⟨⟨v, ⟨h1.blk.far (blk_ne h1.blk hb (by decide)) _, h1.low⟩, us, h2.of fun b' t' cs' hk e => hk.far (blk_ne hk hb (by rcases e with rfl | rfl <;> decide)) _⟩, h3.farX hb (by decide) (by decide) i x⟩
end
section
variable {B d z u n m k k' : Nat} {ls : List (List Nat)} {S S' : Dk.D}
set_option maxRecDepth 100000 in
set_option maxHeartbeats 1000000 in
theorem Open_any (a : Nat → Addr) (w0 w : World) (hD : DkX B w d S k) (hE : Env B a w0 w) (hz : z = S.size / 2) (h4 : 4 ≤ S.size)
  (hopen : ∀ l w', LogAt B w' l d z 0 0 (.slice none 0 0) 0 false → DkX B w' d S k → Env B a w0 w' → Calls Tryd.prog 21 #[.pointer (some ⟨l, 0, none⟩)] w' fun e w'' => e = .returned (.tuple #[]) ∧ (∃ v, LogAt B w'' l d z u n v m false ∧ (∃ us, Recs B w'' v us ls)) ∧ DkX B w'' d S' k' ∧ LFr B l w' w'') :
  Calls Tryd.prog 7 #[.pointer (some ⟨d, 0, none⟩)] w fun e w' => ∃ l, e = .returned (.tuple #[.pointer (some ⟨l, 0, none⟩), .nilIface]) ∧ LogsAt B w' l d z u n m false ls S' k' ∧ TFr B w w' ∧ w.heap.size ≤ l := by
 have hsz := hD.ok.size
 have HBS : Hid (B ≤ w.heap.size) := Lib.hid (by have := hD.lt; omega)
 have CS := dk_sizeX w hD
 have CH := half_any (S.size : Int) w (WalkArith.wf_i64 (by omega))
 rw [show Hv.halfOf (S.size : Int) = z by unfold Hv.halfOf; rw [if_pos (by omega), hz]; omega] at CH
 obtain ⟨wl, hwl⟩ : ∃ wl, wl = w.alloc (.cells (logCells d z 0 0 (.slice none 0 0) 0 false) 59) := ⟨_, rfl⟩
 have HWL := Lib.hid hwl
 have HB1 : Hid (Below w.heap.size w wl) := Lib.hid (by rw [hwl]; exact below_al w _)
 have HL1 : Hid (LogAt B wl w.heap.size d z 0 0 (.slice none 0 0) 0 false) := Lib.hid ⟨by rw [hwl]; exact Blk.new w _ _, HBS.out⟩
 have HSL : Hid (wl.heap.size = w.heap.size + 1) := Lib.hid (by rw [hwl]; simp)
 have HBA := Lib.hid (below_attBox wl w.heap.size)
 have HW := Lib.hid (hopen w.heap.size (attBox wl w.heap.size) (HL1.out.below HBA.out) ((hD.below HB1.out).below HBA.out) ((hE.below HB1.out).below HBA.out))
 have i0 : ¬ (S.size : Int) < 4 := by omega
 have CA := attempt_ok 21 #[.pointer (some ⟨w.heap.size, 0, none⟩)] #[] w.heap.size wl (fun w' => LogsAt B w' w.heap.size d z u n m false ls S' k' ∧ LFr B w.heap.size wl w' ∧ ∃ c, Blk w' (wl.heap.size + 1) 27 #[c])
  (fun args w => by simp [go_sem])
  (HW.out.mono fun e w'' ⟨h1, h2, h3, h4⟩ => ⟨h1, ⟨h2, h3⟩, (LFr.below HBA.out).trans h4, .nilIface, h4.typed _ _ _ (by have := HSL.out; omega) (by
   have := Blk.new (wl.alloc (.cells #[.pointer (some ⟨w.heap.size, 0, none⟩)] 30)) 27 #[.nilIface]
   simpa using this) (by decide) (by decide)⟩)
  (fun a h => h.2.2)
  (fun a x ⟨h1, h2, c, h3⟩ => ⟨h1.set h3 rfl 0 x, h2.setNew (by have := HBS.out; have := HSL.out; omega) (by omega) 0 x, x, h3.set_ 0 x⟩)
 clear hz h4 hopen hsz HW hwl hD hE
 go_enter Tryd.func7, Tryd.ntmps7
 go_wp2_with fail
 go_at_call 18
 refine CS.mono ?_
 rintro e ws ⟨rfl, rfl⟩
 go_wp2_with fail
 go_at_call 18
 refine CS.mono ?_
 rintro e ws ⟨rfl, rfl⟩
 go_wp2_with fail
 go_at_call 19
 refine CH.mono ?_
 rintro e ws ⟨rfl, rfl⟩
 go_wp2_with fail
 go_at_call 20
 have CA2 := CA
 rw [HWL.out] at CA2
 refine CA2.mono ?_
 rintro e w1 ⟨rfl, h1, h2, _⟩
 rw [← HWL.out] at h2
 have H1 := Lib.hid h1
 have H2 : Hid (TFr B w w1) := Lib.hid (((LFr.below HB1.out).trans h2).tfr (Nat.le_refl _))
 clear h1 h2 CA CA2 CS CH
 go_wp2_with fail
 go_ret2
 exact ⟨_, rfl, H1.out, H2.out, Nat.le_refl _⟩
end
end Go.Proofs.YtdokojlgcplefaaDoor
/- Rows for a region whose stores come behind all its loads: what is held on the world is held up to the first store only. -/
namespace Go.Proofs.YtdokojlgcplefaaDoor
open Go Go.RowKit
section
variable {P : Program} {ops : Array Oper} {Q : Exit → Act → World → Prop} {md : Region.Mode} {S : World → Prop} {b : Nat}
def Upto (P : Program) (md : Region.Mode) (ops : Array Oper) (Q : Exit → Act → World → Prop) (S : World → Prop) (b : Nat) : Nat → Array Bool → Act → World → Prop
 | 0, ls, a, w => Region.ready md ops ls = [] ∧ Q .normal a w
 | n + 1, ls, a, w => (Region.ready md ops ls = [] → Q .normal a w) ∧ ∀ j ∈ Region.ready md ops ls, wpOp P ops Q j (fun a' w' => (j ≠ b → ls.getD b true = false → S w') ∧ Upto P md ops Q S b n (ls.setIfInBounds j true) a' w') a w
theorem Upto.any : ∀ (n : Nat) (ls : Array Bool) (a : Act) (w : World), Upto P md ops Q S b n ls a w → wpAny P md ops Q n ls a w
 | 0, _, _, _, h => h
 | n + 1, _, _, _, h => ⟨h.1, fun j hj => wpOp_mono (fun a' w' k => Upto.any n _ a' w' k.2) (h.2 j hj)⟩
def waits (md : Region.Mode) (ops : Array Oper) (b i : Nat) : Bool := match ops[b]? with
 | some o => o.after.any fun e => Region.binds md e && e.on == i
 | none => false
theorem not_b {ls : Array Bool} {i j : Nat} (hw : waits md ops b i = true) (hi : i ∈ Region.ready md ops ls) (hj : j ∈ Region.ready md ops ls) : j ≠ b := fun e => by
 subst e
 obtain ⟨_, o, ho, hall⟩ := mem_ready.1 hj
 unfold waits at hw
 rw [ho] at hw
 obtain ⟨k, hk, hke⟩ := Array.any_eq_true.1 hw
 simp at hke
 have h1 := hall _ (Array.getElem_mem hk) hke.1
 have h0 := (mem_ready.1 hi).1
 rw [hke.2] at h1
 rcases Nat.lt_or_ge i ls.size with h' | h'
 ·simp [h'] at h0 h1; rw [h0] at h1; cases h1
 ·simp [Array.getElem?_eq_none h'] at h1
theorem Upto.first {i : Nat} {oi : Oper} {v : Value} (hi : ops[i]? = some oi) (hsel : ∀ (j : Nat) (o : Oper) cs b, ops[j]? = some o → o.op ≠ .select cs b)
  (hQ : ∀ c a w, Q (.panic c) (a.put oi.dst v) w → Q (.panic c) a w) (hw : waits md ops b i = true) (hib : i ≠ b) :
  ∀ (n : Nat) (ls : Array Bool) (a : Act) (w : World), ls.getD b true = false →
   (∀ j oj, ops[j]? = some oj → j ≠ i → ls.getD j true = false → (∀ e ∈ oj.after, Region.binds md e = true → e.on ≠ i) → oi.apart ops oj = true) →
   i ∈ Region.ready md ops ls → YieldsIf P ops S oi v a → S w → Upto P md ops Q S b n (ls.setIfInBounds i true) (a.put oi.dst v) w → Upto P md ops Q S b (n + 1) ls a w := by
 intro n
 induction n with
 | zero =>
  intro ls a w _ _ hr hy hS H
  refine ⟨fun h => (by rw [h] at hr; cases hr), fun j hj => ?_⟩
  by_cases hji : j = i
  ·subst hji; exact hy.wpOp hi hS ⟨fun _ _ => hS, H⟩
  ·have := ready_mono hj hji
   rw [H.1] at this
   cases this
 | succ n ih =>
  intro ls a w hlb hfree hr hy hS H
  refine ⟨fun h => (by rw [h] at hr; cases hr), fun j hj => ?_⟩
  by_cases hji : j = i
  ·subst hji; exact hy.wpOp hi hS ⟨fun _ _ => hS, H⟩
  ·have hjb := not_b hw hr hj
   have h1 := H.2 j (ready_mono hj hji)
   obtain ⟨hun, oj, hoj, hall⟩ := mem_ready.1 hj
   have hno : ∀ e ∈ oj.after, Region.binds md e = true → e.on ≠ i := fun e he hb heq => by
    have h1 := hall e he hb
    have h0 := (mem_ready.1 hr).1
    rw [heq] at h1
    rcases Nat.lt_or_ge i ls.size with h' | h'
    ·simp [h'] at h0 h1; rw [h0] at h1; cases h1
    ·simp [Array.getElem?_eq_none h'] at h1
   have h2 := wpOp_putIf hoj (hfree j oj hoj hji hun hno) (fun cs b => hsel i oi cs b hi) (fun cs b => hsel j oj cs b hoj) hQ hy h1
   refine wpOp_mono (fun a' w' h3 => ?_) h2
   have hb1 : (ls.setIfInBounds i true).getD b true = false := by rw [getD_set_ne true hib]; exact hlb
   have hS' := h3.2.1 hjb hb1
   refine ⟨fun _ _ => hS', ih (ls.setIfInBounds j true) a' w' (by rw [getD_set_ne true hjb]; exact hlb) (fun k ok hk hki hku hkn => hfree k ok hk hki (by
    by_cases hjk : j = k
    ·subst hjk; exact hun
    ·rwa [getD_set_ne true hjk] at hku) hkn) (ready_mono hr (Ne.symm hji)) h3.1 hS' ?_⟩
   rw [Array.setIfInBounds_comm _ _ hji]
   exact h3.2.2
theorem Upto.take {i : Nat} {oi : Oper} {v : Value} {n : Nat} {ls : Array Bool} {a : Act} {w : World} (hi : ops[i]? = some oi) (hs : Region.noSelect ops = true) (hf : Region.free md ops ls i = true) (hr : (Region.ready md ops ls).contains i = true)
  (hb : (ls.getD b true == false && waits md ops b i && i != b) = true) (hQ : ∀ c a w, Q (.panic c) (a.put oi.dst v) w → Q (.panic c) a w) (hy : YieldsIf P ops S oi v a) (hS : S w) (h : Upto P md ops Q S b n (ls.setIfInBounds i true) (a.put oi.dst v) w) : Upto P md ops Q S b (n + 1) ls a w := by
 simp at hb
 exact Upto.first hi (Region.noSelect_spec hs) hQ hb.1.2 hb.2 n ls a w (by simpa using hb.1.1) (Region.free_spec hi hf) (by simpa using hr) hy hS h
theorem Upto.firstY {i : Nat} {oi : Oper} {v : Value} (hi : ops[i]? = some oi) (hsel : ∀ (j : Nat) (o : Oper) cs b, ops[j]? = some o → o.op ≠ .select cs b)
  (hQ : ∀ c a w, Q (.panic c) (a.put oi.dst v) w → Q (.panic c) a w) (hib : i ≠ b) :
  ∀ (n : Nat) (ls : Array Bool) (a : Act) (w : World), (ls.getD b true = false → S w) →
   (∀ j oj, ops[j]? = some oj → j ≠ i → ls.getD j true = false → (∀ e ∈ oj.after, Region.binds md e = true → e.on ≠ i) → oi.apart ops oj = true) →
   i ∈ Region.ready md ops ls → YieldsIf P ops (fun _ => True) oi v a → Upto P md ops Q S b n (ls.setIfInBounds i true) (a.put oi.dst v) w → Upto P md ops Q S b (n + 1) ls a w := by
 intro n
 induction n with
 | zero =>
  intro ls a w hlb _ hr hy H
  refine ⟨fun h => (by rw [h] at hr; cases hr), fun j hj => ?_⟩
  by_cases hji : j = i
  ·subst hji; exact hy.wpOp hi trivial ⟨fun _ => hlb, H⟩
  ·have := ready_mono hj hji
   rw [H.1] at this
   cases this
 | succ n ih =>
  intro ls a w hlb hfree hr hy H
  refine ⟨fun h => (by rw [h] at hr; cases hr), fun j hj => ?_⟩
  by_cases hji : j = i
  ·subst hji; exact hy.wpOp hi trivial ⟨fun _ => hlb, H⟩
  ·have h1 := H.2 j (ready_mono hj hji)
   obtain ⟨hun, oj, hoj, hall⟩ := mem_ready.1 hj
   have hno : ∀ e ∈ oj.after, Region.binds md e = true → e.on ≠ i := fun e he hb heq => by
    have h1 := hall e he hb
    have h0 := (mem_ready.1 hr).1
    rw [heq] at h1
    rcases Nat.lt_or_ge i ls.size with h' | h'
    ·simp [h'] at h0 h1; rw [h0] at h1; cases h1
    ·simp [Array.getElem?_eq_none h'] at h1
   have h2 := wpOp_putIf hoj (hfree j oj hoj hji hun hno) (fun cs b => hsel i oi cs b hi) (fun cs b => hsel j oj cs b hoj) hQ hy h1
   refine wpOp_mono (fun a' w' h3 => ?_) h2
   have hS' : j ≠ b → ls.getD b true = false → S w' := fun hjb hl => h3.2.1 hjb (by rw [getD_set_ne true hib]; exact hl)
   refine ⟨hS', ih (ls.setIfInBounds j true) a' w' (fun hl => ?_) (fun k ok hk hki hku hkn => hfree k ok hk hki (by
    by_cases hjk : j = k
    ·subst hjk; exact hun
    ·rwa [getD_set_ne true hjk] at hku) hkn) (ready_mono hr (Ne.symm hji)) h3.1 ?_⟩
   ·by_cases hjb : j = b
    ·subst hjb
     rcases Nat.lt_or_ge j ls.size with h' | h'
     ·simp [h'] at hl
     ·simp [Array.getElem?_eq_none h'] at hun
    ·exact hS' hjb (by rwa [getD_set_ne true hjb] at hl)
   ·rw [Array.setIfInBounds_comm _ _ hji]
    exact h3.2.2
theorem Upto.takeY {i : Nat} {oi : Oper} {v : Value} {n : Nat} {ls : Array Bool} {a : Act} {w : World} (hi : ops[i]? = some oi) (hs : Region.noSelect ops = true) (hf : Region.free md ops ls i = true) (hr : (Region.ready md ops ls).contains i = true)
  (hb : (i != b) = true) (hQ : ∀ c a w, Q (.panic c) (a.put oi.dst v) w → Q (.panic c) a w) (hy : YieldsIf P ops (fun _ => True) oi v a) (hS : ls.getD b true = false → S w) (h : Upto P md ops Q S b n (ls.setIfInBounds i true) (a.put oi.dst v) w) : Upto P md ops Q S b (n + 1) ls a w := by
 simp at hb
 exact Upto.firstY hi (Region.noSelect_spec hs) hQ hb n ls a w hS (Region.free_spec hi hf) (by simpa using hr) hy h
theorem Upto.one {i : Nat} {oi : Oper} {n : Nat} {ls : Array Bool} {a : Act} {w : World} (hr : Region.ready md ops ls = [i]) (hi : ops[i]? = some oi) (wi : Region.wanted oi (yielded ops a.tmps) = true)
  (h1 : ∀ K : Act → World → Prop, (∀ a' w', (i ≠ b → ls.getD b true = false → S w') → Upto P md ops Q S b n (ls.setIfInBounds i true) a' w' → K a' w') → oi.wp P a w K Q) : Upto P md ops Q S b (n + 1) ls a w := by
 refine ⟨fun h0 => by rw [hr] at h0; simp at h0, fun k hk => ?_⟩
 rw [hr] at hk
 obtain rfl := List.mem_singleton.1 hk
 unfold wpOp
 simp only [hi, wi, if_true]
 exact Or.inl (h1 (fun a' w' => (k ≠ b → ls.getD b true = false → S w') ∧ Upto P md ops Q S b n (ls.setIfInBounds k true) a' w') fun _ _ hs hh => ⟨hs, hh⟩)
theorem Upto.done {ls : Array Bool} {a : Act} {w : World} (hr : Region.ready md ops ls = []) (h : Q .normal a w) : ∀ n, Upto P md ops Q S b n ls a w
 | 0 => ⟨hr, h⟩
 | _ + 1 => ⟨fun _ => h, by rw [hr]; simp⟩
theorem wp_region_upto {id : Nat} {a : Act} {w : World} (hm : P.follows .mixedOrders = true)
  (h : Upto P .any ops Q S b ops.size (Array.replicate ops.size false) a { w with drawn := w.drawn + 1 }) : (Code.region id ops true).wp P Q a w :=
 wp_region_any hm (Upto.any _ _ _ _ h)
end
end Go.Proofs.YtdokojlgcplefaaDoor
/- Rows for a region whose stores come behind all its loads (they stand in Upto). -/
