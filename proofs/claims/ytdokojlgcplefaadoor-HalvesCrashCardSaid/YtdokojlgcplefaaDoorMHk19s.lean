/- Layer 5's law: the log between two acts, and behind one at which the power failed. -/
import Derived.Test.YtdokojlgcplefaaDoorMHk8s
import Derived.Test.YtdokojlgcplefaaDoorMHk10s
import Derived.Test.YtdokojlgcplefaaDoorMHk5s
import Derived.BigQuiet
namespace Go.Proofs.YtdokojlgcplefaaDoor
open Go Go.RowKit
def Recd (ls : List (List Nat)) : Prop := ∀ y ∈ ls, Sha.Byte y ∧ 1 ≤ y.length ∧ y.length ≤ 400
theorem Recd.snoc {ls : List (List Nat)} {b : List Nat} (h : Recd ls) (hb : Sha.Byte b ∧ 1 ≤ b.length ∧ b.length ≤ 400) : Recd (ls ++ [b]) := fun y hy => by
 rcases List.mem_append.1 hy with hy | hy
 ·exact h y hy
 ·rw [List.mem_singleton.1 hy]; exact hb
structure HI (B : Nat) (a : Nat → Addr) (w0 w : World) (l d z sz u n N k i : Nat) (ls : List (List Nat)) (S : Dk.D) : Prop where
 log : LogsAt B w l d z u n (Hv.pos ls ls.length) false ls S k
 inv : Hv.Inv S z u n N ls
 size : S.size = sz
 env : Env B a w0 w
 zz : z = sz / 2
 s4 : 4 ≤ sz
 s80 : sz ≤ 80
 kb : k ≤ 1000 + 1000 * i
 nb : N ≤ 1 + i
 i40 : i ≤ 41
 recd : Recd ls
def Left (S : Dk.D) (z N : Nat) (was : Bool) (ls nx : List (List Nat)) : Prop :=
 ∀ (ts : List Bool) (C : Dk.D), C = Dk.crashed S (keptTo S.pend ts S.pend.length) → Dk.Ok C → ∃ u n got, Hv.Opn C z u n (N + 1) got ∧ Recd got ∧
  (got = ls ∨ (was = true ∧ (got = nx ∨ ∃ x b, got = ls ++ [x] ∧ nx = ls ++ [b] ∧ x.length = b.length ∧ laidH n ls.length x = laidH n ls.length b)))
structure HD (B : Nat) (a : Nat → Addr) (w0 w : World) (l d z sz u n m N k i : Nat) (was : Bool) (ls nx : List (List Nat)) (S : Dk.D) : Prop where
 log : LogsAt B w l d z u n m was ls S k
 left : Left S z N was ls nx
 size : S.size = sz
 env : Env B a w0 w
 zz : z = sz / 2
 s4 : 4 ≤ sz
 s80 : sz ≤ 80
 kb : k ≤ 500 + 1000 * i
 nb : N ≤ i
 i40 : i ≤ 41
 recd : Recd ls
 recx : was = true → Recd nx
 lenl : ls.length ≤ 100
 lenx : was = true → nx.length ≤ 100
section
variable {B : Nat} {a : Nat → Addr} {w0 w w' : World} {l d z sz u n N k i : Nat} {ls nx : List (List Nat)} {S : Dk.D}
theorem HI.few (h : HI B a w0 w l d z sz u n N k i ls S) : ls.length ≤ 40 := by
 have hfe : 1 + ls.length ≤ Hv.pos ls ls.length := by
  suffices H : ∀ i, i ≤ ls.length → 1 + i ≤ Hv.pos ls i from H _ (Nat.le_refl _)
  intro i
  induction i with
  | zero => intro _; exact Nat.le_refl _
  | succ i ih =>
   intro hi
   have h1 := ih (by omega)
   have h2 := (Hv.record_has h.inv.ok (h.inv.recs i hi)).1
   have h3 := Hv.need_pos h2.l1 h2.l2
   rw [Hv.pos_step]
   omega
 have := h.inv.fit
 have := h.zz
 have := h.s80
 omega
theorem HI.below (h : HI B a w0 w l d z sz u n N k i ls S) (hb : Below w.heap.size w w') : HI B a w0 w' l d z sz u n N k i ls S := { h with log := h.log.below hb, env := h.env.below hb }
theorem HD.below {m : Nat} {was : Bool} (h : HD B a w0 w l d z sz u n m N k i was ls nx S) (hb : Below w.heap.size w w') : HD B a w0 w' l d z sz u n m N k i was ls nx S := { h with log := h.log.below hb, env := h.env.below hb }
theorem HI.more {i' : Nat} (h : HI B a w0 w l d z sz u n N k i ls S) (hi : i ≤ i') (h4 : i' ≤ 41) : HI B a w0 w l d z sz u n N k i' ls S := { h with kb := by have := h.kb; omega, nb := by have := h.nb; omega, i40 := h4 }
theorem HI.logBlk (h : HI B a w0 w l d z sz u n N k i ls S) : ∃ v us, LogAt B w l d z u n v (Hv.pos ls ls.length) false ∧ Recs B w v us ls := by
 obtain ⟨⟨v, hl, us, hr⟩, _⟩ := h.log
 exact ⟨v, us, hl, hr⟩
theorem HI.crash (h : HI B a w0 w l d z sz u n N k i ls S) : Left S z N false ls nx := fun ts C hC hok => by
 have hp := h.inv.pend
 have hx : ∀ j, Dk.seen C j = Dk.seen S j := fun j => by
  rw [hC, Hv.crash_seen, hp, Hv.seen_nil hp]
  rfl
 have hs : C.size = S.size := by
  rw [hC]
  show (Dk.puts _ _).size = _
  exact (Dk.puts_keeps _ _).2.1
 refine ⟨u, n, ls, (h.inv.again hok hs (by rw [hC]; rfl) (by rw [hC]; rfl) ?_ (fun j _ => hx _) (Or.inl (by rw [hx]))).opn (by rw [hC]; rfl), h.recd, Or.inl rfl⟩
 have := h.nb
 have := h.i40
 show N + 1 ≤ 1099511627776
 omega
theorem HI.dead (h : HI B a w0 w l d z sz u n N k i ls S) (hi : i ≤ 40) : HD B a w0 w l d z sz u n (Hv.pos ls ls.length) N k (i + 1) false ls nx S :=
 ⟨h.log, h.crash, h.size, h.env, h.zz, h.s4, h.s80, by have := h.kb; omega, by have := h.nb; omega, by omega, h.recd, fun e => (by cases e), by have := h.few; omega, fun e => by cases e⟩
theorem left_append {b : List Nat} (h : Hv.Inv S z u n N ls) (hr : Recd ls) (hb : Sha.Byte b ∧ 1 ≤ b.length ∧ b.length ≤ 400) (hm : Hv.pos ls ls.length + Hv.need (b.length : Int) ≤ z) (hN : N + 1 ≤ Hv.top) : Left (Hv.appM (Hv.fst z u) (Hv.pos ls ls.length) n ls.length b S).2 z N true ls (ls ++ [b]) := fun ts C hC hok => by
 have up : ∀ got, Hv.Opn C z u n N got → Hv.Opn C z u n (N + 1) got := fun got hg => { hg with nN := Nat.le_succ_of_le hg.nN, top := hN, other := ⟨Nat.le_succ_of_le hg.other.1, hg.other.2⟩ }
 rcases Hv.app_crash h hb.2.1 (by omega) hm ts C hC hok with h1 | ⟨x, h1, hl, ht⟩
 ·exact ⟨u, n, ls, up _ h1, hr, Or.inl rfl⟩
 ·have hx : Sha.Byte x := by
   have := Hv.record_has h1.ok (h1.recs ls.length (by simp))
   rw [Hv.getD_app_len] at this
   exact this.2
  refine ⟨u, n, ls ++ [x], up _ h1, hr.snoc ⟨hx, by omega, by omega⟩, Or.inr ⟨rfl, Or.inr ⟨x, b, rfl, rfl, hl, ?_⟩⟩⟩
  rwa [laidH_recB (by omega), laidH_recB (by omega)] at ht
theorem left_compact {n' : Nat} {L : List (List Nat)} (h : Hv.Inv S z u n N ls) (hr : Recd ls) (hL : Hv.Small L) (hLr : Recd L) (hfit : Hv.pos L L.length ≤ z) (h1 : n < n') (h2 : n' ≤ N + 1) (h3 : N + 1 ≤ Hv.top) (hn : (Hv.layM (Hv.oth z u) z n' L S).1 = false) : Left (Hv.layM (Hv.oth z u) z n' L S).2 z N true ls L := fun ts C hC hok => by
 rcases Hv.lay_crash h hL hfit h1 h2 h3 hn ts C hC hok with h4 | h4
 ·exact ⟨u, n, ls, h4, hr, Or.inl rfl⟩
 ·exact ⟨1 - u, n', L, h4, hLr, Or.inr ⟨rfl, Or.inl rfl⟩⟩
theorem next_serial (h : Hv.Inv S z u n N ls) (n' : Nat) (hn : n' = max (max 1 ((Hv.headM (Dk.seen S 0)).1 + 1)) ((Hv.headM (Dk.seen S z)).1 + 1)) : n < n' ∧ n' ≤ N + 1 := by
 have hh : Hv.headM (Dk.seen S (Hv.fst z u)) = (n, 2) := by rw [h.head, Hv.headM_of h.n1 (Nat.le_trans h.nN h.top) (Or.inr rfl)]
 have ho := h.other.1
 have hu := h.u2
 have hN := h.nN
 match u, hu with
 | 0, _ =>
  have e0 : Hv.headM (Dk.seen S 0) = (n, 2) := hh
  have e1 : (Hv.headM (Dk.seen S z)).1 ≤ N := ho
  rw [e0] at hn
  dsimp only at hn
  omega
 | 1, _ =>
  have e0 : Hv.headM (Dk.seen S z) = (n, 2) := hh
  have e1 : (Hv.headM (Dk.seen S 0)).1 ≤ N := ho
  rw [e0] at hn
  dsimp only at hn
  omega
end
theorem Inv_arm {S : Dk.D} {z u n N r : Nat} {ls : List (List Nat)} (h : Hv.Inv S z u n N ls) (hok : Dk.Ok { S with armed := true, left := r }) : Hv.Inv { S with armed := true, left := r } z u n N ls :=
 { ok := hok, size := h.size, z2 := h.z2, u2 := h.u2, off := h.off, pend := h.pend, n1 := h.n1, nN := h.nN, top := h.top, head := h.head, other := h.other, recs := fun i hi => Hv.record_cong h.ok (h.recs i hi) (fun _ _ _ => rfl), fit := h.fit, rest := h.rest }
end Go.Proofs.YtdokojlgcplefaaDoor
/- Layer 5's law: what its calls make of a log between two acts. -/
namespace Go.Proofs.YtdokojlgcplefaaDoor
open Go Go.RowKit
def Kp (w w' : World) : Prop := ∀ g cs, Blk w g 36 cs → Blk w' g 36 cs
theorem Kp.below {w w' : World} (h : Below w.heap.size w w') : Kp w w' := fun _ _ hk => hk.below h hk.lt
theorem Kp.tfr {B : Nat} {w w' : World} (h : TFr B w w') : Kp w w' := fun _ _ hk => h.typed _ _ _ hk (by decide) (by decide)
theorem Kp.lfr {B l : Nat} {w w' : World} {cs : Array Value} (h : LFr B l w w') (hl : Blk w l 59 cs) : Kp w w' := fun _ _ hk => h.typed _ _ _ (blk_ne hk hl (by decide)) hk (by decide) (by decide)
def ApEnd (B : Nat) (a : Nat → Addr) (w0 wg w : World) (l d z sz u n N i : Nat) (ls : List (List Nat)) (b : List Nat) (e : Ending) (w' : World) : Prop :=
 (e = .returned .nilIface ∧ (∃ S k, HI B a w0 w' l d z sz u n N k (i + 1) (ls ++ [b]) S) ∧ Kp w w' ∧ ∀ nv nvs nl, NowAt B w0 w nv nvs nl → (∀ g, nv.ownBlock = some g → wg.heap.size ≤ g) → NowAt B w0 w' nv nvs nl) ∨
 ((∃ x, e = .returned (ev x)) ∧ Below w.heap.size w w') ∨
 ((∃ x, e = .returned (ev x)) ∧ (∃ S k, HD B a w0 w' l d z sz u n (Hv.pos ls ls.length) N k (i + 1) true ls (ls ++ [b]) S) ∧ Kp w w' ∧ ∀ nv nvs nl, NowAt B w0 w nv nvs nl → NowAt B w0 w' nv nvs nl)
set_option maxRecDepth 100000 in
theorem hi_append {B : Nat} {a : Nat → Addr} {w0 wg w : World} {l d z sz u n N k i : Nat} {ls : List (List Nat)} {S : Dk.D} (h : HI B a w0 wg l d z sz u n N k i ls S) (hb : Below wg.heap.size wg w) (hi : i ≤ 40) (A : Option Addr) (nb c : Nat) (b : List Nat) (hr : Rd w0 (.slice A nb c) b) (hnb : nb = b.length) (hby : Sha.Byte b) (h4 : b.length ≤ 400) :
  Calls Tryd.prog 10 #[.pointer (some ⟨l, 0, none⟩), .slice A nb c] w (ApEnd B a w0 wg w l d z sz u n N i ls b) := by
 obtain ⟨v, us, hlg, hrg⟩ := h.logBlk
 have hw := h.below hb
 have hl := hlg.below hb
 have hrc := hrg.below hb
 have hD := hw.log.2
 have hE := hw.env
 have hS := h.inv
 have hsz := h.size
 have hz2 := hS.z2
 have h80 := h.s80
 have hkb := h.kb
 have hzz := h.zz
 have hu2 := hS.u2
 have hfew := ((hS.more (N' := N) (Nat.le_refl _) hS.top)).fit
 have htop : n ≤ Hv.top := Nat.le_trans hS.nN hS.top
 have hN : N + 1 ≤ Hv.top := by
  have := h.nb
  show N + 1 ≤ 1099511627776
  omega
 rcases Nat.eq_zero_or_pos nb with h0 | h0
 ·refine (append_zero (_k := k) (_S := S) a w0 w n _ v hl hE A nb c (by rw [h0]; exact Hv.need_none (Or.inl (by omega))) (by omega)).mono ?_
  rintro e w' ⟨rfl, hb'⟩
  exact Or.inr (Or.inl ⟨⟨_, rfl⟩, hb'⟩)
 ·rcases Nat.lt_or_ge z (Hv.pos ls ls.length + Hv.need (nb : Int)) with hm | hm
  ·refine (append_full a w0 w n _ v (by omega) hl hD hz2 hS.size hE A nb c _ h0 (by omega) rfl hS.fit hm).mono ?_
   rintro e w' ⟨rfl, hb'⟩
   exact Or.inr (Or.inl ⟨⟨_, rfl⟩, hb'⟩)
  ·have hbb : Sha.Byte b ∧ 1 ≤ b.length ∧ b.length ≤ 400 := ⟨hby, by omega, h4⟩
   have hm2 : Hv.pos ls ls.length + Hv.need (b.length : Int) ≤ z := by rw [← hnb]; exact hm
   have hndz : Hv.need (nb : Int) ≤ 95 := Hv.need_le _
   have hlen : ls.length ≤ 90000 := by
    have hfe : 1 + ls.length ≤ Hv.pos ls ls.length := by
     suffices H : ∀ i, i ≤ ls.length → 1 + i ≤ Hv.pos ls i from H _ (Nat.le_refl _)
     intro i
     induction i with
     | zero => intro _; exact Nat.le_refl _
     | succ i ih =>
      intro hi
      have h1 := ih (by omega)
      have h2 := (Hv.record_has hS.ok (hS.recs i hi)).1
      have h3 := Hv.need_pos h2.l1 h2.l2
      rw [Hv.pos_step]
      omega
    have := hS.fit
    omega
   refine (append_any a w0 w n _ v us ls (by omega) hl hrc hD hz2 hS.size (by omega) hE htop hlen A nb c _ b hnb.symm h0 (by omega) (fun w' ht => hr.below (ht.run hE.low hE.bel) (Nat.le_refl _)) hby rfl hm).mono ?_
   rintro e w' (⟨hM, rfl, hL, hf⟩ | ⟨hM, rfl, hL, hf⟩)
   ·rw [hnb] at hL
    refine Or.inl ⟨rfl, ⟨_, k + Hv.need (b.length : Int) + 1, { log := ?_, inv := Hv.app_yes hS hbb.2.1 (by omega) hm2 hM hL.2.ok, size := ?_, env := hE.afr hf, zz := h.zz, s4 := h.s4, s80 := h.s80, kb := ?_, nb := by have := h.nb; omega, i40 := by omega, recd := h.recd.snoc hbb }⟩, ?_, ?_⟩
    ·rw [Hv.pos_app_all]; exact hL
    ·rw [← hsz]; exact (Hv.Pres.and Hv.nums_putM Hv.nums_sy S ⟨rfl, rfl⟩).1
    ·rw [← hnb]; omega
    ·exact fun g cs hk => hf.typed _ _ _ (blk_ne hk hl.blk (by decide)) (fun e => by
      obtain ⟨_, cs2, hc⟩ := own_blk hrc.row e.symm
      exact blk_ne hk hc (by decide) rfl) hk (by decide) (by decide)
    ·exact fun nv nvs nl hn hg => hn.afr hf hl.blk (fun g e1 e2 => by
      obtain ⟨_, cs2, hc⟩ := own_blk hrg.row e2.symm
      have := hg g e1
      have := hc.lt
      omega) (fun g e => (own_blk hrc.row e).2)
   ·rw [hnb] at hL
    refine Or.inr (Or.inr ⟨⟨_, rfl⟩, ⟨_, _, { log := hL, left := left_append hS h.recd hbb hm2 hN, size := ?_, env := hE.lfr hf, zz := h.zz, s4 := h.s4, s80 := h.s80, kb := ?_, nb := by have := h.nb; omega, i40 := by omega, recd := h.recd, recx := fun _ => h.recd.snoc hbb, lenl := by have := h.few; omega, lenx := fun _ => by have := h.few; rw [List.length_append, List.length_singleton]; omega }⟩, Kp.lfr hf hl.blk, fun nv nvs nl hn => hn.lfr hf hl.blk⟩)
    ·rw [← hsz]; exact (Hv.Pres.and Hv.nums_putM Hv.nums_sy S ⟨rfl, rfl⟩).1
    ·rw [← hnb]; omega
def CoEnd (B : Nat) (a : Nat → Addr) (w0 w : World) (l d z sz u n N i : Nat) (ls L : List (List Nat)) (e : Ending) (w' : World) : Prop :=
 (e = .returned .nilIface ∧ (∃ S k u' n', HI B a w0 w' l d z sz u' n' (N + 1) k (i + 1) L S) ∧ Kp w w' ∧ ∀ nv nvs nl, NowAt B w0 w nv nvs nl → NowAt B w0 w' nv nvs nl) ∨
 ((∃ x, e = .returned (ev x)) ∧ Below w.heap.size w w') ∨
 ((∃ x, e = .returned (ev x)) ∧ (∃ S k, HD B a w0 w' l d z sz u n (Hv.pos ls ls.length) N k (i + 1) true ls L S) ∧ Kp w w' ∧ ∀ nv nvs nl, NowAt B w0 w nv nvs nl → NowAt B w0 w' nv nvs nl)
set_option maxRecDepth 100000 in
theorem hi_compact {B : Nat} {a : Nat → Addr} {w0 w : World} {l d z sz u n N k i : Nat} {ls L : List (List Nat)} {S : Dk.D} (h : HI B a w0 w l d z sz u n N k i ls S) (hi : i ≤ 40) (A : Option Addr) (c : Nat) (vs : List Value) (hr : RdLL w0 (.slice A L.length c) vs L) (hby : ∀ y ∈ L, Sha.Byte y) (h12 : L.length ≤ 12) (h4 : ∀ y ∈ L, y.length ≤ 400) :
  Calls Tryd.prog 12 #[.pointer (some ⟨l, 0, none⟩), .slice A L.length c] w (CoEnd B a w0 w l d z sz u n N i ls L) := by
 obtain ⟨v, us, hl, hrc⟩ := h.logBlk
 have hD := h.log.2
 have hE := h.env
 have hS := h.inv
 have hsz := h.size
 have h80 := h.s80
 have hkb := h.kb
 have hzz := h.zz
 have hN : N + 1 ≤ Hv.top := by
  have := h.nb
  show N + 1 ≤ 1099511627776
  omega
 obtain ⟨n', hn'⟩ : ∃ n', n' = max (max 1 ((Hv.headM (Dk.seen S 0)).1 + 1)) ((Hv.headM (Dk.seen S z)).1 + 1) := ⟨_, rfl⟩
 obtain ⟨hn1, hn2⟩ := next_serial hS n' hn'
 have hu2 := hS.u2
 have hv : v.oneCell' = true := by
  obtain ⟨A', c', rfl⟩ := row_slice hrc.row
  rfl
 refine (compact_any (V := 1 - u) (f := Hv.oth z u) a w0 w n _ v (by omega) (Hv.fst_oth hS.z2 hS.u2).2.1 hl hv hD hS.off hS.z2 hS.size (by omega) hE (Hv.headM (Dk.seen S 0)).1 (Hv.headM (Dk.seen S 0)).2 (Hv.headM (Dk.seen S z)).1 (Hv.headM (Dk.seen S z)).2 rfl rfl n' hn' (Nat.le_trans hn2 hN) us ls hrc A c vs L (fun w' ht => hr.below (ht.run hE.low hE.bel) (Nat.le_refl _)) hby (by omega) (fun y hy => Nat.le_trans (h4 y hy) (by decide))).mono ?_
 rintro e w' (⟨_, rfl, hb⟩ | ⟨_, _, rfl, hb⟩ | ⟨hsm, hfit, hP⟩)
 ·exact Or.inr (Or.inl ⟨⟨_, rfl⟩, hb⟩)
 ·exact Or.inr (Or.inl ⟨⟨_, rfl⟩, hb⟩)
 ·have hrL : Recd L := fun y hy => by
   obtain ⟨q, hq, rfl⟩ := List.getElem_of_mem hy
   have := (hsm q hq).1
   rw [List.getD_eq_getElem?_getD, List.getElem?_eq_getElem hq] at this
   exact ⟨hby _ hy, this, h4 _ hy⟩
  have hs2 : (Hv.layM (Hv.oth z u) z n' L S).2.size = sz := by rw [← hsz]; exact (Hv.nums_lay S ⟨rfl, rfl⟩).1
  rcases hP with ⟨hM, rfl, hL, hf⟩ | ⟨hM, rfl, hL, hf⟩
  ·exact Or.inl ⟨rfl, ⟨_, _, 1 - u, n', { log := hL, inv := Hv.lay_yes hS hsm hfit hn1 hn2 hN hM hL.2.ok, size := hs2, env := hE.lfr hf, zz := h.zz, s4 := h.s4, s80 := h.s80, kb := by omega, nb := by have := h.nb; omega, i40 := by omega, recd := hrL }⟩, Kp.lfr hf hl.blk, fun nv nvs nl hn => hn.lfr hf hl.blk⟩
  ·exact Or.inr (Or.inr ⟨⟨_, rfl⟩, ⟨_, _, { log := hL, left := left_compact hS h.recd hsm hrL hfit hn1 hn2 hN hM, size := hs2, env := hE.lfr hf, zz := h.zz, s4 := h.s4, s80 := h.s80, kb := by omega, nb := by have := h.nb; omega, i40 := by omega, recd := h.recd, recx := fun _ => hrL, lenl := by have := h.few; omega, lenx := fun _ => by omega }⟩, Kp.lfr hf hl.blk, fun nv nvs nl hn => hn.lfr hf hl.blk⟩)
end Go.Proofs.YtdokojlgcplefaaDoor
/- Layer 5's law: the power armed, a crash, the log opened anew. -/
namespace Go.Proofs.YtdokojlgcplefaaDoor
open Go Go.RowKit
theorem hi_arm {B : Nat} {a : Nat → Addr} {w0 w : World} {l d z sz u n N k i : Nat} {ls : List (List Nat)} {S : Dk.D} (h : HI B a w0 w l d z sz u n N k i ls S) (r : Nat) (hr : r ≤ 9223372036854775807) :
  Calls Tryd.prog 8 #[.pointer (some ⟨d, 0, none⟩), .int .i64 (r : Int)] w fun e w' => e = .returned .nilIface ∧ (∃ S', HI B a w0 w' l d z sz u n N k i ls S') ∧ TFr B w w' := by
 obtain ⟨⟨v, hl, us, hrc⟩, ms, ml, vd, hd⟩ := h.log
 refine (dk_arm r w hd h.inv.off hr).mono ?_
 rintro e w' ⟨rfl, h1, h2⟩
 have ht := hd.tfr (h2 vd)
 exact ⟨rfl, ⟨_, { h with log := ⟨⟨v, hl.tfr ht, us, hrc.tfr ht⟩, ⟨_, _, _, h1⟩⟩, inv := Inv_arm h.inv h1.ok, size := h.size, env := h.env.tfr ht }⟩, ht⟩
structure HC (B : Nat) (a : Nat → Addr) (w0 w : World) (l d z sz u n N k i : Nat) (was : Bool) (ls nx got : List (List Nat)) (C : Dk.D) : Prop where
 log : ∃ u n v m, LogAt B w l d z u n v m was
 disk : DkX B w d C k
 opn : Hv.Opn C z u n (N + 1) got
 size : C.size = sz
 env : Env B a w0 w
 zz : z = sz / 2
 s4 : 4 ≤ sz
 s80 : sz ≤ 80
 kb : k ≤ 500 + 1000 * i
 nb : N ≤ i
 i40 : i ≤ 41
 rgot : Recd got
 recd : Recd ls
 recx : was = true → Recd nx
 lenl : ls.length ≤ 100
 lenx : was = true → nx.length ≤ 100
 what : got = ls ∨ (was = true ∧ (got = nx ∨ ∃ x b, got = ls ++ [x] ∧ nx = ls ++ [b] ∧ x.length = b.length ∧ laidH n ls.length x = laidH n ls.length b))
theorem hd_crash {B : Nat} {a : Nat → Addr} {w0 w : World} {l d z sz u n m N k i : Nat} {was : Bool} {ls nx : List (List Nat)} {S : Dk.D} (h : HD B a w0 w l d z sz u n m N k i was ls nx S) (A : Option Addr) (c : Nat) (ts : List Bool) (hr : RdT w A ts) :
  Calls Tryd.prog 15 #[.pointer (some ⟨d, 0, none⟩), .slice A ts.length c] w fun e w' => (∃ q : Int, e = .returned (.int .i64 q)) ∧ (∃ u' n' got C, HC B a w0 w' l d z sz u' n' N k i was ls nx got C) ∧ TFr B w w' := by
 obtain ⟨⟨v, hl, us, hrc⟩, ms, ml, vd, hd⟩ := h.log
 have hk := h.kb
 have hi := h.i40
 refine (dk_crash A ts.length c ts w hd rfl hr (by omega)).mono ?_
 rintro e w' ⟨rfl, ⟨vd', h1⟩, h2⟩
 have ht := hd.tfr (h2 vd)
 obtain ⟨u', n', got, ho, hrg, hwh⟩ := h.left ts _ rfl h1.ok
 refine ⟨⟨_, rfl⟩, ⟨u', n', got, _, { log := ⟨_, _, _, _, hl.tfr ht⟩, disk := ⟨_, _, _, h1⟩, opn := ho, size := ?_, env := h.env.tfr ht, zz := h.zz, s4 := h.s4, s80 := h.s80, kb := hk, nb := h.nb, i40 := hi, rgot := hrg, recd := h.recd, recx := h.recx, lenl := h.lenl, lenx := h.lenx, what := hwh }⟩, ht⟩
 show (Dk.puts _ _).size = _
 rw [(Dk.puts_keeps _ _).2.1]
 exact h.size
def ReP (B : Nat) (a : Nat → Addr) (w0 w : World) (d z sz u n N i : Nat) (got : List (List Nat)) (e : Ending) (w' : World) : Prop :=
 ∃ l k S, e = .returned (.tuple #[.pointer (some ⟨l, 0, none⟩), .nilIface]) ∧ HI B a w0 w' l d z sz u n (N + 1) k i got S ∧ TFr B w w'
theorem hc_open {B : Nat} {a : Nat → Addr} {w0 w : World} {l d z sz u n N k i : Nat} {was : Bool} {ls nx got : List (List Nat)} {C : Dk.D} (h : HC B a w0 w l d z sz u n N k i was ls nx got C) :
  Calls Tryd.prog 7 #[.pointer (some ⟨d, 0, none⟩)] w (ReP B a w0 w d z sz u n N i got) := by
 have hzz := h.zz
 have h80 := h.s80
 have hi := h.i40
 have hk := h.kb
 refine (hopen_any a w0 w h.opn h.disk h.env (by rw [h.size]; exact hzz) (by omega)).mono ?_
 rintro e w' ⟨l', S', rfl, hlog, hinv, _, ht, _, hs⟩
 refine ⟨l', _, S', rfl, { log := hlog, inv := hinv, size := hs.trans h.size, env := h.env.tfr ht, zz := hzz, s4 := h.s4, s80 := h80, kb := by omega, nb := by have := h.nb; omega, i40 := by omega, recd := h.rgot }, ht⟩
end Go.Proofs.YtdokojlgcplefaaDoor
/- Layer 5: HalvesFull, the law. -/
namespace Go.Proofs.YtdokojlgcplefaaDoor
open Go Go.RowKit
def IRow (w : World) (A : Option Addr) (ns : List Int) : Prop := ∀ i (h : i < ns.length), ∃ b o, A = some ⟨b, o, none⟩ ∧ b < w.heap.size ∧ w.cell? ⟨b, o + i, none⟩ = some (.int .i64 ns[i])
theorem rem_nat (x : Int) (m : Nat) (h0 : 0 < m) (hm : m ≤ 1000) (p : Nat) (hp : p ≤ 1000) : ∃ r : Nat, r < m ∧ (IntKind.u64.wrap x).tmod (m : Int) = (r : Int) ∧ wrap64 (r : Int) = (r : Int) ∧ wrap64 ((p : Int) + (r : Int)) = ((p + r : Nat) : Int) := by
 have h1 : 0 ≤ x % 18446744073709551616 := Int.emod_nonneg _ (by omega)
 have h2 : (IntKind.u64.wrap x).tmod (m : Int) = (x % 18446744073709551616) % (m : Int) := by
  rw [wrap_u64, Int.tmod_eq_emod_of_nonneg h1]
 have h3 : 0 ≤ (x % 18446744073709551616) % (m : Int) := Int.emod_nonneg _ (by omega)
 have h4 : (x % 18446744073709551616) % (m : Int) < (m : Int) := Int.emod_lt_of_pos _ (by omega)
 refine ⟨((x % 18446744073709551616) % (m : Int)).toNat, by omega, by rw [h2]; omega, IntWalk.wrap64_in _ (by omega), ?_⟩
 rw [IntWalk.wrap64_in _ (by omega)]
 omega
namespace Hv
end Hv
theorem IRow.get {w w' : World} {A : Option Addr} {ns : List Int} (h : IRow w A ns) (hb : Below w.heap.size w w') {i : Nat} (hi : i < ns.length) : ∃ b o, A = some ⟨b, o, none⟩ ∧ w'.cell? ⟨b, o + i, none⟩ = some (.int .i64 ns[i]) := by
 obtain ⟨b, o, hA, hl, hc⟩ := h i hi
 exact ⟨b, o, hA, (hb.cell (p := ⟨b, o + i, none⟩) hl).trans hc⟩
end Go.Proofs.YtdokojlgcplefaaDoor
