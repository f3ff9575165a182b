/- Reading texts and objects' names: (*In).Text, (*In).Oid. -/
import Derived.Test.YtdokojlgcplefaaDoorMOct8s
namespace Go.Proofs.YtdokojlgcplefaaDoor
open Go Go.RowKit
theorem text_short (i r : Nat) (aS : Addr) (xs : List Nat) (w0 w : World) (h : InAt w0 w i r xs) (hl : xs.length < 2) (hS : w.cell? ⟨6, 0, none⟩ = some (ev aS)) :
  Calls Tryd.prog 77 #[.pointer (some ⟨i, 0, none⟩)] w (Fails w r (ev aS)) := by
 have CN : Calls Tryd.prog 87 #[.pointer (some ⟨i, 0, none⟩), .int .i64 2] w (Fails w r (ev aS)) := number_short i r 2 aS xs w0 w h hl hS
 clear h
 go_enter Tryd.func77, Tryd.ntmps77
 go_wp2_with (go_at_call 87; refine CN.mono ?_; rintro e w1 ⟨rfl, hd, hg⟩)
 exact ⟨rfl, rfl, hd, hg⟩
theorem text_short2 (i r : Nat) (aS : Addr) (xs : List Nat) (w0 w : World) (h : InAt w0 w i r xs) (hl : 2 ≤ xs.length) (hl2 : xs.length < 2 + Oc.val (xs.take 2)) (hb : Oc.bytes xs) (hr1 : r ≠ 6) (hS : w.cell? ⟨6, 0, none⟩ = some (ev aS)) :
  Calls Tryd.prog 77 #[.pointer (some ⟨i, 0, none⟩)] w (Fails w r (ev aS)) := by
 have CN : Calls Tryd.prog 87 #[.pointer (some ⟨i, 0, none⟩), .int .i64 2] w _ := number_ok i r 2 xs w0 w h (by omega) hl hb
 have hvl := Oc.val_lt 2 (xs.take 2) (Oc.bytes_take hb 2) (by rw [List.length_take]; omega)
 generalize Oc.val (xs.take 2) = V at CN hvl hl2
 have q2 := to_i64 V (by omega)
 have hlV : (xs.drop 2).length < V := by rw [List.length_drop]; omega
 clear h
 go_enter Tryd.func77, Tryd.ntmps77
 go_wp2_with (first | (go_at_call 87; refine CN.mono ?_; rintro e w1 ⟨rfl, hi, hg⟩; have CX := next_short i r V aS _ w0 w1 hi hlV (hg.cell hS (fun e => hr1 (by injection e with e; exact e.symm))); have HG := Lib.hid hg; clear hg hi) | (go_at_call 64; refine CX.mono ?_; rintro e w2 ⟨rfl, hd, hg⟩))
 exact ⟨rfl, rfl, hd, only_trans HG.out hg⟩
def Own (B : Nat) (w : World) (A : Option Addr) (n c : Nat) (xs : List Nat) (t : TypeId) : Prop := Rd w (.slice A n c) xs ∧ xs.length = n ∧ (0 < n → ∃ g cs, A = some ⟨g, 0, none⟩ ∧ B ≤ g ∧ Blk w g t cs)
theorem text_ok (i r : Nat) (xs : List Nat) (w0 w : World) (h : InAt w0 w i r xs) (hl : 2 ≤ xs.length) (hl2 : 2 + Oc.val (xs.take 2) ≤ xs.length) (hb : Oc.bytes xs) (_hrl : r < w.heap.size) :
  Calls Tryd.prog 77 #[.pointer (some ⟨i, 0, none⟩)] w fun e w' => ∃ A c, e = .returned (.slice A (Oc.val (xs.take 2)) c) ∧ Own w.heap.size w' A (Oc.val (xs.take 2)) c ((xs.drop 2).take (Oc.val (xs.take 2))) 5 ∧ InAt w0 w' i r (xs.drop (2 + Oc.val (xs.take 2))) ∧ w.grownBy w' (some r) := by
 have CN : Calls Tryd.prog 87 #[.pointer (some ⟨i, 0, none⟩), .int .i64 2] w _ := number_ok i r 2 xs w0 w h (by omega) hl hb
 have hvl := Oc.val_lt 2 (xs.take 2) (Oc.bytes_take hb 2) (by rw [List.length_take]; omega)
 generalize Oc.val (xs.take 2) = V at CN hvl hl2 ⊢
 have q2 := to_i64 V (by omega)
 have hlV : V ≤ (xs.drop 2).length := by rw [List.length_drop]; omega
 have hyl : ((xs.drop 2).take V).length = V := by rw [List.length_take]; omega
 have HDD : Hid ((xs.drop 2).drop V = xs.drop (2 + V)) := Lib.hid (by rw [List.drop_drop])
 obtain ⟨ys, hys⟩ : ∃ ys, ys = (xs.drop 2).take V := ⟨_, rfl⟩
 rw [← hys] at hyl ⊢
 have HYS := Lib.hid hys
 clear h hys
 go_enter Tryd.func77, Tryd.ntmps77
 go_wp2_with (first | (go_at_call 87; refine CN.mono ?_; rintro e w1 ⟨rfl, hi, hg⟩; have CX := next_ok i r V _ w0 w1 hi hlV; have HG := Lib.hid hg; clear hg hi) | (go_at_call 64; refine CX.mono ?_; rintro e w2 ⟨v, rfl, hv, hi, hg⟩; have HI2 := Lib.hid hi; have HG2 := Lib.hid hg; rw [← HYS.out] at hv; have CC := clone_any v ys w2 (hv.below hi.bel.1 (Nat.le_refl _)) (by omega); clear hg hi hv) | (go_at_call 27; refine CC.mono ?_; rintro e w3 ⟨A, c, rfl, hr, hn, hbl⟩; have HR3 := Lib.hid hr; have HN3 := Lib.hid hn; have HB3 := Lib.hid hbl; clear hr hn hbl))
 go_ret
 have hg1 := only_trans HG.out HG2.out
 refine ⟨A, c, by rw [← hyl]; rfl, ⟨by rw [← hyl]; exact HR3.out, hyl, fun h0 => ?_⟩, ?_, only_trans hg1 (only_of_below HB3.out _)⟩
 ·obtain ⟨g, cs, e1, e2, e3⟩ := HN3.out (by omega)
  exact ⟨g, cs, e1, Nat.le_trans hg1.size e2, e3⟩
 ·rw [← HDD.out]
  exact HI2.out.below HB3.out
end Go.Proofs.YtdokojlgcplefaaDoor
/- Reading an object's name: (*In).Oid. -/
namespace Go.Proofs.YtdokojlgcplefaaDoor
open Go Go.RowKit
theorem oid_size : (Tryd.prog.info? 116).map (·.size) = some 32 := by kernel_rfl
abbrev oidBox (w : World) : World := w.alloc (.cells (u8s (List.replicate 32 0)) 116)
theorem only_setRow' {a w : World} {row : Option Nat} (h : a.grownBy w row) {g' : Nat} (hp : a.heap.size ≤ g') (cs : Array Value) : a.grownBy (w.setRow g' cs) row :=
 only_step h rfl rfl rfl (by simp [World.setRow]) fun i hi hne => setRow_other w g' i cs (by omega)
theorem wp_copy32 {o : Oper} {a : Act} {w : World} {K : Act → World → Prop} {Q : Exit → Act → World → Prop} (d s : Operand)
  (ho : o.op = .call { callee := .builtin .copy, args := #[d, s], argTypes := #[39, 39] }) (g : Nat) (t : TypeId) (zs : List Nat) (hg : Blk w g t (u8s zs)) (hz : zs.length = 32)
  (hd : a.eval d = .slice (some ⟨g, 0, none⟩) 32 32) (ad : Addr) (c : Nat) (hs : a.eval s = .slice (some ad) 32 c) (ys : List Nat) (hy : ys.length = 32)
  (hsrc : ∀ i, i < 32 → w.cell? (ad.add i) = some (.int .u8 ((ys.getD i 0 : Nat) : Int))) (h : K (a.put o.dst (.int .i64 32)) (w.setRow g (u8s ys))) : o.wp Tryd.prog a w K Q := by
 have hrun := run_copy_row (P := Tryd.prog) w 39 39 o.type 5 g 0 32 32 ad 32 c (u8s zs) t (cellsB ys) Tryd.underlying39 (by kernel_rfl) hg (by rw [cellsB_len, hy]; rfl) (fun j v hj => by
  have hjl : j < ys.length := by have := (List.getElem?_eq_some_iff.1 hj).1; rwa [cellsB_len] at this
  rw [cellsB_get hjl] at hj
  rw [hsrc j (by omega), hj]) (by rw [cellsB_len, u8s_size]; omega) (cellsB_one _)
 have e : ((u8s zs).toList.take 0 ++ cellsB ys ++ (u8s zs).toList.drop (0 + (cellsB ys).length)).toArray = u8s ys := by
  rw [cellsB_len, hy]
  simp [u8s, cellsB, hz]
 rw [e, cellsB_len, hy] at hrun
 unfold Oper.wp
 simp [execOp, ho, resolve, invoke, builtin, hd, hs, hrun, Result.andThen]
 exact h
theorem below_boxes (w : World) : Below w.heap.size w (oidBox (oidBox w)) := ((Below.refl _ _).alloc (Nat.le_refl _) _).alloc ((Below.refl _ _).alloc (Nat.le_refl _) _).size _
theorem oid_short (i r : Nat) (aS : Addr) (xs : List Nat) (w0 w : World) (h : InAt w0 w i r xs) (hl : xs.length < 32) (hS : w.cell? ⟨6, 0, none⟩ = some (ev aS)) :
  Calls Tryd.prog 76 #[.pointer (some ⟨i, 0, none⟩)] w (Fails w r (ev aS)) := by
 have hb := below_boxes w
 have CN : Calls Tryd.prog 64 #[.pointer (some ⟨i, 0, none⟩), .int .i64 32] (oidBox (oidBox w)).drew _ := next_short i r 32 aS xs w0 (oidBox (oidBox w)).drew (h.below (below_drewN hb 1)) hl ((below_drewN hb 1).cell (block_lt_of_cell hS) |>.trans hS)
 have HB := Lib.hid (below_drewN hb 1)
 clear h hb
 go_enter Tryd.func76, Tryd.ntmps76
 go_wp2
 refine wp_region_held (S := fun _ => True) (by kernel_rfl) ?_
 change wpAnyH _ _ _ _ _ _ _ _ (oidBox (oidBox w)).drew
 refine wpAnyH_take (i := 0) (v := ?_) rfl (by kernel_rfl) (by kernel_rfl) (by kernel_rfl) (fun _ _ _ h => h) (Or.inl ⟨by rfl, ?_⟩) trivial ?_
 rotate_left
 ·intro w _; go_simp; with_reducible rfl
 try simp only [Act.put, List.getElem_toArray, List.getElem_cons_zero, List.setIfInBounds_toArray, List.set_cons_zero, List.set_cons_succ]
 refine wpAnyH_take (i := 1) (v := ?_) rfl (by kernel_rfl) (by kernel_rfl) (by kernel_rfl) (fun _ _ _ h => h) (Or.inl ⟨by rfl, ?_⟩) trivial ?_
 rotate_left
 ·intro w _; go_simp; with_reducible rfl
 try simp only [Act.put, List.getElem_toArray, List.getElem_cons_zero, List.getElem_cons_succ, List.setIfInBounds_toArray, List.set_cons_zero, List.set_cons_succ]
 refine all_one (i := 2) (by kernel_rfl) rfl (by rfl) (fun K hK => ?_)
 go_simp
 refine CN.mono ?_
 rintro e w' ⟨rfl, hd, hg⟩
 exact ⟨rfl, rfl, hd, only_trans (only_of_below HB.out _) hg⟩
theorem oid_ok (i r : Nat) (xs : List Nat) (w0 w : World) (h : InAt w0 w i r xs) (hl : 32 ≤ xs.length) :
  Calls Tryd.prog 76 #[.pointer (some ⟨i, 0, none⟩)] w fun e w' => e = .returned (.agg (u8s (xs.take 32))) ∧ InAt w0 w' i r (xs.drop 32) ∧ w.grownBy w' (some r) := by
 have hb := below_boxes w
 have CN : Calls Tryd.prog 64 #[.pointer (some ⟨i, 0, none⟩), .int .i64 32] (oidBox (oidBox w)).drew _ := next_ok i r 32 xs w0 (oidBox (oidBox w)).drew (h.below (below_drewN hb 1)) hl
 have HB := Lib.hid (below_drewN hb 1)
 have hyl : (xs.take 32).length = 32 := by rw [List.length_take]; omega
 obtain ⟨ys, hys⟩ : ∃ ys, ys = xs.take 32 := ⟨_, rfl⟩
 rw [← hys] at CN hyl ⊢
 have HYL := Lib.hid hyl
 have HR0 : Hid (Blk (oidBox (oidBox w)).drew w.heap.size 116 (u8s (List.replicate 32 0))) := Lib.hid (((Blk.new w _ _).alloc _).drew)
 have HR1 : Hid (Blk (oidBox (oidBox w)).drew (w.heap.size + 1) 116 (u8s (List.replicate 32 0))) := Lib.hid (by
  have h := (Blk.new (oidBox w) 116 (u8s (List.replicate 32 0))).drew
  rwa [show (oidBox w).heap.size = w.heap.size + 1 by simp] at h)
 have HLT := Lib.hid h.lt
 have HLI : Hid (i < w.heap.size ∧ w0.heap.size ≤ w.heap.size) := Lib.hid (by obtain ⟨v, k, _, k2, _⟩ := h; exact ⟨k.i_.lt, k2.size⟩)
 clear h hb hys hyl
 go_enter Tryd.func76, Tryd.ntmps76
 go_wp2
 refine wp_region_held (S := fun _ => True) (by kernel_rfl) ?_
 change wpAnyH _ _ _ _ _ _ _ _ (oidBox (oidBox w)).drew
 refine wpAnyH_take (i := 0) (v := ?_) rfl (by kernel_rfl) (by kernel_rfl) (by kernel_rfl) (fun _ _ _ h => h) (Or.inl ⟨by rfl, ?_⟩) trivial ?_
 rotate_left
 ·intro w _; go_simp; with_reducible rfl
 try simp only [Act.put, List.getElem_toArray, List.getElem_cons_zero, List.setIfInBounds_toArray, List.set_cons_zero, List.set_cons_succ]
 refine wpAnyH_take (i := 1) (v := ?_) rfl (by kernel_rfl) (by kernel_rfl) (by kernel_rfl) (fun _ _ _ h => h) (Or.inl ⟨by rfl, ?_⟩) trivial ?_
 rotate_left
 ·intro w _; go_simp; with_reducible rfl
 try simp only [Act.put, List.getElem_toArray, List.getElem_cons_zero, List.getElem_cons_succ, List.setIfInBounds_toArray, List.set_cons_zero, List.set_cons_succ]
 refine all_one (i := 2) (by kernel_rfl) rfl (by rfl) (fun K hK => ?_)
 go_simp
 refine CN.mono ?_
 rintro e w1 ⟨v, rfl, hv, hi, hg⟩
 obtain ⟨A, c, rfl, hc, hA⟩ := (hv.below hi.bel.1 (Nat.le_refl _)).open_ HYL.out
 obtain ⟨b, o, rfl, hx⟩ := hA (by omega)
 have HX := Lib.hid hx
 have HI := Lib.hid hi
 have HG := Lib.hid (only_trans (only_of_below HB.out (some r)) hg)
 have HQ0 : Hid (Blk w1 w.heap.size 116 (u8s (List.replicate 32 0))) := Lib.hid (HR0.out.grown hg (fun e => by injection e with e; have := HLT.out; omega))
 have HQ1 : Hid (Blk w1 (w.heap.size + 1) 116 (u8s (List.replicate 32 0))) := Lib.hid (HR1.out.grown hg (fun e => by injection e with e; have := HLT.out; omega))
 clear hx hi hg hv hA
 dsimp only
 refine hK _ _ trivial ?_; clear hK K
 try simp only [Act.put, List.getElem_toArray, List.getElem_cons_zero, List.getElem_cons_succ, List.setIfInBounds_toArray, List.set_cons_zero, List.set_cons_succ]
 refine all_one (i := 3) (by kernel_rfl) rfl (by rfl) (fun K hK => ?_)
 refine wp_copy32 (.tmp 4) (.tmp 6) rfl (w.heap.size + 1) 116 (List.replicate 32 0) HQ1.out (by decide) rfl ⟨b, o, none⟩ c rfl ys HYL.out (fun j hj => by rw [Addr.add_mid]; exact HX.out j hj) ?_
 refine hK _ _ trivial ?_; clear hK K
 try simp only [Act.put, List.getElem_toArray, List.getElem_cons_zero, List.getElem_cons_succ, List.setIfInBounds_toArray, List.set_cons_zero, List.set_cons_succ]
 refine wpAnyH_done (by kernel_rfl) ?_ _
 have HW1 : Hid (Blk (w1.setRow (w.heap.size + 1) (u8s ys)) (w.heap.size + 1) 116 (u8s ys)) := Lib.hid (HQ1.out.row _)
 have HW0 : Hid (Blk (w1.setRow (w.heap.size + 1) (u8s ys)) w.heap.size 116 (u8s (List.replicate 32 0))) := Lib.hid (HQ0.out.farRow (by omega) _)
 go_wp2_with (first | (refine wpList_load_row rfl 116 (.tmp 3) rfl (w.heap.size + 1) rfl 116 (u8s ys) (0,0) _ HW1.out Tryd.underlying116 rfl (by rw [u8s_size, HYL.out]; exact oid_size) ?_) | (refine wpList_store_row rfl 116 (.tmp 2) (.tmp 8) rfl w.heap.size _ rfl rfl 116 _ HW0.out (by rw [u8s_size, HYL.out]; exact oid_size) (by rw [u8s_size, u8s_size, HYL.out]; rfl) (u8s_one _) ?_))
 have hlt := HLT.out
 refine bodyPost_ret (v := .agg (u8s ys)) (results_cell_row rfl _ _ w.heap.size 116 _ (0, 0) _ rfl (HW0.out.row _) Tryd.underlying116 rfl (by rw [u8s_size, HYL.out]; exact oid_size)) rfl ⟨rfl, ?_, only_setRow' (only_setRow' HG.out (by omega) _) (by omega) _⟩
 obtain ⟨v, k, hr, hw, h1, h2⟩ := HI.out
 have hli := HLI.out
 exact ⟨v, ⟨(k.i_.farRow (by omega) _).farRow (by omega) _, (k.r_.farRow (by omega) _).farRow (by omega) _, k.ne⟩, hr, below_row (below_row hw (by omega) _) (by omega) _, h1, h2⟩
end Go.Proofs.YtdokojlgcplefaaDoor
/- What the walk of (*In).fields keeps: the fields read so far lie in a row of the call's own, their bytes in blocks of their own. -/
namespace Go.Proofs.YtdokojlgcplefaaDoor
open Go Go.RowKit
def shN (s : ByteArray) : List Nat := s.data.toList.map (·.toNat)
theorem shN_len (s : ByteArray) : (shN s).length = s.size := by simp [shN]
theorem shN_get {s : ByteArray} {k : Nat} (h : k < s.size) : (shN s)[k]'(by rw [shN_len]; exact h) = s[k].toNat := by simp [shN, ByteArray.getElem_eq_getElem_data]
namespace Oc
theorem reads_ok_next {sh xs : List Nat} {k c n p m : Nat} {l : List (Nat × List Nat)} {x : List Nat} (h : reads (sh.take k) xs = .ok l p) (hk : k < sh.length) (hc : sh[k] = c) (hs : step c (xs.drop p) = .ok n x m) : reads (sh.take (k + 1)) xs = .ok (l ++ [(n, x)]) (p + m) := by
 rw [reads_take hk, h, Got.next, hc]
 simp only [hs]
theorem reads_bad_next {sh xs : List Nat} {k c p e : Nat} {l : List (Nat × List Nat)} (h : reads (sh.take k) xs = .ok l p) (hk : k < sh.length) (hc : sh[k] = c) (hs : step c (xs.drop p) = .bad e) : reads sh xs = .bad e := by
 refine reads_bad (k := k + 1) ?_
 rw [reads_take hk, h, Got.next, hc]
 simp only [hs]
end Oc
structure FOwn (B : Nat) (w : World) (f : Fld) : Prop where
 rd : Rd w (.slice f.A f.l f.c) f.bs
 len : f.bs.length = f.l
 own : 0 < f.l → ∃ g cs t, f.A = some ⟨g, 0, none⟩ ∧ B ≤ g ∧ Blk w g t cs ∧ t ≠ 91 ∧ t ≠ 121
def Kind (w : World) (row : Option Nat) : Prop := ∀ g, row = some g → ∃ cs t, Blk w g t cs ∧ (t = 91 ∨ t = 121)
theorem FOwn.step {B : Nat} {w w' : World} {f : Fld} {row : Option Nat} (h : FOwn B w f) (k : w.grownBy w' row) (hr : Kind w row) : FOwn B w' f := by
 have key : ∀ g cs t, Blk w g t cs → t ≠ 91 → t ≠ 121 → some g ≠ row := by
  rintro g cs t hB h1 h2 rfl
  obtain ⟨cs', t', hB', ht⟩ := hr g rfl
  have e := hB.symm.trans hB'
  injection e with e
  injection e with _ e _
  subst e
  exact ht.elim h1 h2
 refine ⟨?_, h.len, fun h0 => ?_⟩
 ·obtain ⟨A', c', hv, hc, hA⟩ := h.rd
  refine ⟨A', c', hv, hc, fun h0 => ?_⟩
  obtain ⟨b, o, ha, hb, hx⟩ := hA h0
  injection hv with e1 e2 e3
  obtain ⟨g, cs, t, e4, _, hB, h1, h2⟩ := h.own (by rw [← h.len]; exact h0)
  rw [e1, ha] at e4
  injection e4 with e4
  injection e4 with e4 e5
  subst e4
  exact ⟨b, o, ha, Nat.lt_of_lt_of_le hb k.size, fun i hi => k.cell (hx i hi) (key b cs t hB h1 h2)⟩
 ·obtain ⟨g, cs, t, e4, hg, hB, h1, h2⟩ := h.own h0
  exact ⟨g, cs, t, e4, hg, hB.grown k (key g cs t hB h1 h2), h1, h2⟩
theorem kind_none (w : World) : Kind w none := fun _ h => by cases h
theorem FOwn.below {B : Nat} {w w' : World} {f : Fld} (h : FOwn B w f) (hb : Below w.heap.size w w') : FOwn B w' f := h.step (only_of_below hb none) (kind_none w)
theorem kind_own {w : World} {B n : Nat} {v : Value} {cs : List Value} (h : w.ownsRow B 91 2 v n cs) : Kind w v.ownBlock := fun g hg => by
 rcases h.2 with ⟨rfl, _⟩ | ⟨g', cap, cur, rfl, _, hh, _⟩
 ·cases hg
 ·cases hg
  exact ⟨cur, _, hh, Or.inl rfl⟩
structure FX (w0 wf w : World) (i r : Nat) (v : Value) (k : Nat) (fs : List Fld) (ys : List Nat) : Prop where
 at_ : InAt w0 w i r ys
 row : w.ownsRow wf.heap.size 91 2 v k (cellsF fs)
 fld : ∀ f ∈ fs, FOwn wf.heap.size w f
 grw : wf.grownBy w (some r)
 old : r < wf.heap.size ∧ i < wf.heap.size ∧ w0.heap.size ≤ wf.heap.size
theorem InAt.kind {w0 w : World} {i r : Nat} {xs : List Nat} (h : InAt w0 w i r xs) : Kind w (some r) := fun g hg => by
 injection hg with hg
 subst hg
 obtain ⟨v, k, _⟩ := h
 exact ⟨_, _, k.r_, Or.inr rfl⟩
theorem own_ne {w : World} {B n r : Nat} {v : Value} {cs : List Value} {e : TypeId} (h : w.ownsRow B e 2 v n cs) (hr : r < B) : some r ≠ v.ownBlock := fun e => by
 have := (h.lt r e.symm).1
 omega
theorem FX.start {w0 w : World} {i r : Nat} {xs : List Nat} (h : InAt w0 w i r xs) : FX w0 w w i r (.slice none 0 0) 0 [] xs := by
 have h2 := h
 obtain ⟨v, k, hr, hw, h1, h3⟩ := h2
 exact ⟨h, ⟨by decide, .inl ⟨rfl, rfl⟩⟩, fun f hf => (by cases hf), World.grownBy.refl w _, k.r_.lt, k.i_.lt, hw.size⟩
section
variable {w0 wf w w' : World} {i r k : Nat} {v : Value} {fs : List Fld} {ys : List Nat}
theorem FX.read (h : FX w0 wf w i r v k fs ys) (hg : w.grownBy w' (some r)) {zs : List Nat} (hi : InAt w0 w' i r zs) : FX w0 wf w' i r v k fs zs :=
 ⟨hi, h.row.kept hg (by cases hv : v.ownBlock with | none => exact Or.inl rfl | some g => exact Or.inr (fun e => own_ne h.row h.old.1 (by rw [hv, e]))), fun f hf => (h.fld f hf).step hg h.at_.kind, only_trans h.grw hg, h.old⟩
theorem FX.below (h : FX w0 wf w i r v k fs ys) (hb : Below w.heap.size w w') : FX w0 wf w' i r v k fs ys :=
 ⟨h.at_.below hb, h.row.kept (only_of_below hb none) (by cases hv : v.ownBlock with | none => exact Or.inl rfl | some g => exact Or.inr (by simp)), fun f hf => (h.fld f hf).below hb, only_trans h.grw (only_of_below hb _), h.old⟩
theorem FX.app (h : FX w0 wf w i r v k fs ys) {v2 : Value} {f : Fld} (ho : w'.ownsRow wf.heap.size 91 2 v2 (k + 1) (cellsF fs ++ [.int .i64 f.n, .slice f.A f.l f.c])) (hg : w.grownBy w' v.ownBlock) (hf : FOwn wf.heap.size w f) : FX w0 wf w' i r v2 (k + 1) (fs ++ [f]) ys := by
 have hk := kind_own h.row
 have n1 := own_ne h.row h.old.1
 have n2 := own_ne h.row h.old.2.1
 obtain ⟨u, a, hr, hw, h1, h2⟩ := h.at_
 refine ⟨⟨u, ⟨a.i_.grown hg n2, a.r_.grown hg n1, a.ne⟩, hr, below_own hw h.row h.old.2.2 hg, h1, h2⟩, by simpa [cellsF] using ho, fun x hx => ?_, ?_, h.old⟩
 ·rcases List.mem_append.1 hx with hx | hx
  ·exact (h.fld x hx).step hg hk
  ·rw [List.mem_singleton.1 hx]; exact hf.step hg hk
 ·refine ⟨hg.os.trans h.grw.os, hg.tape.trans h.grw.tape, hg.output.trans h.grw.output, Nat.le_trans h.grw.size hg.size, fun j hj hne => ?_⟩
  rw [hg.block j (Nat.lt_of_lt_of_le hj h.grw.size) (own_ne h.row hj)]
  exact h.grw.block j hj hne
end
end Go.Proofs.YtdokojlgcplefaaDoor
